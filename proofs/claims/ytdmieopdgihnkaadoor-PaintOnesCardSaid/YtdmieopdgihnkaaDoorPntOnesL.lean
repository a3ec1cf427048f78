/- The law PaintOnes. Written by tools/gen_pnt_laws.py. -/
import Derived.Test.YtdmieopdgihnkaaDoorBunRop
import Derived.Test.YtdmieopdgihnkaaDoorPntAwake
import Derived.Test.YtdmieopdgihnkaaDoorBunGrd
import Derived.Test.YtdmieopdgihnkaaDoorBunGrd
import Derived.Test.YtdmieopdgihnkaaDoorOpnScr
import Derived.Test.YtdmieopdgihnkaaDoorBunPnt
namespace Go.Proofs.YtdmieopdgihnkaaDoor
open Go.RowKit Sha Six Apd Cut Err Att Grd Fld
set_option linter.unusedVariables false
namespace Pnt
set_option maxRecDepth 100000 in
set_option maxHeartbeats 8000000 in
theorem ones_any (s : S) (ad : Option Addr) (k : Nat) (a : Int) (ok : Int) (ta : Option Addr) (tn tc : Nat) (zs : List Int) (op on_ : Bool) (oq : Int) (om : Bool) (oa oc : Int) (w : World) (h : CelsIn w (.slice ad s.cs.length k) s.cs) (hwf : Opn.Wf s.cs) (hm : s.cs.length ≤ maxLen) (wa : (Lit.int .u16 a).wf = true) (hr : IsRow .u8 w ta tn tc zs) (wc : (Lit.int .u8 oc).wf = true) (hg : Handle w) :
    Calls Tryd.prog 3 #[.agg #[.int .i64 s.rows, .int .i64 s.cols, .slice ad s.cs.length k, .int .i64 s.cur, .bool s.lk, .bool s.ins], .int .u16 a, .agg #[.int .i64 ok, .slice ta tn tc, .bool op, .bool on_, .int .i64 oq, .bool om, .int .i64 oa, .int .u8 oc]] w fun e w' => e = .returned (.bool true) ∧ Below w.heap.size w w' := by
  obtain ⟨b0, b1⟩ := Go.Proofs.YtdmieopdgihnkaaDoor.Ord.wf_u16 wa
  obtain ⟨a, rfl⟩ := Int.eq_ofNat_of_zero_le b0
  have HA16 := Lib.hid b1
  have HAW := Lib.hid fun W (hb : Below w.heap.size w W) => awake_any W (hand_of hg hb)
  have HCO := Lib.hid fun W ev (c n : Int) (hb : Below w.heap.size w W) (ht : Err.Told W ev c n) => code_told ev c n W (hand_of hg hb) ht
  have HWH := Lib.hid fun W ev (c n : Int) (hb : Below w.heap.size w W) (ht : Err.Told W ev c n) => where_told ev c n W (hand_of hg hb) ht
  obtain ⟨t, _, ht8, hBt⟩ := isRow_bytes hr
  have hT := hBt
  obtain rfl := blen hBt
  obtain ⟨c0, c1⟩ := Go.Proofs.YtdmieopdgihnkaaDoor.Ord.wf_u8 wc
  obtain ⟨oc, rfl⟩ := Int.eq_ofNat_of_zero_le c0
  have hc8 : oc < 256 := by omega
  have HT := Lib.hid hT
  have HT8 := Lib.hid ht8
  have HC8 := Lib.hid hc8
  have HB := Lib.hid (kept_trans (al_any w (.cells #[.int .i64 s.rows, .int .i64 s.cols, .slice ad s.cs.length k, .int .i64 s.cur, .bool s.lk, .bool s.ins] 24)) (al_any _ (.cells #[.int .i64 ok, .slice ta t.length tc, .bool op, .bool on_, .int .i64 oq, .bool om, .int .i64 oa, .int .u8 (oc : Int)] 30)))
  have HX := Lib.hid (heap_alloc2_old w (.cells #[.int .i64 s.rows, .int .i64 s.cols, .slice ad s.cs.length k, .int .i64 s.cur, .bool s.lk, .bool s.ins] 24) (.cells #[.int .i64 ok, .slice ta t.length tc, .bool op, .bool on_, .int .i64 oq, .bool om, .int .i64 oa, .int .u8 (oc : Int)] 30))
  have HY := Lib.hid (heap_alloc2_new w (.cells #[.int .i64 s.rows, .int .i64 s.cols, .slice ad s.cs.length k, .int .i64 s.cur, .bool s.lk, .bool s.ins] 24) (.cells #[.int .i64 ok, .slice ta t.length tc, .bool op, .bool on_, .int .i64 oq, .bool om, .int .i64 oa, .int .u8 (oc : Int)] 30))
  have HI := Lib.hid (h.below HB.out)
  have HF := Lib.hid fun W hb => rfew_any s ad k W (HI.out.below hb) (wf_sound hwf)
  have H8 := Lib.hid (wf_sound hwf)
  clear h hwf hm wa hr wc c0 c1 b0 b1 hT ht8 hc8 hg
  cases hf : few s with
  | false =>
    rw [hf] at HF
    go_enter Tryd.func3, Tryd.ntmps3
    go_upto_region 1 with (fail)
    generalize (w.alloc _).alloc _ = w1 at *
    go_wp2_with fail
    with_reducible refine (HAW.out _ HB.out).mono ?_
    rintro e w2 ⟨rfl, hb⟩
    have K2 := Lib.hid hb
    have X2 := Lib.hid (blk HX.out hb)
    have K2' := kept_hid HB hb
    clear hb
    obtain ⟨c0, c1, c2, c3, c4, c5⟩ := cells6 X2.out
    go_wp2_with fail
    with_reducible refine (HF.out _ K2.out).mono ?_
    rintro e w3 ⟨rfl, hb⟩
    have K3 := kept_hid K2' hb
    clear hb c0 c1 c2 c3 c4 c5
    go_wp2_with fail
    with_reducible refine (HAW.out _ K3.out).mono ?_
    rintro e w4 ⟨rfl, hb⟩
    have KE := kept_hid K3 hb
    clear hb
    go_wp2_with fail
    go_ret
    exact ⟨rfl, KE.out⟩
  | true =>
    rw [hf] at HF
    by_cases htl : 300 < t.length
    · have hgt : decide ((300 : Int) < (t.length : Int)) = true := decide_eq_true (by omega)
      go_enter Tryd.func3, Tryd.ntmps3
      go_upto_region 1 with (fail)
      generalize (w.alloc _).alloc _ = w1 at *
      go_wp2_with fail
      with_reducible refine (HAW.out _ HB.out).mono ?_
      rintro e w2 ⟨rfl, hb⟩
      have K2 := Lib.hid hb
      have X2 := Lib.hid (blk HX.out hb)
      have Y2 := Lib.hid (blk HY.out hb)
      have K2' := kept_hid HB hb
      have I2 := Lib.hid (HI.out.below hb)
      clear hb
      obtain ⟨c0, c1, c2, c3, c4, c5⟩ := cells6 X2.out
      go_wp2_with fail
      with_reducible refine (HF.out _ K2.out).mono ?_
      rintro e w3 ⟨rfl, hb⟩
      have K3 := kept_hid K2' hb
      have X3 := Lib.hid (blk X2.out hb)
      have Y3 := Lib.hid (blk Y2.out hb)
      have I3 := Lib.hid (I2.out.below hb)
      clear hb c0 c1 c2 c3 c4 c5 K2 K2' X2 Y2 I2 HB HX HY HI HF
      obtain ⟨c0, c1, c2, c3, c4, c5⟩ := cells6 X3.out
      obtain ⟨d0, d1, d2, d3, d4, d5, d6, d7⟩ := cells8 Y3.out
      go_wp2_with fail
      with_reducible refine (HAW.out _ K3.out).mono ?_
      rintro e w4 ⟨rfl, hb⟩
      have KE := kept_hid K3 hb
      clear hb
      go_wp2_with fail
      go_ret
      exact ⟨rfl, KE.out⟩
    · have hle : decide ((300 : Int) < (t.length : Int)) = false := decide_eq_false (by omega)
      have HTL := Lib.hid (show t.length < 1000000 from by omega)
      clear htl
      obtain ⟨q1, q2, q3⟩ := few_parts hf
      have HL := Lib.hid q1
      have HP := Lib.hid q2
      have HR := Lib.hid q3
      have HXX := Lib.hid (show ((a : Int) % (s.cs.length : Int)) = ((a % s.cs.length : Nat) : Int) by omega)
      have HXL := Lib.hid (Nat.mod_lt a q2)
      generalize a % s.cs.length = x at *
      clear q1 q2 q3
      by_cases hwr : Go.Proofs.YtdmieopdgihnkaaDoor.Ord.wrong ⟨ok, t, op, on_, oq, om, oa, oc⟩ s.cs.length = 0
      · clear hf
        have HWQ := Lib.hid hwr
        clear hwr
        go_enter Tryd.func3, Tryd.ntmps3
        go_upto_region 1 with (fail)
        generalize (w.alloc _).alloc _ = w1 at *
        go_wp2_with fail
        with_reducible refine (HAW.out _ HB.out).mono ?_
        rintro e w2 ⟨rfl, hb⟩
        have K2 := Lib.hid hb
        have X2 := Lib.hid (blk HX.out hb)
        have Y2 := Lib.hid (blk HY.out hb)
        have K2' := kept_hid HB hb
        have I2 := Lib.hid (HI.out.below hb)
        clear hb
        obtain ⟨c0, c1, c2, c3, c4, c5⟩ := cells6 X2.out
        go_wp2_with fail
        with_reducible refine (HF.out _ K2.out).mono ?_
        rintro e w3 ⟨rfl, hb⟩
        have K3 := kept_hid K2' hb
        have X3 := Lib.hid (blk X2.out hb)
        have Y3 := Lib.hid (blk Y2.out hb)
        have I3 := Lib.hid (I2.out.below hb)
        clear hb c0 c1 c2 c3 c4 c5 K2 K2' X2 Y2 I2 HB HX HY HI HF
        obtain ⟨c0, c1, c2, c3, c4, c5⟩ := cells6 X3.out
        obtain ⟨d0, d1, d2, d3, d4, d5, d6, d7⟩ := cells8 Y3.out
        have HONE := Lib.hid (one_ok s ad k x ⟨ok, t, op, on_, oq, om, oa, oc⟩ ta t.length tc w3 I3.out HR.out H8.out (by have := HL.out; omega) HXL.out (bytes_below HT.out K3.out) HT8.out HTL.out HC8.out HWQ.out)
        go_upto_region 3 with (fail)
        clear hle
        have hne : ¬ ((s.cs.length : Int) = 0) := by have := HP.out; omega
        have b1 := HA16.out
        have b0 : (0 : Int) ≤ (a : Int) := by omega
        go_upto_region 4 with (fail)
        rw [HXX.out]
        clear b0 b1 hne
        go_wp2_with fail
        have hwr := HWQ.out
        clear HWQ
        with_reducible refine HONE.out.mono ?_
        rintro e w4 ⟨va, vc, rfl, ho, hb⟩
        clear HONE c0 c1 c2 c3 c4 c5 d0 d1 d2 d3 d4 d5 d6 d7
        have HPR := Lib.hid (pone_rest s x ⟨ok, t, op, on_, oq, om, oa, oc⟩)
        have HRO := Lib.hid fun W hi hb => rone_any s ad k x ⟨ok, t, op, on_, oq, om, oa, oc⟩ ta t.length tc W hi (by have := HL.out; omega) HXL.out hwr (bytes_below HT.out hb) HT8.out HTL.out HC8.out
        generalize pone s x ⟨ok, t, op, on_, oq, om, oa, oc⟩ = st at *
        obtain ⟨st, pl⟩ := st
        simp only at ho HPR
        simp only [Done] at HRO
        have HWR := Lib.hid fun W hb => Go.Proofs.YtdmieopdgihnkaaDoor.Ord.rwrong_any ⟨ok, t, op, on_, oq, om, oa, oc⟩ ta t.length tc s.cs.length W (bytes_below HT.out hb) HT8.out HTL.out HC8.out
        rw [hwr] at HWR
        simp only [show ((0 : Nat) : Int) = 0 from rfl] at HWR
        clear hwr
        have HA := al_any w4 (.cells #[.int .i64 st.rows, .int .i64 st.cols, .slice va st.cs.length vc, .int .i64 st.cur, .bool st.lk, .bool st.ins] 24)
        have T5 := Lib.hid (heap_alloc_new w4 (.cells #[.int .i64 st.rows, .int .i64 st.cols, .slice va st.cs.length vc, .int .i64 st.cur, .bool st.lk, .bool st.ins] 24))
        have X5 := Lib.hid (blk X3.out (kept_trans hb HA))
        have Y5 := Lib.hid (blk Y3.out (kept_trans hb HA))
        have I5 := Lib.hid (I3.out.below (kept_trans hb HA))
        have K5 := kept_hid K3 (kept_trans hb HA)
        have O5 := Lib.hid ((OwnCels.below ho HA).to)
        clear HA ho hb X3 Y3 I3 K3
        go_upto_region 5 with (fail)
        generalize w4.heap.size = B at *
        generalize w4.alloc _ = w5 at *
        obtain ⟨c0, c1, c2, c3, c4, c5⟩ := cells6 X5.out
        obtain ⟨d0, d1, d2, d3, d4, d5, d6, d7⟩ := cells8 Y5.out
        go_wp2_with fail
        with_reducible refine (HWR.out _ K5.out).mono ?_
        rintro e w6 ⟨rfl, hb⟩
        clear c0 c1 c2 c3 c4 c5 d0 d1 d2 d3 d4 d5 d6 d7
        have T6 := Lib.hid (blk T5.out hb)
        have X6 := Lib.hid (blk X5.out hb)
        have Y6 := Lib.hid (blk Y5.out hb)
        have I6 := Lib.hid (I5.out.below hb)
        have K6 := kept_hid K5 hb
        have O6 := Lib.hid (O5.out.below hb)
        clear hb T5 X5 Y5 I5 K5 O5 HWR
        obtain ⟨c0, c1, c2, c3, c4, c5⟩ := cells6 X6.out
        obtain ⟨d0, d1, d2, d3, d4, d5, d6, d7⟩ := cells8 Y6.out
        go_wp2_with fail
        with_reducible refine (HRO.out _ I6.out K6.out).mono ?_
        rintro e w7 ⟨va2, vc2, rfl, ho, hb⟩
        clear c0 c1 c2 c3 c4 c5 d0 d1 d2 d3 d4 d5 d6 d7
        have HA := al_any w7 (.cells #[.int .i64 st.rows, .int .i64 st.cols, .slice va2 st.cs.length vc2, .int .i64 st.cur, .bool st.lk, .bool st.ins] 24)
        have U8 := Lib.hid (heap_alloc_new w7 (.cells #[.int .i64 st.rows, .int .i64 st.cols, .slice va2 st.cs.length vc2, .int .i64 st.cur, .bool st.lk, .bool st.ins] 24))
        have T8 := Lib.hid (blk T6.out (kept_trans hb HA))
        have K8 := kept_hid K6 (kept_trans hb HA)
        have O8 := Lib.hid (O6.out.below (kept_trans hb HA))
        have P8 := Lib.hid ((OwnCels.below ho HA).to)
        clear HA ho hb T6 X6 Y6 I6 K6 O6 HRO
        go_upto_region 9 with (fail)
        generalize w7.heap.size = B2 at *
        generalize w7.alloc _ = w8 at *
        have HSM := Lib.hid (rsame_any st.rows st.cols st.cur st.lk st.ins va st.cs.length vc va2 st.cs.length vc2 st.cs st.cs w8 O8.out P8.out (by have := HPR.out.2.2.1; have := HL.out; omega))
        rw [decide_eq_true rfl] at HSM
        obtain ⟨c0, c1, c2, c3, c4, c5⟩ := cells6 T8.out
        obtain ⟨d0, d1, d2, d3, d4, d5⟩ := cells6 U8.out
        go_wp2_with fail
        with_reducible refine HSM.out.mono ?_
        rintro e w9 ⟨rfl, hb⟩
        have K9 := kept_hid K8 hb
        clear hb
        go_wp2_with fail
        go_ret
        exact ⟨rfl, K9.out⟩
      · clear hf
        have HWQ := Lib.hid hwr
        clear hwr
        go_enter Tryd.func3, Tryd.ntmps3
        go_upto_region 1 with (fail)
        generalize (w.alloc _).alloc _ = w1 at *
        go_wp2_with fail
        with_reducible refine (HAW.out _ HB.out).mono ?_
        rintro e w2 ⟨rfl, hb⟩
        have K2 := Lib.hid hb
        have X2 := Lib.hid (blk HX.out hb)
        have Y2 := Lib.hid (blk HY.out hb)
        have K2' := kept_hid HB hb
        have I2 := Lib.hid (HI.out.below hb)
        clear hb
        obtain ⟨c0, c1, c2, c3, c4, c5⟩ := cells6 X2.out
        go_wp2_with fail
        with_reducible refine (HF.out _ K2.out).mono ?_
        rintro e w3 ⟨rfl, hb⟩
        have K3 := kept_hid K2' hb
        have X3 := Lib.hid (blk X2.out hb)
        have Y3 := Lib.hid (blk Y2.out hb)
        have I3 := Lib.hid (I2.out.below hb)
        clear hb c0 c1 c2 c3 c4 c5 K2 K2' X2 Y2 I2 HB HX HY HI HF
        obtain ⟨c0, c1, c2, c3, c4, c5⟩ := cells6 X3.out
        obtain ⟨d0, d1, d2, d3, d4, d5, d6, d7⟩ := cells8 Y3.out
        have HONE := Lib.hid (one_no s ad k x ⟨ok, t, op, on_, oq, om, oa, oc⟩ ta t.length tc w3 I3.out HR.out H8.out (by have := HL.out; omega) HXL.out (bytes_below HT.out K3.out) HT8.out HTL.out HC8.out HWQ.out)
        go_upto_region 3 with (fail)
        clear hle
        have hne : ¬ ((s.cs.length : Int) = 0) := by have := HP.out; omega
        have b1 := HA16.out
        have b0 : (0 : Int) ≤ (a : Int) := by omega
        go_upto_region 4 with (fail)
        rw [HXX.out]
        clear b0 b1 hne
        go_wp2_with fail
        have hwr := HWQ.out
        clear HWQ
        with_reducible refine HONE.out.mono ?_
        rintro e w4 ⟨wh, va, vc, ev, rfl, hci, htd, hb⟩
        clear HONE c0 c1 c2 c3 c4 c5 d0 d1 d2 d3 d4 d5 d6 d7
        have HWR := Lib.hid fun W hb => Go.Proofs.YtdmieopdgihnkaaDoor.Ord.rwrong_any ⟨ok, t, op, on_, oq, om, oa, oc⟩ ta t.length tc s.cs.length W (bytes_below HT.out hb) HT8.out HTL.out HC8.out
        generalize Go.Proofs.YtdmieopdgihnkaaDoor.Ord.wrong ⟨ok, t, op, on_, oq, om, oa, oc⟩ s.cs.length = code at *
        have hcn : ((code : Int) != 0) = true := by simp; exact hwr
        have hcn1 : ((code : Int) == 0) = false := by simp; exact hwr
        have HA := al_any w4 (.cells #[.int .i64 s.rows, .int .i64 s.cols, .slice va s.cs.length vc, .int .i64 s.cur, .bool s.lk, .bool s.ins] 24)
        have T5 := Lib.hid (heap_alloc_new w4 (.cells #[.int .i64 s.rows, .int .i64 s.cols, .slice va s.cs.length vc, .int .i64 s.cur, .bool s.lk, .bool s.ins] 24))
        have X5 := Lib.hid (blk X3.out (kept_trans hb HA))
        have Y5 := Lib.hid (blk Y3.out (kept_trans hb HA))
        have I5 := Lib.hid (I3.out.below (kept_trans hb HA))
        have K5 := kept_hid K3 (kept_trans hb HA)
        have O5 := Lib.hid (hci.below HA)
        have E5 := Lib.hid (Err.Told.below htd HA)
        clear HA hci htd hb X3 Y3 I3 K3 hwr
        go_upto_region 5 with (fail)
        generalize w4.heap.size = B at *
        generalize w4.alloc _ = w5 at *
        obtain ⟨c0, c1, c2, c3, c4, c5⟩ := cells6 X5.out
        obtain ⟨d0, d1, d2, d3, d4, d5, d6, d7⟩ := cells8 Y5.out
        go_wp2_with fail
        with_reducible refine (HWR.out _ K5.out).mono ?_
        rintro e w6 ⟨rfl, hb⟩
        clear c0 c1 c2 c3 c4 c5 d0 d1 d2 d3 d4 d5 d6 d7
        have T6 := Lib.hid (blk T5.out hb)
        have X6 := Lib.hid (blk X5.out hb)
        have I6 := Lib.hid (I5.out.below hb)
        have K6 := kept_hid K5 hb
        have O6 := Lib.hid (O5.out.below hb)
        have E6 := Lib.hid (Err.Told.below E5.out hb)
        clear hb T5 X5 Y5 I5 K5 O5 E5 HWR
        go_wp2_with fail
        with_reducible refine (HCO.out _ _ _ _ K6.out E6.out).mono ?_
        rintro e w7 ⟨rfl, hb⟩
        have T7 := Lib.hid (blk T6.out hb)
        have X7 := Lib.hid (blk X6.out hb)
        have I7 := Lib.hid (I6.out.below hb)
        have K7 := kept_hid K6 hb
        have O7 := Lib.hid (O6.out.below hb)
        clear hb T6 X6 I6 K6 O6 E6
        have HSM := Lib.hid (rsame_any s.rows s.cols s.cur s.lk s.ins va s.cs.length vc ad s.cs.length k s.cs s.cs w7 O7.out I7.out (by have := HL.out; omega))
        rw [decide_eq_true rfl] at HSM
        obtain ⟨c0, c1, c2, c3, c4, c5⟩ := cells6 X7.out
        obtain ⟨d0, d1, d2, d3, d4, d5⟩ := cells6 T7.out
        go_wp2_with fail
        with_reducible refine HSM.out.mono ?_
        rintro e w9 ⟨rfl, hb⟩
        have K9 := kept_hid K7 hb
        clear hb
        go_wp2_with fail
        go_ret
        exact ⟨rfl, K9.out⟩
end Pnt
end Go.Proofs.YtdmieopdgihnkaaDoor
