/- The law KeysDo. Written by tools/gen_kyb_laws.py. -/
import Derived.Test.YtpgbnnnfeaodmaaGreatDoorSKybAwake
import Derived.Test.YtpgbnnnfeaodmaaGreatDoorSKybRef
import Derived.Test.YtpgbnnnfeaodmaaGreatDoorSBunGrd
import Derived.Test.YtpgbnnnfeaodmaaGreatDoorSBunGrd
import Derived.Test.YtpgbnnnfeaodmaaGreatDoorSOpnScr
import Derived.Test.YtpgbnnnfeaodmaaGreatDoorSOpnKey
import Derived.StillTailTactics
import Derived.Deep.Cut
import Derived.Deep.RegionHeld3
namespace Go.Proofs.YtpgbnnnfeaodmaaGreatDoor
open Go.RowKit Sha Six Apd Cut Err Att Grd Fld Scr Edt
set_option linter.unusedVariables false
namespace Kyb
set_option maxRecDepth 100000 in
set_option maxHeartbeats 8000000 in
theorem does_any (s : S) (ad : Option Addr) (k : Nat) (kind c : Int) (w : World) (h : CelsIn w (.slice ad s.cs.length k) s.cs) (hwf : Opn.Wf s.cs) (hm : s.cs.length ≤ maxLen) (wkind : (Lit.int .i64 kind).wf = true) (wc : (Lit.int .u8 c).wf = true) (hg : Handle w) :
    Calls Tryz.prog 3 #[.agg #[.int .i64 s.rows, .int .i64 s.cols, .slice ad s.cs.length k, .int .i64 s.cur, .bool s.lk, .bool s.ins], .agg #[.int .i64 kind, .int .u8 c]] w fun e w' => e = .returned (.bool true) ∧ Below w.heap.size w w' := by
  obtain ⟨b0c, b1c⟩ := Go.Proofs.YtpgbnnnfeaodmaaGreatDoor.Ord.wf_u8 wc
  obtain ⟨c, rfl⟩ := Int.eq_ofNat_of_zero_le b0c
  have HBc := Lib.hid (show c < 256 by omega)
  have HAW := Lib.hid fun W (hb : Below w.heap.size w W) => awake_any W (hand_of hg hb)
  have HB := Lib.hid (kept_trans (al_any w (.cells #[.int .i64 s.rows, .int .i64 s.cols, .slice ad s.cs.length k, .int .i64 s.cur, .bool s.lk, .bool s.ins] 24)) (al_any _ (.cells #[.int .i64 kind, .int .u8 (c : Int)] 26)))
  have HX := Lib.hid (heap_alloc2_old w (.cells #[.int .i64 s.rows, .int .i64 s.cols, .slice ad s.cs.length k, .int .i64 s.cur, .bool s.lk, .bool s.ins] 24) (.cells #[.int .i64 kind, .int .u8 (c : Int)] 26))
  have HY := Lib.hid (heap_alloc2_new w (.cells #[.int .i64 s.rows, .int .i64 s.cols, .slice ad s.cs.length k, .int .i64 s.cur, .bool s.lk, .bool s.ins] 24) (.cells #[.int .i64 kind, .int .u8 (c : Int)] 26))
  have HI := Lib.hid (h.below HB.out)
  have HF := Lib.hid fun W hb => rfew_any s ad k W (HI.out.below hb) (wf_sound hwf)
  have H8 := Lib.hid (wf_sound hwf)
  have HCO := Lib.hid fun W ev (c n : Int) (hb : Below w.heap.size w W) (ht : Err.Told W ev c n) => code_told ev c n W (hand_of hg hb) ht
  have HWH := Lib.hid fun W ev (c n : Int) (hb : Below w.heap.size w W) (ht : Err.Told W ev c n) => where_told ev c n W (hand_of hg hb) ht
  clear h hwf hm hg wkind wc b0c b1c
  cases hf : few s with
  | false =>
    rw [hf] at HF
    go_enter Tryz.func3, Tryz.ntmps3
    go_upto_region 1 with (fail)
    generalize (w.alloc _).alloc _ = w1 at *
    go_wp2_with fail
    with_reducible refine (HAW.out _ HB.out).mono ?_
    rintro e w2 ⟨rfl, hb⟩
    have K2 := Lib.hid hb
    have X2 := Lib.hid (blk HX.out hb)
    have Y2 := Lib.hid (blk HY.out hb)
    have K2' := kept_hid HB hb
    have I2 := Lib.hid (HI.out.below hb)
    clear hb
    obtain ⟨c0, c1, c2, c3, c4, c5⟩ := cells6 X2.out
    go_wp2_with fail
    with_reducible refine (HF.out _ K2.out).mono ?_
    rintro e w3 ⟨rfl, hb⟩
    have K3 := kept_hid K2' hb
    have X3 := Lib.hid (blk X2.out hb)
    have Y3 := Lib.hid (blk Y2.out hb)
    have I3 := Lib.hid (I2.out.below hb)
    clear hb c0 c1 c2 c3 c4 c5 K2 K2' X2 Y2 I2 HB HX HY HI HF
    go_wp2_with fail
    with_reducible refine (HAW.out _ K3.out).mono ?_
    rintro e w4 ⟨rfl, hb⟩
    have KE := kept_hid K3 hb
    clear hb
    go_wp2_with fail
    go_ret
    exact ⟨rfl, KE.out⟩
  | true =>
    rw [hf] at HF
    obtain ⟨q1, q2, q3⟩ := few_parts hf
    have HL := Lib.hid q1
    have HP := Lib.hid q2
    have HR := Lib.hid q3
    have HLT := Lib.hid (show s.cs.length < 10000 from by have := HL.out; omega)
    clear q1 q2 q3 hf
    go_enter Tryz.func3, Tryz.ntmps3
    go_upto_region 1 with (fail)
    generalize (w.alloc _).alloc _ = w1 at *
    go_wp2_with fail
    with_reducible refine (HAW.out _ HB.out).mono ?_
    rintro e w2 ⟨rfl, hb⟩
    have K2 := Lib.hid hb
    have X2 := Lib.hid (blk HX.out hb)
    have Y2 := Lib.hid (blk HY.out hb)
    have K2' := kept_hid HB hb
    have I2 := Lib.hid (HI.out.below hb)
    clear hb
    obtain ⟨c0, c1, c2, c3, c4, c5⟩ := cells6 X2.out
    go_wp2_with fail
    with_reducible refine (HF.out _ K2.out).mono ?_
    rintro e w3 ⟨rfl, hb⟩
    have K3 := kept_hid K2' hb
    have X3 := Lib.hid (blk X2.out hb)
    have Y3 := Lib.hid (blk Y2.out hb)
    have I3 := Lib.hid (I2.out.below hb)
    clear hb c0 c1 c2 c3 c4 c5 K2 K2' X2 Y2 I2 HB HX HY HI HF
    clear HAW
    have HTL := Lib.hid (kdo_length s kind c)
    have Q1 := Lib.hid (do_any s ad k c kind w3 I3.out HR.out H8.out HLT.out HBc.out)
    have Q2 := Lib.hid fun W (h : CelsIn W (.slice ad s.cs.length k) s.cs) => rkdo_any s ad k c kind W h HR.out HLT.out HBc.out
    simp only [GaveK] at Q1
    simp only [ShownK] at Q2
    generalize (kdo s kind c).2.2.2 = wh at *
    generalize (kdo s kind c).2.2.1 = code at *
    generalize (kdo s kind c).2.1 = asks at *
    generalize (kdo s kind c).1 = t at *
    have HLN := Lib.hid (show t.cs.length < 1000000000 from by rw [HTL.out.1]; have := HL.out; omega)
    obtain ⟨c0, c1, c2, c3, c4, c5⟩ := cells6 X3.out
    obtain ⟨y0, y1⟩ := cells2 Y3.out
    go_wp2_with fail
    with_reducible refine Q1.out.mono ?_
    rintro e w4 ⟨va1, vc1, ev1, rfl, hc, ht, hn, hb⟩
    clear c0 c1 c2 c3 c4 c5 y0 y1
    have HA := al_any w4 (.cells #[.int .i64 t.rows, .int .i64 t.cols, .slice va1 t.cs.length vc1, .int .i64 t.cur, .bool t.lk, .bool t.ins] 24)
    have B1 := Lib.hid (heap_alloc_new w4 (.cells #[.int .i64 t.rows, .int .i64 t.cols, .slice va1 t.cs.length vc1, .int .i64 t.cur, .bool t.lk, .bool t.ins] 24))
    have C1 := Lib.hid (hc.below HA)
    have T1 := Lib.hid (Err.Told.below ht HA)
    have E1 := Lib.hid (fun h => (hn h).1)
    replace hb := kept_trans hb HA
    replace X3 := Lib.hid (blk X3.out hb)
    replace Y3 := Lib.hid (blk Y3.out hb)
    replace I3 := Lib.hid (I3.out.below hb)
    replace K3 := kept_hid K3 hb
    clear HA hc ht hn hb
    go_upto_region 4 with (fail)
    generalize w4.heap.size = N1 at *
    generalize w4.alloc _ = w4b at *
    obtain ⟨c0, c1, c2, c3, c4, c5⟩ := cells6 X3.out
    obtain ⟨y0, y1⟩ := cells2 Y3.out
    go_wp2_with fail
    with_reducible refine (Q2.out _ I3.out).mono ?_
    rintro e w5 ⟨va2, vc2, rfl, hc, hb⟩
    clear c0 c1 c2 c3 c4 c5 y0 y1
    have HA := al_any w5 (.cells #[.int .i64 t.rows, .int .i64 t.cols, .slice va2 t.cs.length vc2, .int .i64 t.cur, .bool t.lk, .bool t.ins] 24)
    have B2 := Lib.hid (heap_alloc_new w5 (.cells #[.int .i64 t.rows, .int .i64 t.cols, .slice va2 t.cs.length vc2, .int .i64 t.cur, .bool t.lk, .bool t.ins] 24))
    have C2 := Lib.hid (hc.below HA)
    replace hb := kept_trans hb HA
    replace B1 := Lib.hid (blk B1.out hb)
    replace C1 := Lib.hid (C1.out.below hb)
    replace T1 := Lib.hid (Err.Told.below T1.out hb)
    replace K3 := kept_hid K3 hb
    clear HA hc hb
    go_upto_region 5 with (fail)
    generalize w5.heap.size = N2 at *
    generalize w5.alloc _ = w5b at *
    have HSM := Lib.hid (rsame_any t.rows t.cols t.cur t.lk t.ins va1 t.cs.length vc1 va2 t.cs.length vc2 t.cs t.cs w5b C1.out C2.out HLN.out)
    rw [decide_eq_true rfl] at HSM
    obtain ⟨c0, c1, c2, c3, c4, c5⟩ := cells6 B1.out
    obtain ⟨e0, e1, e2, e3, e4, e5⟩ := cells6 B2.out
    go_wp2_with fail
    with_reducible refine HSM.out.mono ?_
    rintro e w6 ⟨rfl, hb⟩
    replace K3 := kept_hid K3 hb
    replace T1 := Lib.hid (Err.Told.below T1.out hb)
    clear hb c0 c1 c2 c3 c4 c5 e0 e1 e2 e3 e4 e5
    go_wp2_with fail
    with_reducible refine (HCO.out _ _ _ _ K3.out T1.out).mono ?_
    rintro e w7 ⟨rfl, hb⟩
    replace K3 := kept_hid K3 hb
    replace T1 := Lib.hid (Err.Told.below T1.out hb)
    clear hb
    go_wp2_with fail
    with_reducible refine (HWH.out _ _ _ _ K3.out T1.out).mono ?_
    rintro e w8 ⟨rfl, hb⟩
    replace K3 := kept_hid K3 hb
    replace T1 := Lib.hid (Err.Told.below T1.out hb)
    clear hb
    have HRF := Lib.hid (refused_any _ _ _ w8 T1.out)
    have HRD := Lib.hid (show refd (code : Int) = (decide (7 ≤ (code : Int)) && decide ((code : Int) ≤ 10)) from by
      unfold refd
      rw [Bool.eq_iff_iff]
      simp
      omega)
    generalize refd (code : Int) = rf at *
    by_cases h7 : 7 ≤ (code : Int)
    · by_cases h10 : (code : Int) ≤ 10
      · have hr : rf = true := by rw [HRD.out]; simp [h7, h10]
        subst hr
        go_wp2_with fail
        with_reducible refine HRF.out.mono ?_
        rintro e w9 ⟨rfl, rfl⟩
        go_wp2_with fail
        go_ret
        exact ⟨rfl, K3.out⟩
      · have hr : rf = false := by rw [HRD.out]; simp [h10]
        subst hr
        go_wp2_with fail
        with_reducible refine HRF.out.mono ?_
        rintro e w9 ⟨rfl, rfl⟩
        go_wp2_with fail
        go_ret
        exact ⟨Mov.ret_b (by first | rfl | (simp; omega)), K3.out⟩
    · have hr : rf = false := by rw [HRD.out]; simp [h7]
      subst hr
      go_wp2_with fail
      with_reducible refine HRF.out.mono ?_
      rintro e w9 ⟨rfl, rfl⟩
      go_wp2_with fail
      go_ret
      exact ⟨rfl, K3.out⟩
end Kyb
end Go.Proofs.YtpgbnnnfeaodmaaGreatDoor
