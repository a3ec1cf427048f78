/- The law KeysAsk. Written by tools/gen_kyb_laws.py. -/
import Derived.Test.YtpgbnnnfeaodmaaGreatDoorKybAwake
import Derived.Test.YtpgbnnnfeaodmaaGreatDoorBunGrd
import Derived.Test.YtpgbnnnfeaodmaaGreatDoorBunGrd
import Derived.Test.YtpgbnnnfeaodmaaGreatDoorOpnScr
import Derived.Test.YtpgbnnnfeaodmaaGreatDoorOpnKey
import Derived.Test.YtpgbnnnfeaodmaaGreatDoorBunGrd
import Derived.Deep.LoopGhost
import Derived.Deep.QuietTactic
import Derived.BigQuiet
import Derived.StillTailTactics
import Derived.Deep.Cut
import Derived.Deep.RegionHeld3
namespace Go.Proofs.YtpgbnnnfeaodmaaGreatDoor
open Go.RowKit Sha Six Apd Cut Err Att Grd Fld Scr Edt
set_option linter.unusedVariables false
namespace Kyb
set_option maxRecDepth 100000 in
set_option maxHeartbeats 8000000 in
theorem ask_any (s : S) (ad : Option Addr) (k : Nat) (ch : Int) (kind c : Int) (w : World) (h : CelsIn w (.slice ad s.cs.length k) s.cs) (hwf : Opn.Wf s.cs) (hm : s.cs.length ≤ maxLen) (wch : (Lit.int .u8 ch).wf = true) (wkind : (Lit.int .i64 kind).wf = true) (wc : (Lit.int .u8 c).wf = true) (hg : Handle w) :
    Calls Tryz.prog 6 #[.agg #[.int .i64 s.rows, .int .i64 s.cols, .slice ad s.cs.length k, .int .i64 s.cur, .bool s.lk, .bool s.ins], .int .u8 ch, .agg #[.int .i64 kind, .int .u8 c]] w fun e w' => e = .returned (.bool true) ∧ Below w.heap.size w w' := by
  obtain ⟨b0ch, b1ch⟩ := Go.Proofs.YtpgbnnnfeaodmaaGreatDoor.Ord.wf_u8 wch
  obtain ⟨ch, rfl⟩ := Int.eq_ofNat_of_zero_le b0ch
  have HBch := Lib.hid (show ch < 256 by omega)
  obtain ⟨b0c, b1c⟩ := Go.Proofs.YtpgbnnnfeaodmaaGreatDoor.Ord.wf_u8 wc
  obtain ⟨c, rfl⟩ := Int.eq_ofNat_of_zero_le b0c
  have HBc := Lib.hid (show c < 256 by omega)
  have HAW := Lib.hid fun W (hb : Below w.heap.size w W) => awake_any W (hand_of hg hb)
  have HB := Lib.hid (kept_trans (al_any w (.cells #[.int .i64 s.rows, .int .i64 s.cols, .slice ad s.cs.length k, .int .i64 s.cur, .bool s.lk, .bool s.ins] 24)) (al_any _ (.cells #[.int .i64 kind, .int .u8 (c : Int)] 26)))
  have HX := Lib.hid (heap_alloc2_old w (.cells #[.int .i64 s.rows, .int .i64 s.cols, .slice ad s.cs.length k, .int .i64 s.cur, .bool s.lk, .bool s.ins] 24) (.cells #[.int .i64 kind, .int .u8 (c : Int)] 26))
  have HY := Lib.hid (heap_alloc2_new w (.cells #[.int .i64 s.rows, .int .i64 s.cols, .slice ad s.cs.length k, .int .i64 s.cur, .bool s.lk, .bool s.ins] 24) (.cells #[.int .i64 kind, .int .u8 (c : Int)] 26))
  have HI := Lib.hid (h.below HB.out)
  have HF := Lib.hid fun W hb => rfew_any s ad k W (HI.out.below hb) (wf_sound hwf)
  have H8 := Lib.hid (wf_sound hwf)
  clear h hwf hm hg wch wkind wc b0ch b1ch b0c b1c
  cases hf : few s with
  | false =>
    rw [hf] at HF
    go_enter Tryz.func6, Tryz.ntmps6
    go_upto_region 1 with (fail)
    generalize (w.alloc _).alloc _ = w1 at *
    go_wp2_with fail
    with_reducible refine (HAW.out _ HB.out).mono ?_
    rintro e w2 ⟨rfl, hb⟩
    have K2 := Lib.hid hb
    have X2 := Lib.hid (blk HX.out hb)
    have Y2 := Lib.hid (blk HY.out hb)
    have K2' := kept_hid HB hb
    have I2 := Lib.hid (HI.out.below hb)
    clear hb
    obtain ⟨c0, c1, c2, c3, c4, c5⟩ := cells6 X2.out
    go_wp2_with fail
    with_reducible refine (HF.out _ K2.out).mono ?_
    rintro e w3 ⟨rfl, hb⟩
    have K3 := kept_hid K2' hb
    have X3 := Lib.hid (blk X2.out hb)
    have Y3 := Lib.hid (blk Y2.out hb)
    have I3 := Lib.hid (I2.out.below hb)
    clear hb c0 c1 c2 c3 c4 c5 K2 K2' X2 Y2 I2 HB HX HY HI HF
    go_wp2_with fail
    with_reducible refine (HAW.out _ K3.out).mono ?_
    rintro e w4 ⟨rfl, hb⟩
    have KE := kept_hid K3 hb
    clear hb
    go_wp2_with fail
    go_ret
    exact ⟨rfl, KE.out⟩
  | true =>
    rw [hf] at HF
    obtain ⟨q1, q2, q3⟩ := few_parts hf
    have HL := Lib.hid q1
    have HP := Lib.hid q2
    have HR := Lib.hid q3
    have HLT := Lib.hid (show s.cs.length < 10000 from by have := HL.out; omega)
    clear q1 q2 q3 hf
    go_enter Tryz.func6, Tryz.ntmps6
    go_upto_region 1 with (fail)
    generalize (w.alloc _).alloc _ = w1 at *
    go_wp2_with fail
    with_reducible refine (HAW.out _ HB.out).mono ?_
    rintro e w2 ⟨rfl, hb⟩
    have K2 := Lib.hid hb
    have X2 := Lib.hid (blk HX.out hb)
    have Y2 := Lib.hid (blk HY.out hb)
    have K2' := kept_hid HB hb
    have I2 := Lib.hid (HI.out.below hb)
    clear hb
    obtain ⟨c0, c1, c2, c3, c4, c5⟩ := cells6 X2.out
    go_wp2_with fail
    with_reducible refine (HF.out _ K2.out).mono ?_
    rintro e w3 ⟨rfl, hb⟩
    have K3 := kept_hid K2' hb
    have X3 := Lib.hid (blk X2.out hb)
    have Y3 := Lib.hid (blk Y2.out hb)
    have I3 := Lib.hid (I2.out.below hb)
    clear hb c0 c1 c2 c3 c4 c5 K2 K2' X2 Y2 I2 HB HX HY HI HF
    clear HAW
    rcases kdo_aid s ch with ⟨h1, h2, h3⟩ | h1
    · have Q1 := do_any s ad k ch 17 w3 I3.out HR.out H8.out HLT.out HBch.out
      rw [h2, h3] at Q1
      simp only [GaveK] at Q1
      generalize (kdo s 17 ch).2.2.2 = wh at *
      generalize (kdo s 17 ch).2.2.1 = code at *
      clear h2 h3
      replace Q1 := Lib.hid Q1
      replace h1 := Lib.hid h1
      obtain ⟨c0, c1, c2, c3, c4, c5⟩ := cells6 X3.out
      go_wp2_with fail
      with_reducible refine Q1.out.mono ?_
      rintro e w4 ⟨va1, vc1, ev1, rfl, hc, ht, hn, hb⟩
      clear c0 c1 c2 c3 c4 c5
      have HA := al_any w4 (.cells #[.int .i64 s.rows, .int .i64 s.cols, .slice va1 s.cs.length vc1, .int .i64 s.cur, .bool s.lk, .bool s.ins] 24)
      have B1 := Lib.hid (heap_alloc_new w4 (.cells #[.int .i64 s.rows, .int .i64 s.cols, .slice va1 s.cs.length vc1, .int .i64 s.cur, .bool s.lk, .bool s.ins] 24))
      have C1 := Lib.hid (hc.below HA)
      have T1 := Lib.hid (Err.Told.below ht HA)
      have E1 := Lib.hid (fun h => (hn h).1)
      replace hb := kept_trans hb HA
      replace X3 := Lib.hid (blk X3.out hb)
      replace I3 := Lib.hid (I3.out.below hb)
      replace K3 := kept_hid K3 hb
      clear HA hc ht hn hb
      go_upto_region 4 with (fail)
      generalize w4.heap.size = N1 at *
      generalize w4.alloc _ = w4b at *
      obtain ⟨et, evv, hev⟩ := told_iface T1.out (by have := h1.out; omega)
      subst hev
      have HSM := Lib.hid (rsame_any s.rows s.cols s.cur s.lk s.ins va1 s.cs.length vc1 ad s.cs.length k s.cs s.cs w4b C1.out I3.out (by have := HL.out; omega))
      rw [decide_eq_true rfl] at HSM
      obtain ⟨c0, c1, c2, c3, c4, c5⟩ := cells6 X3.out
      obtain ⟨e0, e1, e2, e3, e4, e5⟩ := cells6 B1.out
      go_wp2_with fail
      with_reducible refine HSM.out.mono ?_
      rintro e w5 ⟨rfl, hb⟩
      have K9 := kept_hid K3 hb
      clear hb
      go_wp2_with fail
      go_ret
      exact ⟨rfl, K9.out⟩
    · obtain ⟨tc, tcur, ha, hl, hc1, hc2⟩ : ∃ tc tcur, asked s ch = ⟨s.rows, s.cols, tc, tcur, true, false⟩ ∧ tc.length = s.cs.length ∧ (ch = 109 → (∀ i, i < s.cs.length → tc.getD i noC = noC) ∧ tcur = 0) ∧ (ch ≠ 109 → tc = s.cs ∧ tcur = s.cur) := by
        refine ⟨_, _, rfl, asked_length s ch, fun h => ⟨fun i hi => ?_, if_pos h⟩, fun h => ⟨if_neg h, if_neg h⟩⟩
        rw [if_pos h, List.getD_eq_getElem?_getD, List.getElem?_replicate]
        split <;> rfl
      have HAR := asked_right HR.out ch
      rw [ha] at HAR h1
      have Q1 := do_any s ad k ch 17 w3 I3.out HR.out H8.out HLT.out HBch.out
      rw [h1] at Q1
      simp only [GaveK, show ((0 : Nat) : Int) = 0 from rfl] at Q1
      have Q2 := fun va vc W (h : CelsIn W (.slice va tc.length vc) tc) => do_any ⟨s.rows, s.cols, tc, tcur, true, false⟩ va vc c kind W h HAR (right_sound HAR) (show tc.length < 10000 by rw [hl]; exact HLT.out) HBc.out
      simp only [kdo_quiet (s := ⟨s.rows, s.cols, tc, tcur, true, false⟩) rfl kind c] at Q2
      have HTL := Lib.hid (kdo_length ⟨s.rows, s.cols, tc, tcur, true, false⟩ kind c)
      simp only [GaveK] at Q2
      generalize (kdo ⟨s.rows, s.cols, tc, tcur, true, false⟩ kind c).2.2.2 = wh at *
      generalize (kdo ⟨s.rows, s.cols, tc, tcur, true, false⟩ kind c).2.2.1 = code at *
      generalize (kdo ⟨s.rows, s.cols, tc, tcur, true, false⟩ kind c).1 = t at *
      rw [hl] at Q1 Q2
      have HTC := Lib.hid hl
      replace Q1 := Lib.hid Q1
      replace Q2 := Lib.hid Q2
      replace hc1 := Lib.hid hc1
      replace hc2 := Lib.hid hc2
      clear h1 ha HAR hl
      obtain ⟨c0, c1, c2, c3, c4, c5⟩ := cells6 X3.out
      go_wp2_with fail
      with_reducible refine Q1.out.mono ?_
      rintro e w4 ⟨va1, vc1, ev1, rfl, hc, ht, hn, hb⟩
      clear c0 c1 c2 c3 c4 c5
      have HA := al_any w4 (.cells #[.int .i64 s.rows, .int .i64 s.cols, .slice va1 s.cs.length vc1, .int .i64 tcur, .bool true, .bool false] 24)
      have B1 := Lib.hid (heap_alloc_new w4 (.cells #[.int .i64 s.rows, .int .i64 s.cols, .slice va1 s.cs.length vc1, .int .i64 tcur, .bool true, .bool false] 24))
      have C1 := Lib.hid (hc.below HA)
      have T1 := Lib.hid (Err.Told.below ht HA)
      have E1 := Lib.hid (fun h => (hn h).1)
      replace hb := kept_trans hb HA
      replace X3 := Lib.hid (blk X3.out hb)
      replace Y3 := Lib.hid (blk Y3.out hb)
      replace I3 := Lib.hid (I3.out.below hb)
      replace K3 := kept_hid K3 hb
      clear HA hc ht hn hb
      go_upto_region 4 with (fail)
      generalize w4.heap.size = N1 at *
      generalize w4.alloc _ = w4b at *
      have hev1 := by first | exact E1.out rfl | exact E1.out trivial
      subst hev1
      clear Q1 T1 E1
      go_upto_region 6 with (fail)
      obtain ⟨c0, c1, c2, c3, c4, c5⟩ := cells6 B1.out
      obtain ⟨y0, y1⟩ := cells2 Y3.out
      go_wp2_with fail
      with_reducible refine (Q2.out _ _ _ C1.out).mono ?_
      rintro e w5 ⟨va2, vc2, ev2, rfl, hc, ht, hn, hb⟩
      clear c0 c1 c2 c3 c4 c5 y0 y1
      have HA := al_any w5 (.cells #[.int .i64 t.rows, .int .i64 t.cols, .slice va2 t.cs.length vc2, .int .i64 t.cur, .bool t.lk, .bool t.ins] 24)
      have B2 := Lib.hid (heap_alloc_new w5 (.cells #[.int .i64 t.rows, .int .i64 t.cols, .slice va2 t.cs.length vc2, .int .i64 t.cur, .bool t.lk, .bool t.ins] 24))
      have C2 := Lib.hid (hc.below HA)
      have T2 := Lib.hid (Err.Told.below ht HA)
      have E2 := Lib.hid (fun h => (hn h).1)
      replace hb := kept_trans hb HA
      replace X3 := Lib.hid (blk X3.out hb)
      replace B1 := Lib.hid (blk B1.out hb)
      replace I3 := Lib.hid (I3.out.below hb)
      replace C1 := Lib.hid (C1.out.below hb)
      replace K3 := kept_hid K3 hb
      clear HA hc ht hn hb
      go_upto_region 7 with (fail)
      generalize w5.heap.size = N2 at *
      generalize w5.alloc _ = w5b at *
      by_cases h9 : ch = 109
      · obtain ⟨hz, hcur⟩ := hc1.out h9
        have e109 : ((ch : Int) == 109) = true := by simp; omega
        have e109' : ((ch : Int) != 109) = false := by simp; omega
        subst hcur
        have HZ := Lib.hid hz
        clear h9 hz hc1 hc2
        obtain ⟨c0, c1, c2, c3, c4, c5⟩ := cells6 B1.out
        go_upto_region 9 with (fail)
        clear c0 c1 c2 c3 c4 c5
        go_wp2_with fail
        go_loopg [13] (s.cs.length + 1) (fun mm ii wr => ∃ q : Nat, q ≤ s.cs.length ∧ mm = s.cs.length + 1 - q ∧ ii = .int .i64 q ∧ Hid (Below w5b.heap.size w5b wr))
        case atStart => exact ⟨0, Nat.zero_le _, rfl, rfl, Lib.hid (Below.refl _ _)⟩
        case round =>
          obtain ⟨q, hq, rfl, rfl, K9⟩ := hrel
          have ew : IntKind.i64.wrap ((q : Int) + 1) = (q : Int) + 1 := by
            have := HL.out
            rw [IntWalk.i64_in] <;> omega
          have X9 := Lib.hid (blk X3.out K9.out)
          have B9 := Lib.hid (blk B1.out K9.out)
          obtain ⟨c0, c1, c2, c3, c4, c5⟩ := cells6 B9.out
          obtain ⟨d0, d1, d2, d3, d4, d5⟩ := cells6 X9.out
          by_cases hlt : q < s.cs.length
          · have hi0 : (0 : Int) ≤ (q : Int) := by omega
            have hi1 : (q : Int) < (s.cs.length : Int) := by omega
            have HQ := Lib.hid hlt
            have HDN := Lib.hid fun n => below_drewN wr.heap.size n wr
            obtain ⟨b1, o1, hva, g0, g1, g2, g3, g4, g5⟩ := (C1.out.below K9.out).cells (show q < tc.length by rw [HTC.out]; exact hlt) (HZ.out q hlt)
            subst hva
            have HN := run_neqC noC noC
            rw [decide_eq_true rfl] at HN
            simp only [Bool.not_true, noC, show ((0 : Nat) : Int) = 0 from rfl] at HN g0 g1 g2 g3 g4 g5
            clear hlt
            go_upto_region 12 with (fail)
            go_quiet (fail)
            go_wp2_with fail
            go_roundg (s.cs.length + 1 - (q + 1))
            case measure => omega
            case rel => exact ⟨q + 1, HQ.out, rfl, by first | rfl | go_num, kept_hid K9 (HDN.out _)⟩
          · obtain rfl : q = s.cs.length := by omega
            have hn0 : ¬ (s.cs.length : Int) < (s.cs.length : Int) := by omega
            have K10 := kept_hid K3 K9.out
            clear hlt
            go_wp2_with fail
            go_ret
            exact ⟨rfl, K10.out⟩
      · obtain ⟨htc, hcur⟩ := hc2.out h9
        have e109 : ((ch : Int) == 109) = false := by simp; omega
        have e109' : ((ch : Int) != 109) = true := by simp; omega
        subst hcur
        subst htc
        clear h9 hc1 hc2
        obtain ⟨c0, c1, c2, c3, c4, c5⟩ := cells6 B1.out
        go_upto_region 9 with (fail)
        clear c0 c1 c2 c3 c4 c5
        go_wp2_with fail
        go_loopg [13] (s.cs.length + 1) (fun mm ii wr => ∃ q : Nat, q ≤ s.cs.length ∧ mm = s.cs.length + 1 - q ∧ ii = .int .i64 q ∧ Hid (Below w5b.heap.size w5b wr))
        case atStart => exact ⟨0, Nat.zero_le _, rfl, rfl, Lib.hid (Below.refl _ _)⟩
        case round =>
          obtain ⟨q, hq, rfl, rfl, K9⟩ := hrel
          have ew : IntKind.i64.wrap ((q : Int) + 1) = (q : Int) + 1 := by
            have := HL.out
            rw [IntWalk.i64_in] <;> omega
          have X9 := Lib.hid (blk X3.out K9.out)
          have B9 := Lib.hid (blk B1.out K9.out)
          obtain ⟨c0, c1, c2, c3, c4, c5⟩ := cells6 B9.out
          obtain ⟨d0, d1, d2, d3, d4, d5⟩ := cells6 X9.out
          by_cases hlt : q < s.cs.length
          · have hi0 : (0 : Int) ≤ (q : Int) := by omega
            have hi1 : (q : Int) < (s.cs.length : Int) := by omega
            have HQ := Lib.hid hlt
            have HDN := Lib.hid fun n => below_drewN wr.heap.size n wr
            obtain ⟨yf, yp, yn, ys', ym, yc, ey⟩ := c_eta (s.cs.getD q noC)
            obtain ⟨b1, o1, hva, g0, g1, g2, g3, g4, g5⟩ := (C1.out.below K9.out).cells hlt ey
            subst hva
            obtain ⟨b2, o2, had, p0, p1, p2, p3, p4, p5⟩ := (I3.out.below K9.out).cells hlt ey
            subst had
            have HN := run_neqC ⟨yf, yp, yn, ys', ym, yc⟩ ⟨yf, yp, yn, ys', ym, yc⟩
            rw [decide_eq_true rfl] at HN
            simp only [Bool.not_true] at HN
            clear hlt ey
            go_upto_region 12 with (fail)
            go_quiet (fail)
            go_wp2_with fail
            go_roundg (s.cs.length + 1 - (q + 1))
            case measure => omega
            case rel => exact ⟨q + 1, HQ.out, rfl, by first | rfl | go_num, kept_hid K9 (HDN.out _)⟩
          · obtain rfl : q = s.cs.length := by omega
            have hn0 : ¬ (s.cs.length : Int) < (s.cs.length : Int) := by omega
            have K10 := kept_hid K3 K9.out
            clear hlt
            go_wp2_with fail
            go_ret
            exact ⟨rfl, K10.out⟩
end Kyb
end Go.Proofs.YtpgbnnnfeaodmaaGreatDoor
