/- The law HostClean. Written by tools/gen_hst_laws.py. -/
import Derived.Test.YtkobodoejpioeaaDoorHstAwake
import Derived.Test.YtkobodoejpioeaaDoorBunHst
import Derived.Test.YtkobodoejpioeaaDoorBunFld
import Derived.Test.YtkobodoejpioeaaDoorBunGrd
import Derived.Test.YtkobodoejpioeaaDoorBunGrd
import Derived.Test.YtkobodoejpioeaaDoorOpnScr
import Derived.StillTailTactics
namespace Go.Proofs.YtkobodoejpioeaaDoor
open Go.RowKit Sha Six Apd Cut Err Att Grd Fld Pnt
set_option linter.unusedVariables false
namespace Hst
set_option maxRecDepth 100000 in
set_option maxHeartbeats 8000000 in
theorem cleans_any (s : S) (ad : Option Addr) (k : Nat) (w : World) (h : CelsIn w (.slice ad s.cs.length k) s.cs) (hwf : Opn.Wf s.cs) (hm : s.cs.length ≤ maxLen) (hg : Handle w) :
    Calls Tryd.prog 4 #[.agg #[.int .i64 s.rows, .int .i64 s.cols, .slice ad s.cs.length k, .int .i64 s.cur, .bool s.lk, .bool s.ins]] w fun e w' => e = .returned (.bool true) ∧ Below w.heap.size w w' := by
  have HAW := Lib.hid fun W (hb : Below w.heap.size w W) => awake_any W (hand_of hg hb)
  have HCO := Lib.hid fun W ev (c n : Int) (hb : Below w.heap.size w W) (ht : Err.Told W ev c n) => code_told ev c n W (hand_of hg hb) ht
  have HB := Lib.hid (al_any w (.cells #[.int .i64 s.rows, .int .i64 s.cols, .slice ad s.cs.length k, .int .i64 s.cur, .bool s.lk, .bool s.ins] 24))
  have HX := Lib.hid (heap_alloc_new w (.cells #[.int .i64 s.rows, .int .i64 s.cols, .slice ad s.cs.length k, .int .i64 s.cur, .bool s.lk, .bool s.ins] 24))
  have HI := Lib.hid (h.below HB.out)
  have HF := Lib.hid fun W hb => rfew_any s ad k W (HI.out.below hb) (wf_sound hwf)
  have H8 := Lib.hid (wf_sound hwf)
  clear h hwf hm hg
  cases hf : few s with
  | false =>
    rw [hf] at HF
    go_enter Tryd.func4, Tryd.ntmps4
    go_upto_region 1 with (fail)
    generalize w.alloc _ = w1 at *
    go_wp2_with fail
    with_reducible refine (HAW.out _ HB.out).mono ?_
    rintro e w2 ⟨rfl, hb⟩
    have K2 := Lib.hid hb
    have X2 := Lib.hid (blk HX.out hb)
    have K2' := kept_hid HB hb
    have I2 := Lib.hid (HI.out.below hb)
    clear hb
    obtain ⟨c0, c1, c2, c3, c4, c5⟩ := cells6 X2.out
    go_wp2_with fail
    with_reducible refine (HF.out _ K2.out).mono ?_
    rintro e w3 ⟨rfl, hb⟩
    have K3 := kept_hid K2' hb
    have X3 := Lib.hid (blk X2.out hb)
    have I3 := Lib.hid (I2.out.below hb)
    clear hb c0 c1 c2 c3 c4 c5 K2 K2' X2 I2 HB HX HI HF
    go_wp2_with fail
    with_reducible refine (HAW.out _ K3.out).mono ?_
    rintro e w4 ⟨rfl, hb⟩
    have KE := kept_hid K3 hb
    clear hb
    go_wp2_with fail
    go_ret
    exact ⟨rfl, KE.out⟩
  | true =>
    rw [hf] at HF
    obtain ⟨q1, q2, q3⟩ := few_parts hf
    have HL := Lib.hid q1
    have HP := Lib.hid q2
    have HR := Lib.hid q3
    clear q1 q2 q3 hf
    go_enter Tryd.func4, Tryd.ntmps4
    go_upto_region 1 with (fail)
    generalize w.alloc _ = w1 at *
    go_wp2_with fail
    with_reducible refine (HAW.out _ HB.out).mono ?_
    rintro e w2 ⟨rfl, hb⟩
    have K2 := Lib.hid hb
    have X2 := Lib.hid (blk HX.out hb)
    have K2' := kept_hid HB hb
    have I2 := Lib.hid (HI.out.below hb)
    clear hb
    obtain ⟨c0, c1, c2, c3, c4, c5⟩ := cells6 X2.out
    go_wp2_with fail
    with_reducible refine (HF.out _ K2.out).mono ?_
    rintro e w3 ⟨rfl, hb⟩
    have K3 := kept_hid K2' hb
    have X3 := Lib.hid (blk X2.out hb)
    have I3 := Lib.hid (I2.out.below hb)
    clear hb c0 c1 c2 c3 c4 c5 K2 K2' X2 I2 HB HX HI HF
    have HLT := Lib.hid (show s.cs.length < 10000 from by have := HL.out; omega)
    have HDO := do_ok s ad k ⟨111, false, false, false, []⟩ none 0 0 w3 I3.out HR.out H8.out HLT.out (Str.ordsIn_nil _ _) nofun (by decide) (clean_ok _)
    rw [show hdo s ⟨111, false, false, false, []⟩ = hclean s from by simp [hdo]] at HDO
    have HHL := Lib.hid (hclean_length s)
    have HHR := Lib.hid (hclean_right HR.out)
    have HHA := Lib.hid (alike_clean s)
    have HCC := Lib.hid (fun i (hi : i < s.cs.length) => clean_cell (s := s) hi)
    have HEN := Lib.hid (clean_end (s := s) HP.out)
    have hst : hclean s = ⟨s.rows, s.cols, (hclean s).cs, curOf s.cs, false, false⟩ := rfl
    have HHS := Lib.hid (show Sound (hclean s).cs from fun o ho => by
      obtain ⟨i, hi, rfl⟩ := mem_getD ho
      rw [hclean_length] at hi
      rw [hclean_getD s i hi]
      split
      · show (0 : Nat) < 256
        decide
      · rw [(unmod_fp _ _).2.2]; exact H8.out _ (getD_mem hi))
    simp only [GaveS] at HDO
    rw [hst] at HDO HHR
    simp only at HDO
    rw [HHL.out] at HDO
    clear hst
    generalize (hclean s).cs = ts at *
    replace HDO := Lib.hid HDO
    obtain ⟨c0, c1, c2, c3, c4, c5⟩ := cells6 X3.out
    go_upto_region 3 with (fail)
    go_wp2_with fail
    with_reducible refine HDO.out.mono ?_
    rintro e w4 ⟨va, vc, rfl, ho, hb⟩
    clear HDO c0 c1 c2 c3 c4 c5
    have HA := al_any w4 (.cells #[.int .i64 s.rows, .int .i64 s.cols, .slice va s.cs.length vc, .int .i64 (curOf s.cs), .bool false, .bool false] 24)
    have T5 := Lib.hid (heap_alloc_new w4 (.cells #[.int .i64 s.rows, .int .i64 s.cols, .slice va s.cs.length vc, .int .i64 (curOf s.cs), .bool false, .bool false] 24))
    have X5 := Lib.hid (blk X3.out (kept_trans hb HA))
    have I5 := Lib.hid (I3.out.below (kept_trans hb HA))
    have K5 := kept_hid K3 (kept_trans hb HA)
    have O5 := Lib.hid (show CelsIn (w4.alloc (.cells #[.int .i64 s.rows, .int .i64 s.cols, .slice va s.cs.length vc, .int .i64 (curOf s.cs), .bool false, .bool false] 24)) (.slice va s.cs.length vc) ts from (OwnCels.below ho HA).to)
    clear HA ho hb X3 I3 K3
    go_upto_region 4 with (fail)
    generalize w4.heap.size = B at *
    generalize w4.alloc _ = w5 at *
    have HRR := Lib.hid (rright_any ⟨s.rows, s.cols, ts, curOf s.cs, false, false⟩ va vc w5 (by simp only; rw [HHL.out]; exact O5.out) HHS.out (by simp only; rw [HHL.out]; have := HL.out; omega))
    rw [HHR.out] at HRR
    simp only at HRR
    rw [HHL.out] at HRR
    obtain ⟨c0, c1, c2, c3, c4, c5⟩ := cells6 T5.out
    go_wp2_with fail
    with_reducible refine HRR.out.mono ?_
    rintro e w6 ⟨rfl, hb⟩
    have T6 := Lib.hid (blk T5.out hb)
    have X6 := Lib.hid (blk X5.out hb)
    have I6 := Lib.hid (I5.out.below hb)
    have K6 := kept_hid K5 hb
    have O6 := Lib.hid (O5.out.below hb)
    clear hb c0 c1 c2 c3 c4 c5 T5 X5 I5 K5 O5 HRR HHR HHS
    obtain ⟨c0, c1, c2, c3, c4, c5⟩ := cells6 T6.out
    obtain ⟨d0, d1, d2, d3, d4, d5⟩ := cells6 X6.out
    go_upto_region 7 with (fail)
    clear c0 c1 c2 c3 c4 c5 d0 d1 d2 d3 d4 d5
    go_wp2_with fail
    go_loopg [5] (s.cs.length + 1) (fun mm ii wr => ∃ q : Nat, q ≤ s.cs.length ∧ mm = s.cs.length + 1 - q ∧ ii = .int .i64 q ∧ Hid (wr.heap[B]? = some (.cells #[.int .i64 s.rows, .int .i64 s.cols, .slice va s.cs.length vc, .int .i64 (curOf s.cs), .bool false, .bool false] 24 (0, 0))) ∧ Hid (wr.heap[w.heap.size]? = some (.cells #[.int .i64 s.rows, .int .i64 s.cols, .slice ad s.cs.length k, .int .i64 s.cur, .bool s.lk, .bool s.ins] 24 (0, 0))) ∧ Hid (CelsIn wr (.slice ad s.cs.length k) s.cs) ∧ Hid (CelsIn wr (.slice va s.cs.length vc) ts) ∧ Hid (Below w.heap.size w wr))
    case atStart => exact ⟨0, Nat.zero_le _, rfl, rfl, T6, X6, I6, O6, K6⟩
    case round =>
      obtain ⟨q, hq, rfl, rfl, T7, X7, I7, O7, K7⟩ := hrel
      clear T6 X6 I6 O6 K6
      have ew : IntKind.i64.wrap ((q : Int) + 1) = (q : Int) + 1 := by
        have := HL.out
        rw [IntWalk.i64_in] <;> omega
      obtain ⟨d0, d1, d2, d3, d4, d5⟩ := cells6 X7.out
      obtain ⟨c0, c1, c2, c3, c4, c5⟩ := cells6 T7.out
      by_cases hlt : q < s.cs.length
      · have HQC := HCC.out q hlt
        have HQL := Lib.hid hlt
        obtain ⟨xf, xp, xn, xs, xm, xc, ex⟩ := c_eta (ts.getD q noC)
        obtain ⟨yf, yp, yn, ys, ym, yc, ey⟩ := c_eta (s.cs.getD q noC)
        obtain ⟨b1, o1, hva, g0, g1, g2, g3, g4, g5⟩ := CelsIn.cells O7.out (show q < ts.length by rw [HHL.out]; exact hlt) ex
        subst hva
        obtain ⟨b2, o2, had, p0, p1, p2, p3, p4, p5⟩ := I7.out.cells hlt ey
        subst had
        rw [ex, ey] at HQC
        have HQ := Lib.hid HQC
        clear HQC ex ey
        have hi0 : (0 : Int) ≤ (q : Int) := by omega
        have hi1 : (q : Int) < (s.cs.length : Int) := by omega
        have hlA : w.heap.size < wr.heap.size := there_lt X7.out
        have hlB : B < wr.heap.size := there_lt T7.out
        have hl1 : b1 < wr.heap.size := Str.cell_lt g0
        have HAA := Lib.hid (kept_trans (al_any wr (.cells #[.bool yf, .bool yp, .bool yn, .int .i64 ys, .bool ym, .int .u8 (yc : Int)] 42)) (al_any _ (.cells #[.bool xf, .bool xp, .bool xn, .int .i64 xs, .bool xm, .int .u8 (xc : Int)] 42)))
        have A8 := Lib.hid (heap_alloc2_old wr (.cells #[.bool yf, .bool yp, .bool yn, .int .i64 ys, .bool ym, .int .u8 (yc : Int)] 42) (.cells #[.bool xf, .bool xp, .bool xn, .int .i64 xs, .bool xm, .int .u8 (xc : Int)] 42))
        have B8 := Lib.hid (heap_alloc2_new wr (.cells #[.bool yf, .bool yp, .bool yn, .int .i64 ys, .bool ym, .int .u8 (yc : Int)] 42) (.cells #[.bool xf, .bool xp, .bool xn, .int .i64 xs, .bool xm, .int .u8 (xc : Int)] 42))
        go_upto_region 11 with (fail)
        clear c0 c1 c2 c3 c4 c5 d0 d1 d2 d3 d4 d5 g0 g1 g2 g3 g4 g5 p0 p1 p2 p3 p4 p5 hl1
        generalize (wr.alloc _).alloc _ = w8 at *
        have HO := Lib.hid (ropen_any s (some ⟨b2, o2, none⟩) k q w8 (I7.out.below HAA.out) HP.out (by have := HL.out; omega) HQL.out)
        obtain ⟨d0, d1, d2, d3, d4, d5⟩ := cells6 (blk X7.out HAA.out)
        go_wp2_with fail
        with_reducible refine HO.out.mono ?_
        rintro e w9 ⟨rfl, hb⟩
        have A9 := Lib.hid (blk A8.out hb)
        have B9 := Lib.hid (blk B8.out hb)
        have KW := kept_hid HAA hb
        clear hb HO d0 d1 d2 d3 d4 d5 A8 B8 HAA
        obtain ⟨a0, a1, a2, a3, a4, a5⟩ := cells6 A9.out
        rcases HQ.out with ⟨hop, h1, h2⟩ | ⟨hop, h1⟩
        · skip
          subst h1
          subst h2
          obtain ⟨e0, e1, e2, e3, e4, e5⟩ := cells6 B9.out
          simp only [show ((0 : Nat) : Int) = 0 from rfl] at e5
          rw [hop]
          clear hop HQ hlA hlB
          go_wp2_with fail
          go_roundg (s.cs.length + 1 - (q + 1))
          case measure => omega
          case rel => exact ⟨q + 1, by omega, rfl, by first | rfl | go_num, Lib.hid (blk T7.out KW.out), Lib.hid (blk X7.out KW.out), Lib.hid (I7.out.below KW.out), Lib.hid (O7.out.below KW.out), kept_hid K7 KW.out⟩
        · rw [hop]
          clear hop HQ
          cases yf <;> cases yp
          case true.false =>
            simp [unmod] at h1
            obtain ⟨rfl, rfl, rfl, rfl, rfl, rfl⟩ := h1
            obtain ⟨f0, f1, f2, f3, f4, f5⟩ := free6 A9.out
            have SO := gsetCell w9 wr.heap.size 4 (.bool false)
            have A10 := Lib.hid (heap_setCell_same w9 wr.heap.size 4 _ 42 (.bool false) A9.out)
            have B10 := Lib.hid (blk_g B9.out SO (by intro e; injection e with e; omega))
            have KX := Lib.hid (below_grown KW.out SO (Nat.le_refl _))
            have f4' : w9.frozen? ⟨wr.heap.size, 1 + 3, none⟩ = false := f4
            have a4' : w9.cell? ⟨wr.heap.size, 1 + 3, none⟩ = some (.bool ym) := a4
            clear SO A9 B9 KW
            go_upto_region 16 with (fail)
            clear a0 a1 a2 a3 a4 a5 f0 f1 f2 f3 f4 f5 f4' a4'
            generalize w9.setCell _ _ = w10 at *
            obtain ⟨a0, a1, a2, a3, a4, a5⟩ := cells6 A10.out
            obtain ⟨e0, e1, e2, e3, e4, e5⟩ := cells6 B10.out
            have HN := run_neqC ⟨true, false, xn, xs, false, xc⟩ ⟨true, false, xn, xs, false, xc⟩
            rw [decide_eq_true rfl] at HN
            simp only at HN
            clear hlA hlB
            go_wp2_with fail
            go_roundg (s.cs.length + 1 - (q + 1))
            case measure => omega
            case rel => exact ⟨q + 1, by omega, rfl, by first | rfl | go_num, Lib.hid (blk T7.out KX.out), Lib.hid (blk X7.out KX.out), Lib.hid (I7.out.below KX.out), Lib.hid (O7.out.below KX.out), kept_hid K7 KX.out⟩
          all_goals
            simp [unmod] at h1
            obtain ⟨rfl, rfl, rfl, rfl, rfl, rfl⟩ := h1
            obtain ⟨e0, e1, e2, e3, e4, e5⟩ := cells6 B9.out
            have HN := fun f p => run_neqC ⟨f, p, xn, xs, xm, xc⟩ ⟨f, p, xn, xs, xm, xc⟩
            simp only [decide_true] at HN
            clear hlA hlB
            go_wp2_with fail
            go_roundg (s.cs.length + 1 - (q + 1))
            case measure => omega
            case rel => exact ⟨q + 1, by omega, rfl, by first | rfl | go_num, Lib.hid (blk T7.out KW.out), Lib.hid (blk X7.out KW.out), Lib.hid (I7.out.below KW.out), Lib.hid (O7.out.below KW.out), kept_hid K7 KW.out⟩
      · obtain rfl : q = s.cs.length := by omega
        have hn0 : ¬ (s.cs.length : Int) < (s.cs.length : Int) := by omega
        have HNX := Lib.hid fun W (hb : Below wr.heap.size wr W) => rnextf_any s ad k 0 W (I7.out.below hb) HP.out (by have := HL.out; omega) HP.out
        simp only [show ((0 : Nat) : Int) = 0 from rfl] at HNX
        clear hlt c0 c1 c2 c3 c4 c5
        rcases HEN.out with ⟨h1, h2⟩ | ⟨h1, c, h2, h3, h4⟩
        · rw [h2] at T7
          generalize next s.cs 0 = nv at *
          have hng : decide (nv < 0) = true := decide_eq_true h1
          clear h1 h2 HEN
          go_wp2_with fail
          with_reducible refine (HNX.out _ (Below.refl _ _)).mono ?_
          rintro e wa ⟨rfl, hb⟩
          have K8 := kept_hid K7 hb
          obtain ⟨c0, c1, c2, c3, c4, c5⟩ := cells6 (blk T7.out hb)
          clear hb
          go_wp2_with fail
          go_ret
          exact ⟨rfl, K8.out⟩
        · rw [h2] at T7
          have HOT := Lib.hid fun W (hb : Below wr.heap.size wr W) => ropen_any ⟨s.rows, s.cols, ts, (c : Int), false, false⟩ va vc c W (by simp only; rw [HHL.out]; exact O7.out.below hb) (by simp only; rw [HHL.out]; exact HP.out) (by simp only; rw [HHL.out]; have := HL.out; omega) (by simp only; rw [HHL.out]; exact h3)
          simp only at HOT
          rw [h4, HHL.out] at HOT
          generalize next s.cs 0 = nv at *
          have hng : decide (nv < 0) = false := decide_eq_false (by omega)
          have hge : decide (0 ≤ nv) = true := decide_eq_true h1
          clear h1 h2 h3 h4 HEN
          go_wp2_with fail
          with_reducible refine (HNX.out _ (Below.refl _ _)).mono ?_
          rintro e wa ⟨rfl, hb⟩
          have KA := Lib.hid hb
          obtain ⟨d0, d1, d2, d3, d4, d5⟩ := cells6 (blk X7.out KA.out)
          clear hb
          go_wp2_with fail
          with_reducible refine (HNX.out _ KA.out).mono ?_
          rintro e wb ⟨rfl, hb⟩
          have KB := kept_hid KA hb
          obtain ⟨c0, c1, c2, c3, c4, c5⟩ := cells6 (blk T7.out KB.out)
          clear hb d0 d1 d2 d3 d4 d5
          go_wp2_with fail
          with_reducible refine (HOT.out _ KB.out).mono ?_
          rintro e wc ⟨rfl, hb⟩
          have K8 := kept_hid K7 (kept_trans KB.out hb)
          clear hb
          go_wp2_with fail
          go_ret
          exact ⟨rfl, K8.out⟩
end Hst
end Go.Proofs.YtkobodoejpioeaaDoor
