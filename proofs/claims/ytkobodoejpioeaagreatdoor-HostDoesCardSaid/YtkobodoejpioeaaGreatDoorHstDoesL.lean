/- The law HostDoes. Written by tools/gen_hst_laws.py. -/
import Derived.Test.YtkobodoejpioeaaGreatDoorHstAwake
import Derived.Test.YtkobodoejpioeaaGreatDoorBunHst
import Derived.Test.YtkobodoejpioeaaGreatDoorBunStr
import Derived.Test.YtkobodoejpioeaaGreatDoorBunStr
import Derived.Test.YtkobodoejpioeaaGreatDoorBunHst
import Derived.Test.YtkobodoejpioeaaGreatDoorBunGrd
import Derived.Test.YtkobodoejpioeaaGreatDoorBunGrd
import Derived.Test.YtkobodoejpioeaaGreatDoorOpnScr
import Derived.StillTailTactics
namespace Go.Proofs.YtkobodoejpioeaaGreatDoor
open Go.RowKit Sha Six Apd Cut Err Att Grd Fld Pnt
set_option linter.unusedVariables false
namespace Hst
set_option maxRecDepth 100000 in
set_option maxHeartbeats 8000000 in
theorem does_any (s : S) (ad : Option Addr) (k : Nat) (cmd : Int) (fa fu fr : Bool) (ov : Value) (os : List Go.Proofs.YtkobodoejpioeaaGreatDoor.Ord.O) (w : World) (h : CelsIn w (.slice ad s.cs.length k) s.cs) (hwf : Opn.Wf s.cs) (hm : s.cs.length ≤ maxLen) (hO : Str.OrdsIn w 0 ov os) (hos : ∀ o ∈ os, (∀ x ∈ o.t, x < 256) ∧ o.c < 256) (hom : os.length ≤ maxLen) (hg : Handle w) :
    Calls Tryz.prog 3 #[.agg #[.int .i64 s.rows, .int .i64 s.cols, .slice ad s.cs.length k, .int .i64 s.cur, .bool s.lk, .bool s.ins], .agg #[.int .i64 cmd, .bool fa, .bool fu, .bool fr, ov]] w fun e w' => e = .returned (.bool true) ∧ Below w.heap.size w w' := by
  have HAW := Lib.hid fun W (hb : Below w.heap.size w W) => awake_any W (hand_of hg hb)
  have HCO := Lib.hid fun W ev (c n : Int) (hb : Below w.heap.size w W) (ht : Err.Told W ev c n) => code_told ev c n W (hand_of hg hb) ht
  have HWH := Lib.hid fun W ev (c n : Int) (hb : Below w.heap.size w W) (ht : Err.Told W ev c n) => where_told ev c n W (hand_of hg hb) ht
  obtain ⟨al, cl, rfl, _, _⟩ := hO.form
  have HB := Lib.hid (kept_trans (al_any w (.cells #[.int .i64 s.rows, .int .i64 s.cols, .slice ad s.cs.length k, .int .i64 s.cur, .bool s.lk, .bool s.ins] 24)) (al_any _ (.cells #[.int .i64 cmd, .bool fa, .bool fu, .bool fr, .slice al os.length cl] 29)))
  have HX := Lib.hid (heap_alloc2_old w (.cells #[.int .i64 s.rows, .int .i64 s.cols, .slice ad s.cs.length k, .int .i64 s.cur, .bool s.lk, .bool s.ins] 24) (.cells #[.int .i64 cmd, .bool fa, .bool fu, .bool fr, .slice al os.length cl] 29))
  have HY := Lib.hid (heap_alloc2_new w (.cells #[.int .i64 s.rows, .int .i64 s.cols, .slice ad s.cs.length k, .int .i64 s.cur, .bool s.lk, .bool s.ins] 24) (.cells #[.int .i64 cmd, .bool fa, .bool fu, .bool fr, .slice al os.length cl] 29))
  have HI := Lib.hid (h.below HB.out)
  have HF := Lib.hid fun W hb => rfew_any s ad k W (HI.out.below hb) (wf_sound hwf)
  have H8 := Lib.hid (wf_sound hwf)
  have HO := Lib.hid hO
  have HFL := Lib.hid fun W hb => Str.few_any ⟨cmd, fa, fu, fr, os⟩ al os.length cl W (hO.below hb) hom
  simp only at HFL
  have HOS := Lib.hid hos
  clear h hwf hm hO hos hom hg
  cases hf : few s with
  | false =>
    rw [hf] at HF
    go_enter Tryz.func3, Tryz.ntmps3
    go_upto_region 1 with (fail)
    generalize (w.alloc _).alloc _ = w1 at *
    go_wp2_with fail
    with_reducible refine (HAW.out _ HB.out).mono ?_
    rintro e w2 ⟨rfl, hb⟩
    have K2 := Lib.hid hb
    have X2 := Lib.hid (blk HX.out hb)
    have K2' := kept_hid HB hb
    clear hb
    obtain ⟨c0, c1, c2, c3, c4, c5⟩ := cells6 X2.out
    go_wp2_with fail
    with_reducible refine (HF.out _ K2.out).mono ?_
    rintro e w3 ⟨rfl, hb⟩
    have K3 := kept_hid K2' hb
    clear hb c0 c1 c2 c3 c4 c5
    go_wp2_with fail
    with_reducible refine (HAW.out _ K3.out).mono ?_
    rintro e w4 ⟨rfl, hb⟩
    have KE := kept_hid K3 hb
    clear hb
    go_wp2_with fail
    go_ret
    exact ⟨rfl, KE.out⟩
  | true =>
    rw [hf] at HF
    cases hfl : Str.fewB os with
    | false =>
      rw [hfl] at HFL
      go_enter Tryz.func3, Tryz.ntmps3
      go_upto_region 1 with (fail)
      generalize (w.alloc _).alloc _ = w1 at *
      go_wp2_with fail
      with_reducible refine (HAW.out _ HB.out).mono ?_
      rintro e w2 ⟨rfl, hb⟩
      have K2 := Lib.hid hb
      have X2 := Lib.hid (blk HX.out hb)
      have Y2 := Lib.hid (blk HY.out hb)
      have K2' := kept_hid HB hb
      have I2 := Lib.hid (HI.out.below hb)
      clear hb
      obtain ⟨c0, c1, c2, c3, c4, c5⟩ := cells6 X2.out
      go_wp2_with fail
      with_reducible refine (HF.out _ K2.out).mono ?_
      rintro e w3 ⟨rfl, hb⟩
      have K3' := kept_hid K2' hb
      have X3' := Lib.hid (blk X2.out hb)
      have Y3' := Lib.hid (blk Y2.out hb)
      have I3' := Lib.hid (I2.out.below hb)
      clear hb c0 c1 c2 c3 c4 c5 K2 K2' X2 Y2 I2 HB HX HY HI HF
      obtain ⟨d0, d1, d2, d3, d4⟩ := cells5o Y3'.out
      go_wp2_with fail
      with_reducible refine (HFL.out _ K3'.out).mono ?_
      rintro e w4 ⟨rfl, hb⟩
      have K3 := kept_hid K3' hb
      have X3 := Lib.hid (blk X3'.out hb)
      have Y3 := Lib.hid (blk Y3'.out hb)
      have I3 := Lib.hid (I3'.out.below hb)
      clear hb d0 d1 d2 d3 d4 K3' X3' Y3' I3' HFL
      go_wp2_with fail
      with_reducible refine (HAW.out _ K3.out).mono ?_
      rintro e w5 ⟨rfl, hb⟩
      have KE := kept_hid K3 hb
      clear hb
      go_wp2_with fail
      go_ret
      exact ⟨rfl, KE.out⟩
    | true =>
      rw [hfl] at HFL
      obtain ⟨hol, hsd⟩ := few_sound hfl HOS.out
      have HOL := Lib.hid hol
      have HSD := Lib.hid hsd
      clear hol hsd hfl
      obtain ⟨q1, q2, q3⟩ := few_parts hf
      have HL := Lib.hid q1
      have HP := Lib.hid q2
      have HR := Lib.hid q3
      clear q1 q2 q3 hf
      have HLT := Lib.hid (show s.cs.length < 10000 from by have := HL.out; omega)
      by_cases hcw : (Str.cwrite ⟨cmd, fa, fu, fr, os⟩ s.cs.length).2.1 = 0
      · have HCW := Lib.hid hcw
        clear hcw
        go_enter Tryz.func3, Tryz.ntmps3
        go_upto_region 1 with (fail)
        generalize (w.alloc _).alloc _ = w1 at *
        go_wp2_with fail
        with_reducible refine (HAW.out _ HB.out).mono ?_
        rintro e w2 ⟨rfl, hb⟩
        have K2 := Lib.hid hb
        have X2 := Lib.hid (blk HX.out hb)
        have Y2 := Lib.hid (blk HY.out hb)
        have K2' := kept_hid HB hb
        have I2 := Lib.hid (HI.out.below hb)
        clear hb
        obtain ⟨c0, c1, c2, c3, c4, c5⟩ := cells6 X2.out
        go_wp2_with fail
        with_reducible refine (HF.out _ K2.out).mono ?_
        rintro e w3 ⟨rfl, hb⟩
        have K3' := kept_hid K2' hb
        have X3' := Lib.hid (blk X2.out hb)
        have Y3' := Lib.hid (blk Y2.out hb)
        have I3' := Lib.hid (I2.out.below hb)
        clear hb c0 c1 c2 c3 c4 c5 K2 K2' X2 Y2 I2 HB HX HY HI HF
        obtain ⟨d0, d1, d2, d3, d4⟩ := cells5o Y3'.out
        go_wp2_with fail
        with_reducible refine (HFL.out _ K3'.out).mono ?_
        rintro e w4 ⟨rfl, hb⟩
        have K3 := kept_hid K3' hb
        have X3 := Lib.hid (blk X3'.out hb)
        have Y3 := Lib.hid (blk Y3'.out hb)
        have I3 := Lib.hid (I3'.out.below hb)
        clear hb d0 d1 d2 d3 d4 K3' X3' Y3' I3' HFL
        obtain ⟨c0, c1, c2, c3, c4, c5⟩ := cells6 X3.out
        obtain ⟨d0, d1, d2, d3, d4⟩ := cells5o Y3.out
        have HDO := Lib.hid (do_ok s ad k ⟨cmd, fa, fu, fr, os⟩ al os.length cl w4 I3.out HR.out H8.out HLT.out (HO.out.below K3.out) HSD.out (by have := HOL.out; simp only; omega) HCW.out)
        have HRD := Lib.hid fun W hb hi => rdo_any s ad k ⟨cmd, fa, fu, fr, os⟩ al os.length cl W hi HR.out HLT.out (HO.out.below hb) HSD.out (by have := HOL.out; simp only; omega) HCW.out
        have HRW := Lib.hid fun W hb => Str.rwrite_any ⟨cmd, fa, fu, fr, os⟩ al os.length cl s.cs.length W (HO.out.below hb) HSD.out (by have := HOL.out; simp only; omega) (by have := HL.out; omega)
        rw [HCW.out] at HRW
        have HPR := Lib.hid (hdo_rest s ⟨cmd, fa, fu, fr, os⟩)
        simp only [GaveS] at HDO
        simp only [ShownA] at HRD
        generalize hdo s ⟨cmd, fa, fu, fr, os⟩ = st at *
        simp only [show ((0 : Nat) : Int) = 0 from rfl] at HRW
        go_wp2_with fail
        with_reducible refine HDO.out.mono ?_
        rintro e w5 ⟨va, vc, rfl, ho, hb⟩
        clear c0 c1 c2 c3 c4 c5 d0 d1 d2 d3 d4 HDO
        have HA := al_any w5 (.cells #[.int .i64 st.rows, .int .i64 st.cols, .slice va st.cs.length vc, .int .i64 st.cur, .bool st.lk, .bool st.ins] 24)
        have T6 := Lib.hid (heap_alloc_new w5 (.cells #[.int .i64 st.rows, .int .i64 st.cols, .slice va st.cs.length vc, .int .i64 st.cur, .bool st.lk, .bool st.ins] 24))
        have X6 := Lib.hid (blk X3.out (kept_trans hb HA))
        have Y6 := Lib.hid (blk Y3.out (kept_trans hb HA))
        have I6 := Lib.hid (I3.out.below (kept_trans hb HA))
        have K6 := kept_hid K3 (kept_trans hb HA)
        have O6 := Lib.hid ((OwnCels.below ho HA).to)
        clear HA ho hb X3 Y3 I3 K3
        go_upto_region 4 with (fail)
        generalize w5.heap.size = B at *
        generalize w5.alloc _ = w5' at *
        obtain ⟨c0, c1, c2, c3, c4, c5⟩ := cells6 X6.out
        obtain ⟨d0, d1, d2, d3, d4⟩ := cells5o Y6.out
        go_wp2_with fail
        with_reducible refine (HRW.out _ K6.out).mono ?_
        rintro e w6 ⟨bv, rfl, _, hb⟩
        clear c0 c1 c2 c3 c4 c5 d0 d1 d2 d3 d4 HRW
        have T7 := Lib.hid (blk T6.out hb)
        have X7 := Lib.hid (blk X6.out hb)
        have Y7 := Lib.hid (blk Y6.out hb)
        have I7 := Lib.hid (I6.out.below hb)
        have K7 := kept_hid K6 hb
        have O7 := Lib.hid (O6.out.below hb)
        clear hb T6 X6 Y6 I6 K6 O6
        have HSX := Lib.hid (show ∀ W', Below w6.heap.size w6 W' → Below w6.heap.size w6 W' ∧ (W'.cell? ⟨w.heap.size, 0, none⟩ = some (.int .i64 s.rows) ∧ W'.cell? ⟨w.heap.size, 1, none⟩ = some (.int .i64 s.cols) ∧ W'.cell? ⟨w.heap.size, 2, none⟩ = some (.slice ad s.cs.length k) ∧ W'.cell? ⟨w.heap.size, 3, none⟩ = some (.int .i64 s.cur) ∧ W'.cell? ⟨w.heap.size, 4, none⟩ = some (.bool s.lk) ∧ W'.cell? ⟨w.heap.size, 5, none⟩ = some (.bool s.ins)) ∧ (W'.cell? ⟨w.heap.size + 1, 0, none⟩ = some (.int .i64 cmd) ∧ W'.cell? ⟨w.heap.size + 1, 1, none⟩ = some (.bool fa) ∧ W'.cell? ⟨w.heap.size + 1, 2, none⟩ = some (.bool fu) ∧ W'.cell? ⟨w.heap.size + 1, 3, none⟩ = some (.bool fr) ∧ W'.cell? ⟨w.heap.size + 1, 4, none⟩ = some (.slice al os.length cl)) ∧ (W'.cell? ⟨B, 0, none⟩ = some (.int .i64 st.rows) ∧ W'.cell? ⟨B, 1, none⟩ = some (.int .i64 st.cols) ∧ W'.cell? ⟨B, 2, none⟩ = some (.slice va st.cs.length vc) ∧ W'.cell? ⟨B, 3, none⟩ = some (.int .i64 st.cur) ∧ W'.cell? ⟨B, 4, none⟩ = some (.bool st.lk) ∧ W'.cell? ⟨B, 5, none⟩ = some (.bool st.ins)) from fun W' hW => ⟨hW, cells6 (blk X7.out hW), cells5o (blk Y7.out hW), cells6 (blk T7.out hW)⟩)
        have HRD2 := Lib.hid fun W (hb : Below w6.heap.size w6 W) => HRD.out W (kept_trans K7.out hb) (I7.out.below hb)
        have HOB := Lib.hid fun W (hb : Below w6.heap.size w6 W) => O7.out.below hb
        have HLN := Lib.hid (show st.cs.length < 1000000000 from by have := HPR.out.2.2; have := HL.out; omega)
        clear HRD
        go_upto_region 7 with (fail)
        go_region_held3 (fun W' => Below w6.heap.size w6 W' ∧ (W'.cell? ⟨w.heap.size, 0, none⟩ = some (.int .i64 s.rows) ∧ W'.cell? ⟨w.heap.size, 1, none⟩ = some (.int .i64 s.cols) ∧ W'.cell? ⟨w.heap.size, 2, none⟩ = some (.slice ad s.cs.length k) ∧ W'.cell? ⟨w.heap.size, 3, none⟩ = some (.int .i64 s.cur) ∧ W'.cell? ⟨w.heap.size, 4, none⟩ = some (.bool s.lk) ∧ W'.cell? ⟨w.heap.size, 5, none⟩ = some (.bool s.ins)) ∧ (W'.cell? ⟨w.heap.size + 1, 0, none⟩ = some (.int .i64 cmd) ∧ W'.cell? ⟨w.heap.size + 1, 1, none⟩ = some (.bool fa) ∧ W'.cell? ⟨w.heap.size + 1, 2, none⟩ = some (.bool fu) ∧ W'.cell? ⟨w.heap.size + 1, 3, none⟩ = some (.bool fr) ∧ W'.cell? ⟨w.heap.size + 1, 4, none⟩ = some (.slice al os.length cl)) ∧ (W'.cell? ⟨B, 0, none⟩ = some (.int .i64 st.rows) ∧ W'.cell? ⟨B, 1, none⟩ = some (.int .i64 st.cols) ∧ W'.cell? ⟨B, 2, none⟩ = some (.slice va st.cs.length vc) ∧ W'.cell? ⟨B, 3, none⟩ = some (.int .i64 st.cur) ∧ W'.cell? ⟨B, 4, none⟩ = some (.bool st.lk) ∧ W'.cell? ⟨B, 5, none⟩ = some (.bool st.ins)))
          ((refine HSX.out _ ?_; first | with_reducible exact (Below.refl _ _).drew | with_reducible exact (Below.refl _ _) | with_reducible exact (And.left (by assumption)) | with_reducible exact kept_trans (And.left (by assumption)) hb))
          (first
            | (go_at_call 12; with_reducible refine (HRD2.out _ (And.left (by assumption))).mono ?_; rintro e wa ⟨va2, vc2, rfl, hc2, hb⟩; have hc1 := HOB.out _ (kept_trans (And.left (by assumption : Below w6.heap.size w6 _ ∧ _)) hb))
            | (go_at_call 11; with_reducible refine (rsame_any _ _ _ _ _ _ _ _ _ _ _ _ _ _ hc1 hc2 HLN.out).mono ?_; rintro e wg ⟨rfl, hb⟩; rw [decide_eq_true rfl]))
        have hS := And.left (by assumption : Below w6.heap.size w6 wg ∧ _)
        have K8 := kept_hid K7 hS
        clear hS hb
        go_wp2_with fail
        go_ret
        exact ⟨rfl, K8.out⟩
      · have HCW := Lib.hid hcw
        clear hcw
        go_enter Tryz.func3, Tryz.ntmps3
        go_upto_region 1 with (fail)
        generalize (w.alloc _).alloc _ = w1 at *
        go_wp2_with fail
        with_reducible refine (HAW.out _ HB.out).mono ?_
        rintro e w2 ⟨rfl, hb⟩
        have K2 := Lib.hid hb
        have X2 := Lib.hid (blk HX.out hb)
        have Y2 := Lib.hid (blk HY.out hb)
        have K2' := kept_hid HB hb
        have I2 := Lib.hid (HI.out.below hb)
        clear hb
        obtain ⟨c0, c1, c2, c3, c4, c5⟩ := cells6 X2.out
        go_wp2_with fail
        with_reducible refine (HF.out _ K2.out).mono ?_
        rintro e w3 ⟨rfl, hb⟩
        have K3' := kept_hid K2' hb
        have X3' := Lib.hid (blk X2.out hb)
        have Y3' := Lib.hid (blk Y2.out hb)
        have I3' := Lib.hid (I2.out.below hb)
        clear hb c0 c1 c2 c3 c4 c5 K2 K2' X2 Y2 I2 HB HX HY HI HF
        obtain ⟨d0, d1, d2, d3, d4⟩ := cells5o Y3'.out
        go_wp2_with fail
        with_reducible refine (HFL.out _ K3'.out).mono ?_
        rintro e w4 ⟨rfl, hb⟩
        have K3 := kept_hid K3' hb
        have X3 := Lib.hid (blk X3'.out hb)
        have Y3 := Lib.hid (blk Y3'.out hb)
        have I3 := Lib.hid (I3'.out.below hb)
        clear hb d0 d1 d2 d3 d4 K3' X3' Y3' I3' HFL
        obtain ⟨c0, c1, c2, c3, c4, c5⟩ := cells6 X3.out
        obtain ⟨d0, d1, d2, d3, d4⟩ := cells5o Y3.out
        have HDO := Lib.hid (do_no s ad k ⟨cmd, fa, fu, fr, os⟩ al os.length cl w4 I3.out HR.out H8.out HLT.out (HO.out.below K3.out) HSD.out (by have := HOL.out; simp only; omega) HCW.out)
        have HRW := Lib.hid fun W hb => Str.rwrite_any ⟨cmd, fa, fu, fr, os⟩ al os.length cl s.cs.length W (HO.out.below hb) HSD.out (by have := HOL.out; simp only; omega) (by have := HL.out; omega)
        have hcw := HCW.out
        simp only [RefusedS] at HDO
        generalize Str.cwrite ⟨cmd, fa, fu, fr, os⟩ s.cs.length = cw at *
        obtain ⟨bs, code, wh⟩ := cw
        simp only at HDO HRW hcw
        have hcn : ((code : Int) != 0) = true := by simp; exact hcw
        have hcn1 : ((code : Int) == 0) = false := by simp; exact hcw
        clear hcw HCW
        go_wp2_with fail
        with_reducible refine HDO.out.mono ?_
        rintro e w5 ⟨va, vc, ev, rfl, hci, htd, hb⟩
        clear c0 c1 c2 c3 c4 c5 d0 d1 d2 d3 d4 HDO
        have HA := al_any w5 (.cells #[.int .i64 s.rows, .int .i64 s.cols, .slice va s.cs.length vc, .int .i64 s.cur, .bool s.lk, .bool s.ins] 24)
        have T6 := Lib.hid (heap_alloc_new w5 (.cells #[.int .i64 s.rows, .int .i64 s.cols, .slice va s.cs.length vc, .int .i64 s.cur, .bool s.lk, .bool s.ins] 24))
        have X6 := Lib.hid (blk X3.out (kept_trans hb HA))
        have Y6 := Lib.hid (blk Y3.out (kept_trans hb HA))
        have I6 := Lib.hid (I3.out.below (kept_trans hb HA))
        have K6 := kept_hid K3 (kept_trans hb HA)
        have O6 := Lib.hid (hci.below HA)
        have E6 := Lib.hid (Err.Told.below htd HA)
        clear HA hci htd hb X3 Y3 I3 K3
        go_upto_region 4 with (fail)
        generalize w5.heap.size = B at *
        generalize w5.alloc _ = w5' at *
        obtain ⟨c0, c1, c2, c3, c4, c5⟩ := cells6 X6.out
        obtain ⟨d0, d1, d2, d3, d4⟩ := cells5o Y6.out
        go_wp2_with fail
        with_reducible refine (HRW.out _ K6.out).mono ?_
        rintro e w6 ⟨bv, rfl, _, hb⟩
        clear c0 c1 c2 c3 c4 c5 d0 d1 d2 d3 d4 HRW
        have T7 := Lib.hid (blk T6.out hb)
        have X7 := Lib.hid (blk X6.out hb)
        have I7 := Lib.hid (I6.out.below hb)
        have K7 := kept_hid K6 hb
        have O7 := Lib.hid (O6.out.below hb)
        have E7 := Lib.hid (Err.Told.below E6.out hb)
        clear hb T6 X6 Y6 I6 K6 O6 E6
        go_wp2_with fail
        with_reducible refine (HCO.out _ _ _ _ K7.out E7.out).mono ?_
        rintro e w8 ⟨rfl, hb⟩
        have T8 := Lib.hid (blk T7.out hb)
        have X8 := Lib.hid (blk X7.out hb)
        have I8 := Lib.hid (I7.out.below hb)
        have K8 := kept_hid K7 hb
        have O8 := Lib.hid (O7.out.below hb)
        have E8 := Lib.hid (Err.Told.below E7.out hb)
        clear hb T7 X7 I7 K7 O7 E7
        go_wp2_with fail
        with_reducible refine (HWH.out _ _ _ _ K8.out E8.out).mono ?_
        rintro e w9 ⟨rfl, hb⟩
        have T9 := Lib.hid (blk T8.out hb)
        have X9 := Lib.hid (blk X8.out hb)
        have I9 := Lib.hid (I8.out.below hb)
        have K9 := kept_hid K8 hb
        have O9 := Lib.hid (O8.out.below hb)
        clear hb T8 X8 I8 K8 O8 E8
        have HSM := Lib.hid (rsame_any s.rows s.cols s.cur s.lk s.ins va s.cs.length vc ad s.cs.length k s.cs s.cs w9 O9.out I9.out (by have := HL.out; omega))
        rw [decide_eq_true rfl] at HSM
        obtain ⟨c0, c1, c2, c3, c4, c5⟩ := cells6 X9.out
        obtain ⟨e0, e1, e2, e3, e4, e5⟩ := cells6 T9.out
        go_wp2_with fail
        with_reducible refine HSM.out.mono ?_
        rintro e wb ⟨rfl, hb⟩
        have K10 := kept_hid K9 hb
        clear hb
        go_wp2_with fail
        go_ret
        exact ⟨rfl, K10.out⟩
end Hst
end Go.Proofs.YtkobodoejpioeaaGreatDoor
