/- The law HostResets. Written by tools/gen_hst_laws.py. -/
import Derived.Test.YtkobodoejpioeaaDoorHstAwake
import Derived.Test.YtkobodoejpioeaaDoorBunHst
import Derived.Test.YtkobodoejpioeaaDoorBunGrd
import Derived.Test.YtkobodoejpioeaaDoorBunGrd
import Derived.Test.YtkobodoejpioeaaDoorOpnScr
import Derived.StillTailTactics
namespace Go.Proofs.YtkobodoejpioeaaDoor
open Go.RowKit Sha Six Apd Cut Err Att Grd Fld Pnt
set_option linter.unusedVariables false
namespace Hst
set_option maxRecDepth 100000 in
set_option maxHeartbeats 8000000 in
theorem resets_any (s : S) (ad : Option Addr) (k : Nat) (all : Bool) (w : World) (h : CelsIn w (.slice ad s.cs.length k) s.cs) (hwf : Opn.Wf s.cs) (hm : s.cs.length ≤ maxLen) (hg : Handle w) :
    Calls Tryd.prog 3 #[.agg #[.int .i64 s.rows, .int .i64 s.cols, .slice ad s.cs.length k, .int .i64 s.cur, .bool s.lk, .bool s.ins], .bool all] w fun e w' => e = .returned (.bool true) ∧ Below w.heap.size w w' := by
  have HAW := Lib.hid fun W (hb : Below w.heap.size w W) => awake_any W (hand_of hg hb)
  have HCO := Lib.hid fun W ev (c n : Int) (hb : Below w.heap.size w W) (ht : Err.Told W ev c n) => code_told ev c n W (hand_of hg hb) ht
  have HB := Lib.hid (al_any w (.cells #[.int .i64 s.rows, .int .i64 s.cols, .slice ad s.cs.length k, .int .i64 s.cur, .bool s.lk, .bool s.ins] 24))
  have HX := Lib.hid (heap_alloc_new w (.cells #[.int .i64 s.rows, .int .i64 s.cols, .slice ad s.cs.length k, .int .i64 s.cur, .bool s.lk, .bool s.ins] 24))
  have HI := Lib.hid (h.below HB.out)
  have HF := Lib.hid fun W hb => rfew_any s ad k W (HI.out.below hb) (wf_sound hwf)
  have H8 := Lib.hid (wf_sound hwf)
  clear h hwf hm hg
  cases hf : few s with
  | false =>
    rw [hf] at HF
    go_enter Tryd.func3, Tryd.ntmps3
    go_upto_region 1 with (fail)
    generalize w.alloc _ = w1 at *
    go_wp2_with fail
    with_reducible refine (HAW.out _ HB.out).mono ?_
    rintro e w2 ⟨rfl, hb⟩
    have K2 := Lib.hid hb
    have X2 := Lib.hid (blk HX.out hb)
    have K2' := kept_hid HB hb
    have I2 := Lib.hid (HI.out.below hb)
    clear hb
    obtain ⟨c0, c1, c2, c3, c4, c5⟩ := cells6 X2.out
    go_wp2_with fail
    with_reducible refine (HF.out _ K2.out).mono ?_
    rintro e w3 ⟨rfl, hb⟩
    have K3 := kept_hid K2' hb
    have X3 := Lib.hid (blk X2.out hb)
    have I3 := Lib.hid (I2.out.below hb)
    clear hb c0 c1 c2 c3 c4 c5 K2 K2' X2 I2 HB HX HI HF
    go_wp2_with fail
    with_reducible refine (HAW.out _ K3.out).mono ?_
    rintro e w4 ⟨rfl, hb⟩
    have KE := kept_hid K3 hb
    clear hb
    go_wp2_with fail
    go_ret
    exact ⟨rfl, KE.out⟩
  | true =>
    rw [hf] at HF
    obtain ⟨q1, q2, q3⟩ := few_parts hf
    have HL := Lib.hid q1
    have HP := Lib.hid q2
    have HR := Lib.hid q3
    clear q1 q2 q3 hf
    go_enter Tryd.func3, Tryd.ntmps3
    go_upto_region 1 with (fail)
    generalize w.alloc _ = w1 at *
    go_wp2_with fail
    with_reducible refine (HAW.out _ HB.out).mono ?_
    rintro e w2 ⟨rfl, hb⟩
    have K2 := Lib.hid hb
    have X2 := Lib.hid (blk HX.out hb)
    have K2' := kept_hid HB hb
    have I2 := Lib.hid (HI.out.below hb)
    clear hb
    obtain ⟨c0, c1, c2, c3, c4, c5⟩ := cells6 X2.out
    go_wp2_with fail
    with_reducible refine (HF.out _ K2.out).mono ?_
    rintro e w3 ⟨rfl, hb⟩
    have K3 := kept_hid K2' hb
    have X3 := Lib.hid (blk X2.out hb)
    have I3 := Lib.hid (I2.out.below hb)
    clear hb c0 c1 c2 c3 c4 c5 K2 K2' X2 I2 HB HX HI HF
    have HLT := Lib.hid (show s.cs.length < 10000 from by have := HL.out; omega)
    have Q1 := Lib.hid fun W (hb : Below w3.heap.size w3 W) => reset_any s ad k all W (I3.out.below hb) HR.out H8.out HLT.out
    have Q2 := Lib.hid fun W (hb : Below w3.heap.size w3 W) => rreset_any s ad k all W (I3.out.below hb) HLT.out HP.out
    simp only [GaveA, hreset, resetC_length] at Q1 Q2
    have HLN := Lib.hid (show (resetC all s.cs).length < 1000000000 from by rw [resetC_length]; have := HL.out; omega)
    obtain ⟨c0, c1, c2, c3, c4, c5⟩ := cells6 X3.out
    go_upto_region 3 with (fail)
    clear c0 c1 c2 c3 c4 c5
    go_region_held3 (fun W' => Below w3.heap.size w3 W' ∧ W'.cell? ⟨w.heap.size, 0, none⟩ = some (.int .i64 s.rows) ∧ W'.cell? ⟨w.heap.size, 1, none⟩ = some (.int .i64 s.cols) ∧ W'.cell? ⟨w.heap.size, 2, none⟩ = some (.slice ad s.cs.length k) ∧ W'.cell? ⟨w.heap.size, 3, none⟩ = some (.int .i64 s.cur) ∧ W'.cell? ⟨w.heap.size, 4, none⟩ = some (.bool s.lk) ∧ W'.cell? ⟨w.heap.size, 5, none⟩ = some (.bool s.ins))
      (first | with_reducible exact below6 X3.out _ (Below.refl _ _).drew | with_reducible exact below6 X3.out _ (Below.refl _ _) | with_reducible exact below6 X3.out _ (And.left (by assumption)) | with_reducible exact below6 X3.out _ (kept_trans (And.left (by assumption)) hb))
      (first
        | (go_at_call 11; with_reducible refine (Q1.out _ (And.left (by assumption))).mono ?_; rintro e wa ⟨va, vc, rfl, ho1, hb⟩)
        | (go_at_call 12; with_reducible refine (Q2.out _ (And.left (by assumption))).mono ?_; rintro e wb ⟨va2, vc2, rfl, ho2, hb⟩; replace ho1 := OwnCels.below ho1 hb)
        | (go_at_call 10; with_reducible refine (rsame_any _ _ _ _ _ _ _ _ _ _ _ _ _ _ ho1.to ho2.to HLN.out).mono ?_; rintro e wg ⟨rfl, hb⟩; rw [decide_eq_true rfl]))
    have hS := And.left (by assumption : Below w3.heap.size w3 wg ∧ _)
    have K4 := kept_hid K3 hS
    clear hS hb
    go_wp2_with fail
    go_ret
    exact ⟨rfl, K4.out⟩
end Hst
end Go.Proofs.YtkobodoejpioeaaDoor
