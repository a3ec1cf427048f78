/- The law WindowLets. Written by tools/gen_win_laws.py. -/
import Derived.Test.YteggdfkmncikpaaDoorWinAwake
import Derived.Test.YteggdfkmncikpaaDoorWinLet
import Derived.Deep.QuietTactic
import Derived.BigQuiet
import Derived.Deep.Cut
import Derived.Deep.LoopGhost
import Derived.Deep.RegionLaw
import Derived.Deep.RegionHeld3
import Derived.IntWalk
import Derived.Lib.SmallJoins
namespace Go.Proofs.YteggdfkmncikpaaDoor
open Go.RowKit Sha Six Apd Cut Err
set_option linter.unusedVariables false
set_option linter.unusedSimpArgs false
namespace Win
set_option maxRecDepth 100000 in
set_option maxHeartbeats 8000000 in
theorem lets_core (s : W) (n : Int) (w : World) (hf : Fit s) (hn : IntKind.i64.wrap n = n) (hg : Handle w) :
    Calls Tryd.prog 3 #[.agg #[.int .i64 s.top, .int .u64 (s.bits : Int)], .int .i64 n] w fun e w' => e = .returned (.bool true) ∧ Below w.heap.size w w' := by
  have HAW := Lib.hid fun W (hb : Below w.heap.size w W) => awake_any W (hand_of hg hb)
  have HCO := Lib.hid fun W n (hb : Below w.heap.size w W) => code_errn n W (hand_of hg hb)
  have HR := Lib.hid fun W => right_any s W hf
  have HRR := Lib.hid fun W => rright_any s W hf
  have HLC := Lib.hid fun W hr => let_any s n W hr hf hn
  have HLR := Lib.hid fun W hr => rlet_any s n W hr hf hn
  have HHC := Lib.hid fun W hr => has_any s n W hr hf hn
  have HHR := Lib.hid fun W (hr : right s = true) => rhas_any s n W hf (by have := right_fit hr; omega) (right_fit hr).2
  clear hg hn hf
  generalize lets s n = o at *
  generalize has s n = hs at *
  generalize hrr : right s = r at *
  replace hrr := Lib.hid hrr
  obtain ⟨t, b⟩ := s
  obtain ⟨⟨ot, ob⟩, oc⟩ := o
  simp only [GaveL, ShownL] at *
  have HB := Lib.hid (al_any w (.cells #[.int .i64 t, .int .u64 (b : Int)] 24))
  have HX := Lib.hid (heap_alloc_new w (.cells #[.int .i64 t, .int .u64 (b : Int)] 24))
  go_enter Tryd.func3, Tryd.ntmps3
  go_upto_region 1 with (fail)
  generalize w.alloc _ = w1 at *
  have hnn : (r != r) = false := by simp
  go_region_held3 (fun w' => Below w1.heap.size w1 w' ∧ w'.cell? ⟨w.heap.size, 0, none⟩ = some (.int .i64 t) ∧ w'.cell? ⟨w.heap.size, 1, none⟩ = some (.int .u64 (b : Int)))
    (first | exact held2 HX.out (Below.refl _ _).drew | exact held2 HX.out (Below.refl _ _) | exact held2 HX.out (kept_trans (And.left (by assumption)) hb))
    (first
      | (go_at_call 8; with_reducible refine (HAW.out _ (kept_trans HB.out (And.left (by assumption)))).mono ?_; rintro e wa ⟨rfl, hb⟩)
      | (go_at_call 9; with_reducible refine (HR.out _).mono ?_; rintro e wb ⟨rfl, hb⟩)
      | (go_at_call 10; with_reducible refine (HRR.out _).mono ?_; rintro e wc ⟨rfl, hb⟩))
  have hS := And.left (by assumption : Below w1.heap.size w1 _ ∧ _)
  have K2 := kept_hid HB hS
  have X2 := Lib.hid (blk HX.out hS)
  clear hS HB HX
  generalize wc = w2 at *
  obtain ⟨c0, c1⟩ := cells2 X2.out
  go_wp2_with fail
  with_reducible refine (HRR.out _).mono ?_
  rintro e w3 ⟨rfl, hb⟩
  have K3 := kept_hid K2 hb
  have X3 := Lib.hid (blk X2.out hb)
  clear hb K2 X2 c0 c1 HR HRR hnn
  cases r with
  | false =>
    go_wp2_with fail
    go_ret
    exact ⟨rfl, K3.out⟩
  | true =>
    obtain ⟨c0, c1⟩ := cells2 X3.out
    go_wp2_with fail
    with_reducible refine (HLC.out _ (by first | trivial | rfl)).mono ?_
    rintro e w4 ⟨rfl, hb⟩
    have HA := al_any w4 (.cells #[.int .i64 ot, .int .u64 (ob : Int)] 24)
    have Y5 := Lib.hid (heap_alloc_new w4 (.cells #[.int .i64 ot, .int .u64 (ob : Int)] 24))
    have X5 := Lib.hid (blk X3.out (kept_trans hb HA))
    have K5 := kept_hid K3 (kept_trans hb HA)
    clear hb HA K3 X3 c0 c1 HLC
    go_upto_region 6 with (fail)
    generalize w4.heap.size = G1 at *
    generalize w4.alloc _ = w5 at *
    obtain ⟨c0, c1⟩ := cells2 X5.out
    go_wp2_with fail
    with_reducible refine (HLR.out _ (by first | trivial | rfl)).mono ?_
    rintro e w6 ⟨rfl, hb⟩
    have HA := al_any w6 (.cells #[.int .i64 ot, .int .u64 (ob : Int)] 24)
    have Z7 := Lib.hid (heap_alloc_new w6 (.cells #[.int .i64 ot, .int .u64 (ob : Int)] 24))
    have X7 := Lib.hid (blk X5.out (kept_trans hb HA))
    have Y7 := Lib.hid (blk Y5.out (kept_trans hb HA))
    have K7 := kept_hid K5 (kept_trans hb HA)
    clear hb HA K5 X5 Y5 c0 c1 HLR
    go_upto_region 7 with (fail)
    generalize w6.heap.size = G2 at *
    generalize w6.alloc _ = w7 at *
    have hq := fun W => run_sameS ⟨ot, ob⟩ W
    have hq2 : (hs == hs) = true := by simp
    simp only at hq
    have CS := Lib.hid fun W (h : Below w7.heap.size w7 W) => (show Below w7.heap.size w7 W ∧ (W.cell? ⟨w.heap.size, 0, none⟩ = some (.int .i64 t) ∧ W.cell? ⟨w.heap.size, 1, none⟩ = some (.int .u64 (b : Int))) ∧ (W.cell? ⟨G1, 0, none⟩ = some (.int .i64 ot) ∧ W.cell? ⟨G1, 1, none⟩ = some (.int .u64 (ob : Int))) ∧ (W.cell? ⟨G2, 0, none⟩ = some (.int .i64 ot) ∧ W.cell? ⟨G2, 1, none⟩ = some (.int .u64 (ob : Int))) from ⟨h, cells2 (blk X7.out h), cells2 (blk Y7.out h), cells2 (blk Z7.out h)⟩)
    go_region_held3 (fun W => Below w7.heap.size w7 W ∧ (W.cell? ⟨w.heap.size, 0, none⟩ = some (.int .i64 t) ∧ W.cell? ⟨w.heap.size, 1, none⟩ = some (.int .u64 (b : Int))) ∧ (W.cell? ⟨G1, 0, none⟩ = some (.int .i64 ot) ∧ W.cell? ⟨G1, 1, none⟩ = some (.int .u64 (ob : Int))) ∧ (W.cell? ⟨G2, 0, none⟩ = some (.int .i64 ot) ∧ W.cell? ⟨G2, 1, none⟩ = some (.int .u64 (ob : Int))))
      (first | exact CS.out _ (Below.refl _ _).drew | exact CS.out _ (Below.refl _ _) | exact CS.out _ (kept_trans (And.left (by assumption)) hb))
      (first
        | (go_at_call 13; with_reducible refine (HCO.out _ _ (kept_trans K7.out (And.left (by assumption)))).mono ?_; rintro e wa ⟨rfl, hb⟩)
        | (go_at_call 14; with_reducible refine (HHC.out _ trivial).mono ?_; rintro e wb ⟨rfl, hb⟩)
        | (go_at_call 15; with_reducible refine (HHR.out _ trivial).mono ?_; rintro e wc ⟨rfl, hb⟩))
    have hS := And.left (by assumption : Below w7.heap.size w7 _ ∧ _)
    have KZ := kept_hid K7 hS
    go_wp2_with fail
    go_ret
    exact ⟨rfl, KZ.out⟩
end Win
end Go.Proofs.YteggdfkmncikpaaDoor
