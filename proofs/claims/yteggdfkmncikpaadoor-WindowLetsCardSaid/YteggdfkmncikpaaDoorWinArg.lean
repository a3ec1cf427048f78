/- Windows as values, in boxes; what is answered. Written by tools/gen_win.py. -/
import Derived.Test.YteggdfkmncikpaaDoorWinSpec
import Derived.Test.YteggdfkmncikpaaDoorBunBase
import Derived.Deep.Cut
import Derived.Deep.LoopGhost
import Derived.Deep.RegionLaw
import Derived.Deep.RegionHeld3
import Derived.IntWalk
import Derived.Lib.SmallJoins
namespace Go.Proofs.YteggdfkmncikpaaDoor
open Go.RowKit Sha Six Apd Cut Err
set_option linter.unusedVariables false
set_option linter.unusedSimpArgs false
namespace Win
theorem cells2 {w : World} {B : Nat} {a b : Value} {t : TypeId} (h : w.heap[B]? = some (.cells #[a, b] t (0, 0))) : w.cell? ⟨B, 0, none⟩ = some a ∧ w.cell? ⟨B, 1, none⟩ = some b :=
  ⟨cell_of_row w B 0 _ _ _ h, cell_of_row w B 1 _ _ _ h⟩
theorem free2 {w : World} {B : Nat} {a b : Value} {t : TypeId} (h : w.heap[B]? = some (.cells #[a, b] t (0, 0))) : w.frozen? ⟨B, 0, none⟩ = false ∧ w.frozen? ⟨B, 1, none⟩ = false :=
  ⟨frozen_of_row w B 0 _ _ h, frozen_of_row w B 1 _ _ h⟩
theorem over2 (a : World) (B : Nat) (t : TypeId) (a0 a1 u0 u1 : Value) (h : a.heap[B]? = some (.cells #[a0, a1] t (0, 0))) :
    ((a.setCell ⟨B, 0, none⟩ u0).setCell ⟨B, 1, none⟩ u1).heap[B]? = some (.cells #[u0, u1] t (0, 0)) ∧ a.grownBy ((a.setCell ⟨B, 0, none⟩ u0).setCell ⟨B, 1, none⟩ u1) (some B) := by
  have h := heap_setCell_same _ B 0 _ t u0 h
  have h := heap_setCell_same _ B 1 _ t u1 h
  exact ⟨h, gtrans (gsetCell _ _ _ _) (gsetCell _ _ _ _)⟩
theorem held2 {w1 w' : World} {B : Nat} {t : TypeId} {a0 a1 : Value} (k : w1.heap[B]? = some (.cells #[a0, a1] t (0, 0))) (h : Below w1.heap.size w1 w') :
    Below w1.heap.size w1 w' ∧ w'.cell? ⟨B, 0, none⟩ = some a0 ∧ w'.cell? ⟨B, 1, none⟩ = some a1 := ⟨h, cells2 ((h.block B (there_lt k)).trans k)⟩
/-- Numbers that fit. -/
structure Fit (s : W) : Prop where
  bits : s.bits < 18446744073709551616
  top : IntKind.i64.wrap s.top = s.top
/-- The error of this number (0: nil). -/
def errn (code : Nat) : Value := if code = 0 then .nilIface else .iface 46 (.int .i64 (code : Int))
theorem errn_0 : errn 0 = .nilIface := rfl
/-- A window and the error of this number. -/
def GaveL (w w' : World) (s : W) (code : Nat) (e : Ending) : Prop := e = .returned (.tuple #[.agg #[.int .i64 s.top, .int .u64 (s.bits : Int)], errn code]) ∧ Below w.heap.size w w'
theorem right_fit {s : W} (h : right s = true) : 0 ≤ s.top ∧ s.top ≤ 4611686018427387904 := ⟨(right_iff.1 h).1, (right_iff.1 h).2.1⟩
end Win
end Go.Proofs.YteggdfkmncikpaaDoor
