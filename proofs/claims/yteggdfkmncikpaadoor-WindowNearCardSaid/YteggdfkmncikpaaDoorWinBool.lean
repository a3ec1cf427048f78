/- Rows of truths of the call's own. Written by tools/gen_win_laws.py. -/
import Derived.Test.YteggdfkmncikpaaDoorWinArg
import Derived.Laws.OwnMore
import Derived.OwnWalk
import Derived.Deep.QuietTactic
import Derived.BigQuiet
import Derived.Deep.Cut
import Derived.Deep.LoopGhost
import Derived.Deep.RegionLaw
import Derived.Deep.RegionHeld3
import Derived.IntWalk
import Derived.Lib.SmallJoins
namespace Go.Proofs.YteggdfkmncikpaaDoor
open Go.RowKit Sha Six Apd Cut Err
set_option linter.unusedVariables false
set_option linter.unusedSimpArgs false
namespace Win
def bools (l : List Bool) : List Value := l.map fun x => .bool x
theorem bools_at {l : List Bool} {i : Nat} (h : i < l.length) : (bools l)[i]? = some (.bool (l.getD i false)) := by
  simp [bools, h]
def OwnBs (w : World) (base : Nat) (v : Value) (xs : List Bool) : Prop := w.ownsRow base 4 1 v xs.length (bools xs)
theorem OwnBs.below {w w' : World} {base : Nat} {v : Value} {xs : List Bool} (h : OwnBs w base v xs) (hb : Below w.heap.size w w') : OwnBs w' base v xs := own_below h hb
theorem OwnBs.cell {w : World} {base g n c : Nat} {xs : List Bool} (h : OwnBs w base (.slice (some ⟨g, 0, none⟩) n c) xs) {i : Nat} (hi : i < xs.length) : w.cell? ⟨g, i, none⟩ = some (.bool (xs.getD i false)) ∧ w.frozen? ⟨g, i, none⟩ = false := by
  obtain ⟨hl, hv⟩ := h
  rcases hv with ⟨_, h0⟩ | ⟨g', cap, cur, hv, hg, hcur, h1, h2, h3, h4⟩
  · omega
  · injection hv with e1 e2 e3
    injection e1 with e1
    injection e1 with e1
    subst e1
    refine ⟨?_, frozen_of_row w g i cur _ hcur⟩
    have k5 := bools_at hi
    rw [← h4, List.getElem?_take_of_lt (by omega)] at k5
    rw [cell_of_row w g i cur _ (0, 0) hcur, ← Array.getElem?_toList]
    exact k5
theorem OwnBs.set {w : World} {base g n c : Nat} {xs : List Bool} (h : OwnBs w base (.slice (some ⟨g, 0, none⟩) n c) xs) (i : Nat) (x : Bool) :
    OwnBs (w.setCell ⟨g, i, none⟩ (.bool x)) base (.slice (some ⟨g, 0, none⟩) n c) (xs.set i x) ∧ w.grownBy (w.setCell ⟨g, i, none⟩ (.bool x)) (some g) := by
  have hn : n = xs.length := by
    obtain ⟨_, _, e⟩ := own_form h
    injection e
  subst hn
  unfold OwnBs at h ⊢
  rw [show bools (xs.set i x) = (bools xs).set i (.bool x) by simp [bools, List.map_set], List.length_set]
  exact World.ownsRow.stored h i (.bool x)
theorem infoB : (Tryd.prog.info? 4).map (fun i => (i.zero, i.size, i.bytes)) = some (some (.bool false), 1, 1) := by kernel_rfl
theorem made_bools (N : Nat) : (madeCells (Value.cells (.bool false)) (N * 1)).toList = bools (List.replicate N false) := by
  rw [Nat.mul_one]; show (madeCells #[.bool false] N).toList = _; rw [toList_madeCells_one]; simp [bools]
end Win
end Go.Proofs.YteggdfkmncikpaaDoor
