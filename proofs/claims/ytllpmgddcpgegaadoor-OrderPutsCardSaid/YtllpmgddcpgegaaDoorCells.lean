/- A struct's cells in a block of the call's own; a struct and another value as results. Plain laws, whatever program. -/
import Derived.Test.YtllpmgddcpgegaaDoorProg
import Derived.WalkKit
import Derived.Laws.ResultCell
import Derived.OwnWalk
import Derived.Laws.Rows
import Derived.Lib.Hide
import Derived.Below
import Derived.Deep.QuietTactic
import Derived.BigQuiet
namespace Go.Proofs.YtllpmgddcpgegaaDoor
open Go.RowKit
namespace Err
theorem results_cell_row_tmp {fn : Func} {p u : Tmp} {ty : TypeId} (h : fn.results = #[.cell p ty, .tmp u]) (tmps : Array Value) (P : Program) (w : World) (g : Nat) (cs : Array Value)
    (hp : tmps.getD p undef = .pointer (some ⟨g, 0, none⟩)) (hl : (loadVar ty ⟨g, 0, none⟩).run P w = .ok (.agg cs) w) (x : Value) (hx : tmps.getD u undef = x) :
    (results fn tmps).run P w = .ok (.tuple #[.agg cs, x]) w := by
  subst hx
  have hp' : tmps[p]?.getD undef = .pointer (some ⟨g, 0, none⟩) := by simpa using hp
  rw [results_cell_tmp h]
  simp [hp', asAddr, hl, Result.andThen]
theorem drewN_below (B m : Nat) (w : World) : Below B w (w.drewN m) := by
  induction m with
  | zero => exact Below.refl _ _
  | succ m ih => exact ih.drew
theorem set3 (w : World) (m : Nat) (t : TypeId) (a0 a1 a2 u0 u1 u2 : Value) :
    (((((w.alloc (.cells #[a0, a1, a2] t)).drewN m).setCell ⟨w.heap.size, 0, none⟩ u0).setCell ⟨w.heap.size, 1, none⟩ u1).setCell ⟨w.heap.size, 2, none⟩ u2).heap[w.heap.size]? = some (.cells #[u0, u1, u2] t (0, 0))
    ∧ Below w.heap.size w (((((w.alloc (.cells #[a0, a1, a2] t)).drewN m).setCell ⟨w.heap.size, 0, none⟩ u0).setCell ⟨w.heap.size, 1, none⟩ u1).setCell ⟨w.heap.size, 2, none⟩ u2) := by
  have h : ((w.alloc (.cells #[a0, a1, a2] t)).drewN m).heap[w.heap.size]? = some (.cells #[a0, a1, a2] t (0, 0)) := by
    show (w.alloc (.cells #[a0, a1, a2] t)).heap[w.heap.size]? = _
    exact heap_alloc_new w _
  have h := heap_setCell_same _ w.heap.size 0 _ t u0 h
  have h := heap_setCell_same _ w.heap.size 1 _ t u1 h
  have h := heap_setCell_same _ w.heap.size 2 _ t u2 h
  refine ⟨h, ?_⟩
  have hb : Below w.heap.size w ((w.alloc (.cells #[a0, a1, a2] t)).drewN m) := ((Below.refl _ _).alloc (Nat.le_refl _) _).trans (drewN_below _ _ _)
  have hb := hb.setCell (p := ⟨w.heap.size, 0, none⟩) (Nat.le_refl _) u0
  have hb := hb.setCell (p := ⟨w.heap.size, 1, none⟩) (Nat.le_refl _) u1
  have hb := hb.setCell (p := ⟨w.heap.size, 2, none⟩) (Nat.le_refl _) u2
  exact hb
theorem set4 (w : World) (m : Nat) (t : TypeId) (a0 a1 a2 a3 u0 u1 u2 u3 : Value) :
    ((((((w.alloc (.cells #[a0, a1, a2, a3] t)).drewN m).setCell ⟨w.heap.size, 0, none⟩ u0).setCell ⟨w.heap.size, 1, none⟩ u1).setCell ⟨w.heap.size, 2, none⟩ u2).setCell ⟨w.heap.size, 3, none⟩ u3).heap[w.heap.size]? = some (.cells #[u0, u1, u2, u3] t (0, 0))
    ∧ Below w.heap.size w ((((((w.alloc (.cells #[a0, a1, a2, a3] t)).drewN m).setCell ⟨w.heap.size, 0, none⟩ u0).setCell ⟨w.heap.size, 1, none⟩ u1).setCell ⟨w.heap.size, 2, none⟩ u2).setCell ⟨w.heap.size, 3, none⟩ u3) := by
  have h : ((w.alloc (.cells #[a0, a1, a2, a3] t)).drewN m).heap[w.heap.size]? = some (.cells #[a0, a1, a2, a3] t (0, 0)) := by
    show (w.alloc (.cells #[a0, a1, a2, a3] t)).heap[w.heap.size]? = _
    exact heap_alloc_new w _
  have h := heap_setCell_same _ w.heap.size 0 _ t u0 h
  have h := heap_setCell_same _ w.heap.size 1 _ t u1 h
  have h := heap_setCell_same _ w.heap.size 2 _ t u2 h
  have h := heap_setCell_same _ w.heap.size 3 _ t u3 h
  refine ⟨h, ?_⟩
  have hb : Below w.heap.size w ((w.alloc (.cells #[a0, a1, a2, a3] t)).drewN m) := ((Below.refl _ _).alloc (Nat.le_refl _) _).trans (drewN_below _ _ _)
  have hb := hb.setCell (p := ⟨w.heap.size, 0, none⟩) (Nat.le_refl _) u0
  have hb := hb.setCell (p := ⟨w.heap.size, 1, none⟩) (Nat.le_refl _) u1
  have hb := hb.setCell (p := ⟨w.heap.size, 2, none⟩) (Nat.le_refl _) u2
  have hb := hb.setCell (p := ⟨w.heap.size, 3, none⟩) (Nat.le_refl _) u3
  exact hb
theorem over3 (w : World) (B : Nat) (t : TypeId) (a0 a1 a2 u0 u1 u2 : Value) (h : w.heap[B]? = some (.cells #[a0, a1, a2] t (0, 0))) :
    (((w.setCell ⟨B, 0, none⟩ u0).setCell ⟨B, 1, none⟩ u1).setCell ⟨B, 2, none⟩ u2).heap[B]? = some (.cells #[u0, u1, u2] t (0, 0)) ∧ Below B w (((w.setCell ⟨B, 0, none⟩ u0).setCell ⟨B, 1, none⟩ u1).setCell ⟨B, 2, none⟩ u2) := by
  have h := heap_setCell_same _ B 0 _ t u0 h
  have h := heap_setCell_same _ B 1 _ t u1 h
  have h := heap_setCell_same _ B 2 _ t u2 h
  refine ⟨h, ?_⟩
  have hb := Below.refl B w
  have hb := hb.setCell (p := ⟨B, 0, none⟩) (Nat.le_refl _) u0
  have hb := hb.setCell (p := ⟨B, 1, none⟩) (Nat.le_refl _) u1
  have hb := hb.setCell (p := ⟨B, 2, none⟩) (Nat.le_refl _) u2
  exact hb
theorem cells3 {w : World} {B : Nat} {t : TypeId} {a0 a1 a2 : Value} (h : w.heap[B]? = some (.cells #[a0, a1, a2] t (0, 0))) :
    w.cell? ⟨B, 0, none⟩ = some a0 ∧ w.cell? ⟨B, 1, none⟩ = some a1 ∧ w.cell? ⟨B, 2, none⟩ = some a2 :=
  ⟨cell_of_row _ _ 0 _ _ _ h, cell_of_row _ _ 1 _ _ _ h, cell_of_row _ _ 2 _ _ _ h⟩
theorem free3 {w : World} {B : Nat} {t : TypeId} {cs : Array Value} (h : w.heap[B]? = some (.cells cs t (0, 0))) :
    w.frozen? ⟨B, 0, none⟩ = false ∧ w.frozen? ⟨B, 1, none⟩ = false ∧ w.frozen? ⟨B, 2, none⟩ = false :=
  ⟨frozen_of_row _ _ 0 _ _ h, frozen_of_row _ _ 1 _ _ h, frozen_of_row _ _ 2 _ _ h⟩
theorem over4 (w : World) (B : Nat) (t : TypeId) (a0 a1 a2 a3 u0 u1 u2 u3 : Value) (h : w.heap[B]? = some (.cells #[a0, a1, a2, a3] t (0, 0))) :
    ((((w.setCell ⟨B, 0, none⟩ u0).setCell ⟨B, 1, none⟩ u1).setCell ⟨B, 2, none⟩ u2).setCell ⟨B, 3, none⟩ u3).heap[B]? = some (.cells #[u0, u1, u2, u3] t (0, 0)) ∧ Below B w ((((w.setCell ⟨B, 0, none⟩ u0).setCell ⟨B, 1, none⟩ u1).setCell ⟨B, 2, none⟩ u2).setCell ⟨B, 3, none⟩ u3) := by
  have h := heap_setCell_same _ B 0 _ t u0 h
  have h := heap_setCell_same _ B 1 _ t u1 h
  have h := heap_setCell_same _ B 2 _ t u2 h
  have h := heap_setCell_same _ B 3 _ t u3 h
  refine ⟨h, ?_⟩
  have hb := Below.refl B w
  have hb := hb.setCell (p := ⟨B, 0, none⟩) (Nat.le_refl _) u0
  have hb := hb.setCell (p := ⟨B, 1, none⟩) (Nat.le_refl _) u1
  have hb := hb.setCell (p := ⟨B, 2, none⟩) (Nat.le_refl _) u2
  have hb := hb.setCell (p := ⟨B, 3, none⟩) (Nat.le_refl _) u3
  exact hb
theorem cells4 {w : World} {B : Nat} {t : TypeId} {a0 a1 a2 a3 : Value} (h : w.heap[B]? = some (.cells #[a0, a1, a2, a3] t (0, 0))) :
    w.cell? ⟨B, 0, none⟩ = some a0 ∧ w.cell? ⟨B, 1, none⟩ = some a1 ∧ w.cell? ⟨B, 2, none⟩ = some a2 ∧ w.cell? ⟨B, 3, none⟩ = some a3 :=
  ⟨cell_of_row _ _ 0 _ _ _ h, cell_of_row _ _ 1 _ _ _ h, cell_of_row _ _ 2 _ _ _ h, cell_of_row _ _ 3 _ _ _ h⟩
theorem free4 {w : World} {B : Nat} {t : TypeId} {cs : Array Value} (h : w.heap[B]? = some (.cells cs t (0, 0))) :
    w.frozen? ⟨B, 0, none⟩ = false ∧ w.frozen? ⟨B, 1, none⟩ = false ∧ w.frozen? ⟨B, 2, none⟩ = false ∧ w.frozen? ⟨B, 3, none⟩ = false :=
  ⟨frozen_of_row _ _ 0 _ _ h, frozen_of_row _ _ 1 _ _ h, frozen_of_row _ _ 2 _ _ h, frozen_of_row _ _ 3 _ _ h⟩
theorem held3 {w1 w' : World} {B : Nat} {t : TypeId} {a0 a1 a2 : Value} (k : w1.heap[B]? = some (.cells #[a0, a1, a2] t (0, 0))) (h : Below w1.heap.size w1 w') :
    Below w1.heap.size w1 w' ∧ w'.cell? ⟨B, 0, none⟩ = some a0 ∧ w'.cell? ⟨B, 1, none⟩ = some a1 ∧ w'.cell? ⟨B, 2, none⟩ = some a2 := by
  have hB : B < w1.heap.size := by
    rcases Nat.lt_or_ge B w1.heap.size with h0 | h0
    · exact h0
    · simp [Array.getElem?_eq_none h0] at k
  exact ⟨h, cells3 ((h.block B hB).trans k)⟩
theorem held4 {w1 w' : World} {B : Nat} {t : TypeId} {a0 a1 a2 a3 : Value} (k : w1.heap[B]? = some (.cells #[a0, a1, a2, a3] t (0, 0))) (h : Below w1.heap.size w1 w') :
    Below w1.heap.size w1 w' ∧ w'.cell? ⟨B, 0, none⟩ = some a0 ∧ w'.cell? ⟨B, 1, none⟩ = some a1 ∧ w'.cell? ⟨B, 2, none⟩ = some a2 ∧ w'.cell? ⟨B, 3, none⟩ = some a3 := by
  have hB : B < w1.heap.size := by
    rcases Nat.lt_or_ge B w1.heap.size with h0 | h0
    · exact h0
    · simp [Array.getElem?_eq_none h0] at k
  exact ⟨h, cells4 ((h.block B hB).trans k)⟩
end Err
end Go.Proofs.YtllpmgddcpgegaaDoor
