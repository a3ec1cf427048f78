/- Blocks that are known whole, behind calls that make memory or change one block. -/
import Derived.Test.YtllpmgddcpgegaaDoorLit
import Derived.Test.YtllpmgddcpgegaaDoorCells
namespace Go.Proofs.YtllpmgddcpgegaaDoor
open Go.RowKit Sha
namespace Cut
theorem there_lt {w : World} {b : Nat} {x : Obj} (h : w.heap[b]? = some x) : b < w.heap.size := by
  rcases Nat.lt_or_ge b w.heap.size with h0 | h0
  · exact h0
  · simp [Array.getElem?_eq_none h0] at h
theorem cells8 {w : World} {B : Nat} {t : TypeId} {a0 a1 a2 a3 a4 a5 a6 a7 : Value} (h : w.heap[B]? = some (.cells #[a0, a1, a2, a3, a4, a5, a6, a7] t (0, 0))) :
    w.cell? ⟨B, 0, none⟩ = some a0 ∧ w.cell? ⟨B, 1, none⟩ = some a1 ∧ w.cell? ⟨B, 2, none⟩ = some a2 ∧ w.cell? ⟨B, 3, none⟩ = some a3 ∧ w.cell? ⟨B, 4, none⟩ = some a4 ∧ w.cell? ⟨B, 5, none⟩ = some a5 ∧ w.cell? ⟨B, 6, none⟩ = some a6 ∧ w.cell? ⟨B, 7, none⟩ = some a7 :=
  ⟨cell_of_row _ _ 0 _ _ _ h, cell_of_row _ _ 1 _ _ _ h, cell_of_row _ _ 2 _ _ _ h, cell_of_row _ _ 3 _ _ _ h, cell_of_row _ _ 4 _ _ _ h, cell_of_row _ _ 5 _ _ _ h, cell_of_row _ _ 6 _ _ _ h, cell_of_row _ _ 7 _ _ _ h⟩
theorem blk {w w' : World} {B : Nat} {x : Obj} (g : w.heap[B]? = some x) (hb : Below w.heap.size w w') : w'.heap[B]? = some x := by
  have hB : B < w.heap.size := by
    rcases Nat.lt_or_ge B w.heap.size with h0 | h0
    · exact h0
    · simp [Array.getElem?_eq_none h0] at g
  exact (hb.block B hB).trans g
/-- A new block, behind another one and a call. -/
theorem blk2 {w w' : World} {x y : Obj} (hb : Below ((w.alloc x).alloc y).heap.size ((w.alloc x).alloc y) w') : w'.heap[w.heap.size]? = some x ∧ Below w.heap.size w w' :=
  ⟨blk (blk (heap_alloc_new w x) (al_any _ y)) hb, (al_any w x).trans (((al_any _ y).mono (by simp)).trans (hb.mono (by simp; omega)))⟩
theorem held8 {w1 w' : World} {B : Nat} {t : TypeId} {a0 a1 a2 a3 a4 a5 a6 a7 : Value} (k : w1.heap[B]? = some (.cells #[a0, a1, a2, a3, a4, a5, a6, a7] t (0, 0))) (h : Below w1.heap.size w1 w') :
    Below w1.heap.size w1 w' ∧ w'.cell? ⟨B, 0, none⟩ = some a0 ∧ w'.cell? ⟨B, 1, none⟩ = some a1 ∧ w'.cell? ⟨B, 2, none⟩ = some a2 ∧ w'.cell? ⟨B, 3, none⟩ = some a3 ∧ w'.cell? ⟨B, 4, none⟩ = some a4 ∧ w'.cell? ⟨B, 5, none⟩ = some a5 ∧ w'.cell? ⟨B, 6, none⟩ = some a6 ∧ w'.cell? ⟨B, 7, none⟩ = some a7 := ⟨h, cells8 (blk k h)⟩
theorem gnew {w a b : World} {r : Option Nat} {B : Nat} (h : w.grownBy a r) (hg : a.grownBy b (some B)) (hB : w.heap.size ≤ B) : w.grownBy b r :=
  ⟨hg.os.trans h.os, hg.tape.trans h.tape, hg.output.trans h.output, Nat.le_trans h.size hg.size, fun i hi hr => (hg.block i (Nat.lt_of_lt_of_le hi h.size) (by intro e; injection e with e; omega)).trans (h.block i hi hr)⟩
theorem galloc {w a : World} {r : Option Nat} (h : w.grownBy a r) (o : Obj) : w.grownBy (a.alloc o) r := gtrans h (gbelow (al_any a o) r)
theorem blk_g {w w' : World} {B : Nat} {x : Obj} {r : Option Nat} (g : w.heap[B]? = some x) (hg : w.grownBy w' r) (hB : some B ≠ r) : w'.heap[B]? = some x :=
  (hg.block B (there_lt g) hB).trans g
theorem free8 {w : World} {B : Nat} {t : TypeId} {cs : Array Value} (h : w.heap[B]? = some (.cells cs t (0, 0))) :
    w.frozen? ⟨B, 0, none⟩ = false ∧ w.frozen? ⟨B, 1, none⟩ = false ∧ w.frozen? ⟨B, 2, none⟩ = false ∧ w.frozen? ⟨B, 3, none⟩ = false ∧ w.frozen? ⟨B, 4, none⟩ = false ∧ w.frozen? ⟨B, 5, none⟩ = false ∧ w.frozen? ⟨B, 6, none⟩ = false ∧ w.frozen? ⟨B, 7, none⟩ = false :=
  ⟨frozen_of_row _ _ 0 _ _ h, frozen_of_row _ _ 1 _ _ h, frozen_of_row _ _ 2 _ _ h, frozen_of_row _ _ 3 _ _ h, frozen_of_row _ _ 4 _ _ h, frozen_of_row _ _ 5 _ _ h, frozen_of_row _ _ 6 _ _ h, frozen_of_row _ _ 7 _ _ h⟩
/-- Eight cells of a block, stored one behind the other. -/
theorem over8 (a : World) (B : Nat) (t : TypeId) (a0 a1 a2 a3 a4 a5 a6 a7 u0 u1 u2 u3 u4 u5 u6 u7 : Value) (h : a.heap[B]? = some (.cells #[a0, a1, a2, a3, a4, a5, a6, a7] t (0, 0))) :
    ((((((((a.setCell ⟨B, 0, none⟩ u0).setCell ⟨B, 1, none⟩ u1).setCell ⟨B, 2, none⟩ u2).setCell ⟨B, 3, none⟩ u3).setCell ⟨B, 4, none⟩ u4).setCell ⟨B, 5, none⟩ u5).setCell ⟨B, 6, none⟩ u6).setCell ⟨B, 7, none⟩ u7).heap[B]? = some (.cells #[u0, u1, u2, u3, u4, u5, u6, u7] t (0, 0)) ∧
    a.grownBy ((((((((a.setCell ⟨B, 0, none⟩ u0).setCell ⟨B, 1, none⟩ u1).setCell ⟨B, 2, none⟩ u2).setCell ⟨B, 3, none⟩ u3).setCell ⟨B, 4, none⟩ u4).setCell ⟨B, 5, none⟩ u5).setCell ⟨B, 6, none⟩ u6).setCell ⟨B, 7, none⟩ u7) (some B) := by
  have g0 := gsetCell a B 0 u0
  have h : (a.setCell ⟨B, 0, none⟩ u0).heap[B]? = some (.cells #[u0, a1, a2, a3, a4, a5, a6, a7] t (0, 0)) := heap_setCell_same _ B 0 _ t u0 h
  generalize a.setCell ⟨B, 0, none⟩ u0 = b0 at *
  have g1 := gsetCell b0 B 1 u1
  have h : (b0.setCell ⟨B, 1, none⟩ u1).heap[B]? = some (.cells #[u0, u1, a2, a3, a4, a5, a6, a7] t (0, 0)) := heap_setCell_same _ B 1 _ t u1 h
  generalize b0.setCell ⟨B, 1, none⟩ u1 = b1 at *
  have g2 := gsetCell b1 B 2 u2
  have h : (b1.setCell ⟨B, 2, none⟩ u2).heap[B]? = some (.cells #[u0, u1, u2, a3, a4, a5, a6, a7] t (0, 0)) := heap_setCell_same _ B 2 _ t u2 h
  generalize b1.setCell ⟨B, 2, none⟩ u2 = b2 at *
  have g3 := gsetCell b2 B 3 u3
  have h : (b2.setCell ⟨B, 3, none⟩ u3).heap[B]? = some (.cells #[u0, u1, u2, u3, a4, a5, a6, a7] t (0, 0)) := heap_setCell_same _ B 3 _ t u3 h
  generalize b2.setCell ⟨B, 3, none⟩ u3 = b3 at *
  have g4 := gsetCell b3 B 4 u4
  have h : (b3.setCell ⟨B, 4, none⟩ u4).heap[B]? = some (.cells #[u0, u1, u2, u3, u4, a5, a6, a7] t (0, 0)) := heap_setCell_same _ B 4 _ t u4 h
  generalize b3.setCell ⟨B, 4, none⟩ u4 = b4 at *
  have g5 := gsetCell b4 B 5 u5
  have h : (b4.setCell ⟨B, 5, none⟩ u5).heap[B]? = some (.cells #[u0, u1, u2, u3, u4, u5, a6, a7] t (0, 0)) := heap_setCell_same _ B 5 _ t u5 h
  generalize b4.setCell ⟨B, 5, none⟩ u5 = b5 at *
  have g6 := gsetCell b5 B 6 u6
  have h : (b5.setCell ⟨B, 6, none⟩ u6).heap[B]? = some (.cells #[u0, u1, u2, u3, u4, u5, u6, a7] t (0, 0)) := heap_setCell_same _ B 6 _ t u6 h
  generalize b5.setCell ⟨B, 6, none⟩ u6 = b6 at *
  have g7 := gsetCell b6 B 7 u7
  have h : (b6.setCell ⟨B, 7, none⟩ u7).heap[B]? = some (.cells #[u0, u1, u2, u3, u4, u5, u6, u7] t (0, 0)) := heap_setCell_same _ B 7 _ t u7 h
  generalize b6.setCell ⟨B, 7, none⟩ u7 = b7 at *
  exact ⟨h, gtrans g0 (gtrans g1 (gtrans g2 (gtrans g3 (gtrans g4 (gtrans g5 (gtrans g6 g7))))))⟩
end Cut
end Go.Proofs.YtllpmgddcpgegaaDoor
