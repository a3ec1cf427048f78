/- Small laws on memory and rows of numbers; no program is named here. -/
import Derived.WalkKit
import Derived.Deep.MidRow
import Derived.Deep.Quiet
namespace Go.Proofs.YtllpmgddcpgegaaDoor
open Go.RowKit
namespace Sha
/-- The cells of a row of numbers. -/
def u8s (l : List Nat) : List Value := l.map fun (x : Nat) => .int .u8 (x : Int)
def u32s (l : List Nat) : List Value := l.map fun (x : Nat) => .int .u32 (x : Int)
def pad (n : Nat) (l : List Nat) : List Nat := l ++ List.replicate (n - l.length) 0
theorem u8s_at {l : List Nat} {i : Nat} (h : i < l.length) : (u8s l).toArray[i]? = some (.int .u8 ((l.getD i 0 : Nat) : Int)) := by
  simp [u8s, h]
theorem u32s_at {l : List Nat} {i : Nat} (h : i < l.length) : (u32s l).toArray[i]? = some (.int .u32 ((l.getD i 0 : Nat) : Int)) := by
  simp [u32s, h]
theorem pad_length {n : Nat} {l : List Nat} (h : l.length ≤ n) : (pad n l).length = n := by simp [pad]; omega
theorem pad_getD {n : Nat} {l : List Nat} {i : Nat} (h : i < l.length) : (pad n l).getD i 0 = l.getD i 0 := by
  simp [pad, List.getD_eq_getElem?_getD, List.getElem?_append_left h]
theorem pad_snoc {n : Nat} {l : List Nat} (v : Nat) (h : l.length < n) : (pad n l).set l.length v = pad n (l ++ [v]) := by
  unfold pad
  rw [List.set_append_right _ _ (Nat.le_refl _), Nat.sub_self]
  have e : n - l.length = (n - (l ++ [v]).length) + 1 := by simp; omega
  rw [e, List.replicate_succ, List.set_cons_zero]; simp
theorem pad_full {n : Nat} {l : List Nat} (h : l.length = n) : pad n l = l := by simp [pad, h]
theorem u32s_set (l : List Nat) (i v : Nat) : (u32s l).toArray.setIfInBounds i (.int .u32 (v : Int)) = (u32s (l.set i v)).toArray := by
  simp [u32s, List.map_set]
theorem u8s_set (l : List Nat) (i v : Nat) : (u8s l).toArray.setIfInBounds i (.int .u8 (v : Int)) = (u8s (l.set i v)).toArray := by
  simp [u8s, List.map_set]
theorem zeros32 (n : Nat) : (u32s (pad n [])).toArray = Array.replicate n (.int .u32 0) := by
  simp [u32s, pad]
theorem zeros8 (n : Nat) : (u8s (pad n [])).toArray = Array.replicate n (.int .u8 0) := by
  simp [u8s, pad]
theorem keep_cell {w : World} {B i j : Nat} {u v : Value} (h : j ≠ i) (hc : w.cell? ⟨B, j, none⟩ = some u) : (w.setCell ⟨B, i, none⟩ v).cell? ⟨B, j, none⟩ = some u := by
  have e : (⟨B, i, none⟩ : Addr) ≠ ⟨B, j, none⟩ := by intro e; injection e with _ e; exact h e.symm
  rw [World.cell?_setCell_other (h := e)]
  exact hc
theorem heap_setCell_same' (w : World) (b i : Nat) (C : Array Value) (t : TypeId) (fr : Nat × Nat) (v : Value) (h : w.heap[b]? = some (.cells C t fr)) :
    (w.setCell ⟨b, i, none⟩ v).heap[b]? = some (.cells (C.setIfInBounds i v) t fr) := by
  simp [World.setCell, Array.getElem?_modify, h]
/-- A row that is written into a block that is known whole. -/
theorem heap_setCells (b : Nat) (t : TypeId) (fr : Nat × Nat) : ∀ (vs : List Value) (o : Nat) (w : World) (C : List Value), w.heap[b]? = some (.cells C.toArray t fr) → o + vs.length ≤ C.length →
    (w.setCells b o vs).heap[b]? = some (.cells (C.take o ++ vs ++ C.drop (o + vs.length)).toArray t fr)
  | [], o, w, C, h, _ => by simpa [World.setCells] using h
  | v :: r, o, w, C, h, hl => by
    simp only [List.length_cons] at hl
    have h1 : (w.setCell ⟨b, o, none⟩ v).heap[b]? = some (.cells (C.set o v).toArray t fr) := by
      rw [heap_setCell_same' w b o _ t fr v h]; simp
    have h2 := heap_setCells b t fr r (o + 1) (w.setCell ⟨b, o, none⟩ v) (C.set o v) h1 (by simp; omega)
    rw [World.setCells, h2]
    congr 3
    have e1 : (C.set o v).take (o + 1) = C.take o ++ [v] := by
      rw [List.take_succ_eq_append_getElem (by simp; omega), List.take_set_of_le (Nat.le_refl _)]; simp
    have e2 : (C.set o v).drop (o + 1 + r.length) = C.drop (o + (r.length + 1)) := by
      rw [List.drop_set_of_lt (by omega)]; congr 1; omega
    rw [e1, e2]; simp
theorem there_of_block {w : World} {b : Nat} {C : Array Value} {t : TypeId} (h : w.heap[b]? = some (.cells C t (0, 0))) (o n : Nat) (hl : o + n ≤ C.size) : w.there b o n := fun j hj => by
  refine ⟨?_, frozen_of_row w b (o + j) C t h⟩
  rw [cell_of_row w b (o + j) C t (0, 0) h]
  simp; omega
theorem u8s_cells (l : List Nat) : (u8s l).toArray.all (·.oneCell') = true := all_oneCell_toArray (by intro v hv; simp [u8s] at hv; obtain ⟨x, _, rfl⟩ := hv; rfl)
theorem u32s_cells (l : List Nat) : (u32s l).toArray.all (·.oneCell') = true := all_oneCell_toArray (by intro v hv; simp [u32s] at hv; obtain ⟨x, _, rfl⟩ := hv; rfl)
theorem u8s_one (l : List Nat) : ∀ v ∈ u8s l, v.oneCell' = true := by intro v hv; simp [u8s] at hv; obtain ⟨x, _, rfl⟩ := hv; rfl
theorem u32s_one (l : List Nat) : ∀ v ∈ u32s l, v.oneCell' = true := by intro v hv; simp [u32s] at hv; obtain ⟨x, _, rfl⟩ := hv; rfl
theorem u8s_length (l : List Nat) : (u8s l).length = l.length := by simp [u8s]
theorem u32s_length (l : List Nat) : (u32s l).length = l.length := by simp [u32s]
theorem below_setCells {B : Nat} {w0 : World} (b : Nat) (hB : B ≤ b) : ∀ (vs : List Value) (o : Nat) (w : World), Below B w0 w → Below B w0 (w.setCells b o vs)
  | [], _, _, h => h
  | v :: r, o, _, h => below_setCells b hB r (o + 1) _ (h.setCell hB v)
theorem gtrans {w w1 w2 : World} {r : Option Nat} (h : w.grownBy w1 r) (k : w1.grownBy w2 r) : w.grownBy w2 r :=
  ⟨k.os.trans h.os, k.tape.trans h.tape, k.output.trans h.output, Nat.le_trans h.size k.size, fun i hi hr => (k.block i (Nat.lt_of_lt_of_le hi h.size) hr).trans (h.block i hi hr)⟩
theorem grefl (w : World) (r : Option Nat) : w.grownBy w r := ⟨rfl, rfl, rfl, Nat.le_refl _, fun _ _ _ => rfl⟩
theorem gdrewN (w : World) (n : Nat) (r : Option Nat) : w.grownBy (w.drewN n) r := ⟨rfl, rfl, rfl, Nat.le_refl _, fun _ _ _ => rfl⟩
theorem gbelow {w w1 : World} (h : Below w.heap.size w w1) (r : Option Nat) : w.grownBy w1 r := ⟨h.os, h.tape, h.output, h.size, fun k hk _ => h.block k hk⟩
theorem belowg {w w1 : World} (h : w.grownBy w1 none) : Below w.heap.size w w1 := ⟨h.os, h.tape, h.output, h.size, fun k hk => h.block k hk (by simp)⟩
theorem gsetCell (w : World) (b i : Nat) (v : Value) : w.grownBy (w.setCell ⟨b, i, none⟩ v) (some b) :=
  ⟨rfl, rfl, rfl, by simp [World.setCell], fun k _ hr => heap_setCell_other w ⟨b, i, none⟩ k v (by intro e; exact hr (by rw [e]))⟩
theorem gsetRow (w : World) (b : Nat) (cs : Array Value) : w.grownBy (w.setRow b cs) (some b) :=
  ⟨rfl, rfl, rfl, by simp [World.setRow], fun k _ hr => setRow_other w b k cs (by intro e; exact hr (by rw [e]))⟩
theorem gsetCells (b : Nat) : ∀ (vs : List Value) (o : Nat) (w : World), w.grownBy (w.setCells b o vs) (some b)
  | [], _, _ => grefl _ _
  | v :: r, o, w => gtrans (gsetCell w b o v) (gsetCells b r (o + 1) _)
theorem heap_alloc3 (w : World) (A B C : Obj) : (((w.alloc A).alloc B).alloc C).heap[w.heap.size]? = some A ∧ (((w.alloc A).alloc B).alloc C).heap[w.heap.size + 1]? = some B ∧ (((w.alloc A).alloc B).alloc C).heap[w.heap.size + 2]? = some C := by
  have s1 : (w.alloc A).heap.size = w.heap.size + 1 := by show (w.heap.push A).size = _; simp
  have s2 : ((w.alloc A).alloc B).heap.size = w.heap.size + 2 := by show ((w.alloc A).heap.push B).size = _; simp [s1]
  refine ⟨?_, ?_, ?_⟩
  · rw [heap_alloc_old _ _ (by omega)]; exact heap_alloc2_old w A B
  · rw [heap_alloc_old _ _ (by omega)]; exact heap_alloc2_new w A B
  · have := heap_alloc_new ((w.alloc A).alloc B) C
    rwa [s2] at this
/-- The cells of a row, as the world has them. -/
def rowAt (w : World) (b o n : Nat) : List Value := (List.range n).map fun j => (w.cell? ⟨b, o + j, none⟩).getD undef
def OkRow (w : World) (b o n : Nat) : Prop := ∀ j, j < n → (w.cell? ⟨b, o + j, none⟩).isSome = true
theorem rowAt_range {w : World} {b o n : Nat} (h : OkRow w b o n) : w.rangeAt b o (rowAt w b o n) := by
  intro j v hj
  have hjn : j < n := by
    rcases Nat.lt_or_ge j n with h' | h'
    · exact h'
    · rw [List.getElem?_eq_none (by simp [rowAt]; omega)] at hj; cases hj
  have := h j hjn
  obtain ⟨u, hu⟩ := Option.isSome_iff_exists.1 this
  simp [rowAt, hjn, hu] at hj
  rw [hu, hj]
theorem rowAt_length (w : World) (b o n : Nat) : (rowAt w b o n).length = n := by simp [rowAt]
theorem rowAt_eq {w : World} {b o n : Nat} {cs : List Value} (h : w.rangeAt b o cs) (hl : cs.length = n) : rowAt w b o n = cs := by
  apply List.ext_getElem?
  intro j
  by_cases hj : j < n
  · have hc := h j cs[j] (List.getElem?_eq_getElem (by omega))
    simp [rowAt, hj, hc, List.getElem?_eq_getElem (show j < cs.length by omega)]
  · rw [List.getElem?_eq_none (by rw [rowAt_length]; omega), List.getElem?_eq_none (by omega)]
theorem okRow_of {w : World} {b o n : Nat} {cs : List Value} (h : w.rangeAt b o cs) (hl : cs.length = n) : OkRow w b o n := fun j hj => by
  rw [h j cs[j] (List.getElem?_eq_getElem (by omega))]; rfl
end Sha
end Go.Proofs.YtllpmgddcpgegaaDoor
