/- More of the same, for RefOf, RefCode, RefTag. -/
import Derived.Test.YtdiidfkmmgcjmaaDoorShaRow
import Derived.Test.YtdiidfkmmgcjmaaDoorMacSpec
import Derived.Deep.Cut
namespace Go.Proofs.YtdiidfkmmgcjmaaDoor
open Go.RowKit Cut Apd
namespace Sha
theorem ofInt_8_ (a : Nat) (ha : a < 256) : (BitVec.ofInt 8 (a : Int)).toNat = a := by
  rw [BitVec.ofInt_natCast, BitVec.toNat_ofNat]; exact Nat.mod_eq_of_lt (by omega)
theorem drop_cell_ {w : World} {b : Nat} {l : List Nat} {T : TypeId} (h : w.heap[b]? = some (.cells (u8s l).toArray T (0, 0))) (k : Nat) (hk : k < l.length) :
    w.cell? ⟨b, k, none⟩ = some (.int .u8 ((l.getD k 0 : Nat) : Int)) := (cell_of_row w b k _ _ _ h).trans (u8s_at hk)
theorem bytes4_val_ (x : Nat) : ∀ j, j < 4 → x / 2 ^ (24 - 8 * j) % 256 = (bytes4 x).getD j 0
  | 0, _ => rfl | 1, _ => rfl | 2, _ => rfl | 3, _ => by simp [bytes4]
  | k + 4, h => by omega
theorem out_length_ (s : St) : (out s).length = 32 := rfl
theorem out_snoc_ (s : St) (i j : Nat) (hi : i < 8) (hj : j < 4) : (out s).take (4 * i + (j + 1)) = (out s).take (4 * i + j) ++ [(bytes4 (s.list.getD i 0)).getD j 0] := by
  have hl := out_length_ s
  rw [← Nat.add_assoc, List.take_succ_eq_append_getElem (by omega)]
  congr 2
  match i, hi, j, hj with
  | 0, _, 0, _ => rfl | 0, _, 1, _ => rfl | 0, _, 2, _ => rfl | 0, _, 3, _ => rfl
  | 1, _, 0, _ => rfl | 1, _, 1, _ => rfl | 1, _, 2, _ => rfl | 1, _, 3, _ => rfl
  | 2, _, 0, _ => rfl | 2, _, 1, _ => rfl | 2, _, 2, _ => rfl | 2, _, 3, _ => rfl
  | 3, _, 0, _ => rfl | 3, _, 1, _ => rfl | 3, _, 2, _ => rfl | 3, _, 3, _ => rfl
  | 4, _, 0, _ => rfl | 4, _, 1, _ => rfl | 4, _, 2, _ => rfl | 4, _, 3, _ => rfl
  | 5, _, 0, _ => rfl | 5, _, 1, _ => rfl | 5, _, 2, _ => rfl | 5, _, 3, _ => rfl
  | 6, _, 0, _ => rfl | 6, _, 1, _ => rfl | 6, _, 2, _ => rfl | 6, _, 3, _ => rfl
  | 7, _, 0, _ => rfl | 7, _, 1, _ => rfl | 7, _, 2, _ => rfl | 7, _, 3, _ => rfl

theorem bk_ {w w' : World} {b : Nat} (hb : Below w.heap.size w w') (hlt : b < w.heap.size) :
    (∀ o, w'.cell? ⟨b, o, none⟩ = w.cell? ⟨b, o, none⟩) ∧ (∀ o, w'.frozen? ⟨b, o, none⟩ = w.frozen? ⟨b, o, none⟩) ∧ b < w'.heap.size :=
  ⟨fun o => hb.cell (p := ⟨b, o, none⟩) hlt, fun o => hb.frozen (p := ⟨b, o, none⟩) hlt, Nat.lt_of_lt_of_le hlt hb.size⟩
theorem info5_ : (Tryd.prog.info? 5).map (fun i => (i.zero, i.size, i.bytes)) = some (some (.int .u8 0), 1, 1) := by kernel_rfl
theorem u8_xor_nat_ (a b : Nat) (ha : a < 256) (hb : b < 256) : bits .xor .u8 (a : Int) (b : Int) = ((a ^^^ b : Nat) : Int) := by
  have hx : a ^^^ b < 2 ^ 8 := Nat.xor_lt_two_pow ha hb
  show IntKind.u8.wrap ((BitVec.ofInt 8 (a : Int) ^^^ BitVec.ofInt 8 (b : Int)).toNat : Int) = _
  rw [BitVec.toNat_xor, ofInt_8_ a ha, ofInt_8_ b hb, IntWalk.u8_in]
  omega
theorem row_bytes_ {w : World} {b n c : Nat} {l : List Nat} {T : TypeId} (h : w.heap[b]? = some (.cells (u8s l).toArray T (0, 0))) (hn : n ≤ l.length) (hc : n ≤ c) : BytesIn w (.slice (some ⟨b, 0, none⟩) n c) (l.take n) := by
  have hl : (l.take n).length = n := by rw [List.length_take]; omega
  refine ⟨_, c, by rw [hl], by rw [hl]; exact hc, .inr ⟨b, 0, rfl, fun j hj => ?_⟩⟩
  rw [hl] at hj
  rw [Nat.zero_add, drop_cell_ h j (by omega)]
  simp [List.getD_eq_getElem?_getD, hj]
/-- A fresh block of 32. -/
def Free32_ (w : World) (M : Nat) : Prop := w.heap[M]? = some (.cells (u8s (pad 32 [])).toArray 55 (0, 0))
theorem free_new_ (w : World) : Free32_ (w.alloc (.cells (u8s (pad 32 [])).toArray 55)) w.heap.size := heap_alloc_new w _
theorem free_below_ {w w' : World} {M : Nat} (h : Free32_ w M) (hb : Below w.heap.size w w') : Free32_ w' M := (hb.block _ (lt_of_heap_ h)).trans h
theorem row_all_ {w : World} {b n : Nat} {l : List Nat} {T : TypeId} (h : w.heap[b]? = some (.cells (u8s l).toArray T (0, 0))) (hl : l.length = n) : BytesIn w (.slice (some ⟨b, 0, none⟩) n n) l := by
  subst hl
  exact ⟨_, l.length, rfl, Nat.le_refl _, .inr ⟨b, 0, rfl, fun j hj => by rw [Nat.zero_add]; exact drop_cell_ h j hj⟩⟩
end Sha
end Go.Proofs.YtdiidfkmmgcjmaaDoor
