/- Rows of bytes of the call's own, for the references of hash and mac. -/
import Derived.Test.YtdiidfkmmgcjmaaDoorBunBase
import Derived.Test.YtdiidfkmmgcjmaaDoorShaInv
namespace Go.Proofs.YtdiidfkmmgcjmaaDoor
open Go.RowKit Cut Apd
namespace Sha
def sliceLen_ : Value → Nat | .slice _ n _ => n | _ => 0
theorem row_form {w : World} {base e size n : Nat} {v : Value} {xs : List Value} (h : w.ownsRow base e size v n xs) : ∃ ad l c, v = .slice ad l c := by
  rcases h.2 with ⟨rfl, _⟩ | ⟨g, cap, cur, rfl, _⟩
  · exact ⟨_, _, _, rfl⟩
  · exact ⟨_, _, _, rfl⟩
theorem row_nil {w : World} {base e n : Nat} {v : Value} {xs : List Value} (h : w.ownsRow base e 1 v n xs) : ∀ a m c, v = .slice a m c → a = none → m = 0 ∧ c = 0 := by
  intro a m c hv ha
  rcases h.2 with ⟨h1, _⟩ | ⟨g, cap, cur, h1, _⟩
  · rw [hv] at h1; injection h1 with _ h2 h3; exact ⟨h2, h3⟩
  · rw [hv] at h1; injection h1 with h1; rw [ha] at h1; cases h1
theorem own_bytes_n {w : World} {base n : Nat} {v : Value} {m : List Nat} (h : w.ownsRow base 5 1 v n (u8s m)) (hl : m.length = n) : BytesIn w v m := by subst hl; exact own_bytes h
theorem lenbyte8 (n : Nat) : ∀ i, i < 8 → n * 8 / 2 ^ (56 - 8 * i) % 256 = (lenBytes n).getD i 0
  | 0, _ => rfl | 1, _ => rfl | 2, _ => rfl | 3, _ => rfl | 4, _ => rfl | 5, _ => rfl | 6, _ => rfl | 7, _ => by simp [lenBytes]
  | k + 8, h => by omega

theorem put_row_ {w : World} {b : Nat} {T : TypeId} {C D : List Nat} (hD : D.length = C.length) (h : w.heap[b]? = some (.cells (u8s C).toArray T (0, 0))) :
    (w.setCells b 0 (u8s D).toArray.toList).heap[b]? = some (.cells (u8s D).toArray T (0, 0)) := by
  have := heap_setCells b T (0, 0) (u8s D) 0 w _ h (by rw [u8s_length, u8s_length, hD]; omega)
  rw [this, Nat.zero_add, List.take_zero, List.nil_append, List.drop_of_length_le (by rw [u8s_length, u8s_length, hD]; exact Nat.le_refl _), List.append_nil]
theorem alloc_row (w : World) (T : TypeId) (C D : List Nat) (hD : D.length = C.length) : ∃ w', (w.alloc (.cells (u8s C).toArray T)).setCells w.heap.size 0 (u8s D).toArray.toList = w' ∧ w'.heap[w.heap.size]? = some (.cells (u8s D).toArray T (0, 0)) ∧ Below w.heap.size w w' :=
  ⟨_, rfl, put_row_ hD (heap_alloc_new w _), below_setCells _ (Nat.le_refl _) _ 0 _ ((Below.refl _ _).alloc (Nat.le_refl _) _)⟩
theorem div1024_ (x : Nat) : (x : Int) / 1024 = ((x / 1024 : Nat) : Int) := by omega

theorem div8_ (x : Nat) : (x : Int) / 8 = ((x / 8 : Nat) : Int) := by omega
theorem mul24_ {x : Nat} (h : x < 256) : x * 16777216 < 4294967296 := by omega
theorem mul16_ {x : Nat} (h : x < 256) : x * 65536 < 4294967296 := by omega
theorem mul8_ {x : Nat} (h : x < 256) : x * 256 < 4294967296 := by omega
/-- What lies behind k of the sums. -/
def addUpto_ (a b : List Nat) : Nat → List Nat
  | 0 => a
  | n + 1 => (addUpto_ a b n).set n ((a.getD n 0 + b.getD n 0) % 4294967296)
theorem addUpto_getD_ (a b : List Nat) (n j : Nat) (h : n ≤ j) : (addUpto_ a b n).getD j 0 = a.getD j 0 := by
  induction n with
  | zero => rfl
  | succ n ih => rw [addUpto_, List.getD_eq_getElem?_getD, List.getElem?_set_ne (by omega), ← List.getD_eq_getElem?_getD]; exact ih (by omega)
theorem addUpto_length_ (a b : List Nat) (n : Nat) : (addUpto_ a b n).length = a.length := by
  induction n with | zero => rfl | succ n ih => simp [addUpto_, ih]
/-- The two published texts. -/
def beginText_ : List UInt8 := [54, 97, 48, 57, 101, 54, 54, 55, 98, 98, 54, 55, 97, 101, 56, 53, 51, 99, 54, 101, 102, 51, 55, 50, 97, 53, 52, 102, 102, 53, 51, 97, 53, 49, 48, 101, 53, 50, 55, 102, 57, 98, 48, 53, 54, 56, 56, 99, 49, 102, 56, 51, 100, 57, 97, 98, 53, 98, 101, 48, 99, 100, 49, 57]
theorem begin_size_ : beginText_.length = 64 := by decide +kernel
theorem flat2_ (a b : Nat) : (((a : Int) + b) % 4294967296 : Int) = ((a + b) % 4294967296 : Nat) := by omega
theorem flat5_ (a b c d e : Nat) : (((((a : Int) + b + c + d + e) % 4294967296 : Int)) = (((((a + b) % 4294967296 + c) % 4294967296 + d) % 4294967296 + e) % 4294967296 : Nat)) := by omega
theorem lt_of_heap_ {w : World} {b : Nat} {o : Obj} (h : w.heap[b]? = some o) : b < w.heap.size := by
  rcases Nat.lt_or_ge b w.heap.size with h' | h'
  · exact h'
  · simp [h'] at h
def roundsText_ : List UInt8 := [52, 50, 56, 97, 50, 102, 57, 56, 55, 49, 51, 55, 52, 52, 57, 49, 98, 53, 99, 48, 102, 98, 99, 102, 101, 57, 98, 53, 100, 98, 97, 53, 51, 57, 53, 54, 99, 50, 53, 98, 53, 57, 102, 49, 49, 49, 102, 49, 57, 50, 51, 102, 56, 50, 97, 52, 97, 98, 49, 99, 53, 101, 100, 53, 100, 56, 48, 55, 97, 97, 57, 56, 49, 50, 56, 51, 53, 98, 48, 49, 50, 52, 51, 49, 56, 53, 98, 101, 53, 53, 48, 99, 55, 100, 99, 51, 55, 50, 98, 101, 53, 100, 55, 52, 56, 48, 100, 101, 98, 49, 102, 101, 57, 98, 100, 99, 48, 54, 97, 55, 99, 49, 57, 98, 102, 49, 55, 52, 101, 52, 57, 98, 54, 57, 99, 49, 101, 102, 98, 101, 52, 55, 56, 54, 48, 102, 99, 49, 57, 100, 99, 54, 50, 52, 48, 99, 97, 49, 99, 99, 50, 100, 101, 57, 50, 99, 54, 102, 52, 97, 55, 52, 56, 52, 97, 97, 53, 99, 98, 48, 97, 57, 100, 99, 55, 54, 102, 57, 56, 56, 100, 97, 57, 56, 51, 101, 53, 49, 53, 50, 97, 56, 51, 49, 99, 54, 54, 100, 98, 48, 48, 51, 50, 55, 99, 56, 98, 102, 53, 57, 55, 102, 99, 55, 99, 54, 101, 48, 48, 98, 102, 51, 100, 53, 97, 55, 57, 49, 52, 55, 48, 54, 99, 97, 54, 51, 53, 49, 49, 52, 50, 57, 50, 57, 54, 55, 50, 55, 98, 55, 48, 97, 56, 53, 50, 101, 49, 98, 50, 49, 51, 56, 52, 100, 50, 99, 54, 100, 102, 99, 53, 51, 51, 56, 48, 100, 49, 51, 54, 53, 48, 97, 55, 51, 53, 52, 55, 54, 54, 97, 48, 97, 98, 98, 56, 49, 99, 50, 99, 57, 50, 101, 57, 50, 55, 50, 50, 99, 56, 53, 97, 50, 98, 102, 101, 56, 97, 49, 97, 56, 49, 97, 54, 54, 52, 98, 99, 50, 52, 98, 56, 98, 55, 48, 99, 55, 54, 99, 53, 49, 97, 51, 100, 49, 57, 50, 101, 56, 49, 57, 100, 54, 57, 57, 48, 54, 50, 52, 102, 52, 48, 101, 51, 53, 56, 53, 49, 48, 54, 97, 97, 48, 55, 48, 49, 57, 97, 52, 99, 49, 49, 54, 49, 101, 51, 55, 54, 99, 48, 56, 50, 55, 52, 56, 55, 55, 52, 99, 51, 52, 98, 48, 98, 99, 98, 53, 51, 57, 49, 99, 48, 99, 98, 51, 52, 101, 100, 56, 97, 97, 52, 97, 53, 98, 57, 99, 99, 97, 52, 102, 54, 56, 50, 101, 54, 102, 102, 51, 55, 52, 56, 102, 56, 50, 101, 101, 55, 56, 97, 53, 54, 51, 54, 102, 56, 52, 99, 56, 55, 56, 49, 52, 56, 99, 99, 55, 48, 50, 48, 56, 57, 48, 98, 101, 102, 102, 102, 97, 97, 52, 53, 48, 54, 99, 101, 98, 98, 101, 102, 57, 97, 51, 102, 55, 99, 54, 55, 49, 55, 56, 102, 50]
theorem rounds_size_ : roundsText_.length = 512 := by decide +kernel
theorem addUpto_plus_ (s t : St) : addUpto_ s.list t.list 8 = (plus s t).list := rfl

end Sha
end Go.Proofs.YtdiidfkmmgcjmaaDoor
