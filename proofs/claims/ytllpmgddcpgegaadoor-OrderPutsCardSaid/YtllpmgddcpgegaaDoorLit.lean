/- Rows of bytes that a call has made: literals, a lower base, worlds that have grown by them. -/
import Derived.Test.YtllpmgddcpgegaaDoorCutB
import Derived.Test.YtllpmgddcpgegaaDoorAppend
import Derived.Test.YtllpmgddcpgegaaDoorKeep
import Derived.Laws.OwnMore
namespace Go.Proofs.YtllpmgddcpgegaaDoor
open Go.RowKit Sha Apd
namespace Cut
theorem al_any (w : World) (o : Obj) : Below w.heap.size w (w.alloc o) := (Below.refl _ _).alloc (Nat.le_refl _) _
theorem lit_in (w : World) (l : List Nat) : BytesIn (w.alloc (.cells (u8s l).toArray 5)) (.slice (some ⟨w.heap.size, 0, none⟩) l.length l.length) l := by
  refine ⟨_, _, rfl, Nat.le_refl _, .inr ⟨w.heap.size, 0, rfl, fun j hj => ?_⟩⟩
  rw [cell_of_row _ _ (0 + j) _ _ _ (heap_alloc_new w _), Nat.zero_add]
  exact u8s_at hj
theorem lit_in1 (w : World) (o : Obj) (l : List Nat) : BytesIn ((w.alloc o).alloc (.cells (u8s l).toArray 5)) (.slice (some ⟨w.heap.size + 1, 0, none⟩) l.length l.length) l := by
  have h := lit_in (w.alloc o) l
  rwa [World.size_alloc] at h
theorem own_lit (w : World) (base : Nat) (l : List Nat) (hb : base ≤ w.heap.size) (hl : l.length < 1000000) : (w.alloc (.cells (u8s l).toArray 5)).ownsRow base 5 1 (.slice (some ⟨w.heap.size, 0, none⟩) l.length l.length) l.length (u8s l) := by
  have := World.ownsRow_lit (base := base) (e := 5) (size := 1) w (u8s l).toArray l.length hb (by unfold maxLen; omega) (by simp [u8s])
  simpa using this
theorem own_mono {w : World} {b base e size n : Nat} {v : Value} {xs : List Value} (h : w.ownsRow base e size v n xs) (hb : b ≤ base) : w.ownsRow b e size v n xs := by
  refine ⟨h.1, ?_⟩
  rcases h.2 with h0 | ⟨g, cap, cur, h1, h2, h3⟩
  · exact .inl h0
  · exact .inr ⟨g, cap, cur, h1, Nat.le_trans hb h2, h3⟩
theorem below_own {w a b : World} {v : Value} {e size n : Nat} {xs : List Value} (h : Below w.heap.size w a) (hg : a.grownBy b v.ownBlock) (ho : a.ownsRow w.heap.size e size v n xs) : Below w.heap.size w b :=
  h.grown hg h.size (own_ge ho)
theorem own_nil {w : World} {base n : Nat} {ad : Option Addr} {c : Nat} {m : List Nat} (h : w.ownsRow base 5 1 (.slice ad n c) n (u8s m)) : ad = none → n = 0 ∧ c = 0 := by
  obtain ⟨_, _, hv, hn, _⟩ := own_spot h
  injection hv with e1 _ e3
  subst e1 e3
  exact hn
/-- Two bytes of an array, as a slice. -/
theorem two_in {w : World} {T x y : Nat} {t : TypeId} (h : w.heap[T]? = some (.cells #[.int .u8 (x : Int), .int .u8 (y : Int)] t (0, 0))) : BytesIn w (.slice (some ⟨T, 0, none⟩) 2 2) [x, y] := by
  refine ⟨_, _, rfl, Nat.le_refl _, .inr ⟨T, 0, rfl, fun j hj => ?_⟩⟩
  have hj2 : j = 0 ∨ j = 1 := by simp at hj; omega
  rcases hj2 with rfl | rfl
  · exact cell_of_row _ _ 0 _ _ _ h
  · exact cell_of_row _ _ 1 _ _ _ h
end Cut
end Go.Proofs.YtllpmgddcpgegaaDoor
