/- Bytes of a row of the call's own, flipped one behind the other. -/
import Derived.Test.YtllpmgddcpgegaaLit
namespace Go.Proofs.Ytllpmgddcpgegaa
open Go.RowKit Sha
namespace Cut
theorem u8_flip (a : Nat) (ha : a < 256) : bits .xor .u8 (a : Int) 255 = ((a ^^^ 255 : Nat) : Int) := by
  have hx : a ^^^ 255 < 2 ^ 8 := Nat.xor_lt_two_pow ha (by decide)
  have e1 : (BitVec.ofInt 8 (a : Int)).toNat = a := by rw [BitVec.ofInt_natCast, BitVec.toNat_ofNat]; exact Nat.mod_eq_of_lt (by omega)
  show IntKind.u8.wrap ((BitVec.ofInt 8 (a : Int) ^^^ BitVec.ofInt 8 255).toNat : Int) = _
  have e2 : (BitVec.ofInt 8 255).toNat = 255 := by decide
  rw [BitVec.toNat_xor, e1, e2, IntWalk.u8_in]
  omega
/-- The first k bytes are flipped. -/
def flipTo (xs : List Nat) (k : Nat) : List Nat := (xs.take k).map (· ^^^ 255) ++ xs.drop k
theorem flip_lt {xs : List Nat} (h8 : ∀ x ∈ xs, x < 256) (k : Nat) : ∀ x ∈ flipTo xs k, x < 256 := by
  intro x hx
  rcases List.mem_append.1 hx with h | h
  · obtain ⟨y, hy, rfl⟩ := List.mem_map.1 h
    exact Nat.xor_lt_two_pow (n := 8) (h8 y (List.mem_of_mem_take hy)) (by decide)
  · exact h8 x (List.mem_of_mem_drop h)
theorem flip_len (xs : List Nat) (k : Nat) : (flipTo xs k).length = xs.length := by
  simp only [flipTo, List.length_append, List.length_map, List.length_take, List.length_drop]; omega
theorem flip_at {xs : List Nat} {k : Nat} (hk : k < xs.length) : (flipTo xs k).getD k 0 = xs.getD k 0 ∧ (flipTo xs k).set k (xs.getD k 0 ^^^ 255) = flipTo xs (k + 1) := by
  have hl : ((xs.take k).map (· ^^^ 255)).length = k := by rw [List.length_map, List.length_take]; omega
  constructor
  · simp only [flipTo, List.getD_eq_getElem?_getD]
    rw [List.getElem?_append_right (by omega), hl]
    simp
  · have hd : xs.drop k = xs.getD k 0 :: xs.drop (k + 1) := by
      rw [List.drop_eq_getElem_cons hk, List.getD_eq_getElem?_getD, List.getElem?_eq_getElem hk]; rfl
    have ht : xs.take (k + 1) = xs.take k ++ [xs.getD k 0] := by
      rw [List.take_succ_eq_append_getElem hk, List.getD_eq_getElem?_getD, List.getElem?_eq_getElem hk]; rfl
    rw [flipTo, flipTo, hd, ht, List.set_append_right _ _ (by omega), hl]
    simp
theorem own_put {w : World} {base g c n i v : Nat} {m : List Nat} (h : w.ownsRow base 5 1 (.slice (some ⟨g, 0, none⟩) n c) n (u8s m)) :
    (w.setCell ⟨g, i, none⟩ (.int .u8 (v : Int))).ownsRow base 5 1 (.slice (some ⟨g, 0, none⟩) n c) n (u8s (m.set i v)) := by
  have := (h.stored i (.int .u8 (v : Int))).1
  have e : (u8s m).set i (.int .u8 (v : Int)) = u8s (m.set i v) := by simp [u8s, List.map_set]
  rwa [e] at this
theorem own_free {w : World} {base e size n g c i : Nat} {xs : List Value} (h : w.ownsRow base e size (.slice (some ⟨g, 0, none⟩) n c) n xs) : w.frozen? ⟨g, i, none⟩ = false := by
  rcases h.2 with ⟨h1, _⟩ | ⟨g', cap, cur, h1, _, hh, _⟩
  · cases h1
  · injection h1 with e1 _ _
    injection e1 with e1
    injection e1 with e1
    subst e1
    exact frozen_of_row w g i cur _ hh
theorem own_apart {w w1 : World} {base b e size n c : Nat} {ad : Option Addr} {xs : List Value} (h : w.ownsRow base e size (.slice ad n c) n xs) (hg : w.grownBy w1 (some b)) (hb : ∀ a, ad = some a → a.block ≠ b) : w1.ownsRow base e size (.slice ad n c) n xs := by
  refine h.kept hg ?_
  cases ad with
  | none => exact .inl rfl
  | some a => exact .inr (by simpa [Value.ownBlock] using hb a rfl)
theorem own_blocks {w : World} {base e size n c : Nat} {ad : Option Addr} {xs : List Value} (h : w.ownsRow base e size (.slice ad n c) n xs) : ∀ a, ad = some a → base ≤ a.block ∧ a.block < w.heap.size := by
  obtain ⟨_, _, hv, _, hs⟩ := own_spot h
  injection hv with e1 _ _
  subst e1
  exact fun a ha => (hs a ha).2
end Cut
end Go.Proofs.Ytllpmgddcpgegaa
