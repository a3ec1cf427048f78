/- Plain functions on lists: HMAC, as the program reckons it. No program is named here. -/
import Derived.Test.YtdiidfkmmgcjmaaDoorShaInv
namespace Go.Proofs.YtdiidfkmmgcjmaaDoor
namespace Sha
def keyOf (k : List Nat) : List Nat := if 64 < k.length then digest k else k
def kblock (k : List Nat) : List Nat := keyOf k ++ List.replicate (64 - (keyOf k).length) 0
def xored (l : List Nat) (c : Nat) : List Nat := l.map (· ^^^ c)
def hmac (k m : List Nat) : List Nat := digest (xored (kblock k) 92 ++ digest (xored (kblock k) 54 ++ m))
theorem digest_len (m : List Nat) : (digest m).length = 32 := rfl
theorem keyOf_length (k : List Nat) : (keyOf k).length ≤ 64 := by
  unfold keyOf
  split
  · rw [digest_len]; decide
  · omega
theorem kblock_length (k : List Nat) : (kblock k).length = 64 := by
  have := keyOf_length k
  simp [kblock]; omega
theorem out_small (s : St) : ∀ x ∈ out s, x < 256 := by
  intro x hx
  simp only [out, List.mem_flatMap, bytes4, List.mem_cons, List.not_mem_nil, or_false] at hx
  obtain ⟨y, _, h⟩ := hx
  omega
theorem digest_small (m : List Nat) : ∀ x ∈ digest m, x < 256 := out_small _
theorem keyOf_small {k : List Nat} (h : ∀ x ∈ k, x < 256) : ∀ x ∈ keyOf k, x < 256 := by
  unfold keyOf
  split
  · exact digest_small k
  · exact h
theorem kblock_small {k : List Nat} (h : ∀ x ∈ k, x < 256) : ∀ x ∈ kblock k, x < 256 := by
  intro x hx
  simp only [kblock, List.mem_append, List.mem_replicate] at hx
  rcases hx with hx | ⟨_, rfl⟩
  · exact keyOf_small h x hx
  · decide
theorem xor8_lt {a b : Nat} (ha : a < 256) (hb : b < 256) : a ^^^ b < 256 := Nat.xor_lt_two_pow (n := 8) ha hb
theorem xored_small {l : List Nat} {c : Nat} (h : ∀ x ∈ l, x < 256) (hc : c < 256) : ∀ x ∈ xored l c, x < 256 := by
  intro x hx
  simp only [xored, List.mem_map] at hx
  obtain ⟨y, hy, rfl⟩ := hx
  exact xor8_lt (h y hy) hc
theorem xored_length (l : List Nat) (c : Nat) : (xored l c).length = l.length := by simp [xored]
theorem xored_getD {l : List Nat} {c i : Nat} (h : i < l.length) : (xored l c).getD i 0 = l.getD i 0 ^^^ c := by
  simp [xored, h]
theorem hmac_length (k m : List Nat) : (hmac k m).length = 32 := rfl
theorem hmac_small (k m : List Nat) : ∀ x ∈ hmac k m, x < 256 := digest_small _
theorem kblock_zero (k : List Nat) (h : k.length < 64) : kblock (k ++ [0]) = kblock k := by
  have e1 : keyOf k = k := by unfold keyOf; rw [if_neg (by omega)]
  have e2 : keyOf (k ++ [0]) = k ++ [0] := by unfold keyOf; rw [if_neg (by simp; omega)]
  have e3 : 64 - k.length = (64 - (k ++ [0]).length) + 1 := by simp; omega
  unfold kblock
  rw [e1, e2, e3, List.replicate_succ]
  simp
theorem kblock_long (k : List Nat) (h : 64 < k.length) : kblock k = kblock (digest k) := by
  have e1 : keyOf k = digest k := by unfold keyOf; rw [if_pos h]
  have e2 : keyOf (digest k) = digest k := by unfold keyOf; rw [if_neg (by rw [digest_len]; decide)]
  unfold kblock
  rw [e1, e2]
theorem hmac_zero (k m : List Nat) (h : k.length < 64) : hmac (k ++ [0]) m = hmac k m := by unfold hmac; rw [kblock_zero k h]
theorem hmac_long (k m : List Nat) (h : 64 < k.length) : hmac k m = hmac (digest k) m := by unfold hmac; rw [← kblock_long k h]
theorem hmac_hi : hmac (List.replicate 20 11) [72, 105, 32, 84, 104, 101, 114, 101] = [176, 52, 76, 97, 216, 219, 56, 83, 92, 168, 175, 206, 175, 11, 241, 43, 136, 29, 194, 0, 201, 131, 61, 167, 38, 233, 55, 108, 46, 50, 207, 247] := by decide +kernel
theorem xor_zero {a b : Nat} : a ^^^ b = 0 ↔ a = b := by
  constructor
  · intro h
    apply Nat.eq_of_testBit_eq
    intro i
    have : (a ^^^ b).testBit i = false := by rw [h]; simp
    rw [Nat.testBit_xor] at this
    simpa using this
  · rintro rfl; exact Nat.xor_self a
/-- What a comparison to the end finds. -/
def differ (xs ys : List Nat) : Nat → Nat
  | 0 => 0
  | k + 1 => differ xs ys k ||| (xs.getD k 0 ^^^ ys.getD k 0)
theorem differ_zero (xs ys : List Nat) : ∀ k, differ xs ys k = 0 ↔ ∀ i, i < k → xs.getD i 0 = ys.getD i 0
  | 0 => by simp [differ]
  | k + 1 => by
    rw [differ, Nat.or_eq_zero_iff, differ_zero xs ys k, xor_zero]
    constructor
    · rintro ⟨h1, h2⟩ i hi
      rcases Nat.lt_or_ge i k with h | h
      · exact h1 i h
      · obtain rfl : i = k := by omega
        exact h2
    · intro h
      exact ⟨fun i hi => h i (by omega), h k (by omega)⟩
theorem differ_lt {xs ys : List Nat} (hx : ∀ x ∈ xs, x < 256) (hy : ∀ x ∈ ys, x < 256) : ∀ k, differ xs ys k < 256
  | 0 => by simp [differ]
  | k + 1 => by
    have h1 := differ_lt hx hy k
    have h2 := getD_lt hx (by decide) k
    have h3 := getD_lt hy (by decide) k
    exact Nat.or_lt_two_pow (n := 8) h1 (xor8_lt h2 h3)
theorem eq_of_getD {xs ys : List Nat} (hl : xs.length = ys.length) (h : ∀ i, i < xs.length → xs.getD i 0 = ys.getD i 0) : xs = ys := by
  apply List.ext_getElem hl
  intro i h1 h2
  have := h i h1
  simpa [List.getD_eq_getElem?_getD, h1, h2] using this
end Sha
end Go.Proofs.YtdiidfkmmgcjmaaDoor
