/- Plain: the graphic bytes of the numbers 0 to 63. -/
namespace Go.Proofs.YtllpmgddcpgegaaDoor
namespace Six
def graphic : List Nat := [0x40, 0xc1, 0xc2, 0xc3, 0xc4, 0xc5, 0xc6, 0xc7, 0xc8, 0xc9, 0x4a, 0x4b, 0x4c, 0x4d, 0x4e, 0x4f, 0x50, 0xd1, 0xd2, 0xd3, 0xd4, 0xd5, 0xd6, 0xd7, 0xd8, 0xd9, 0x5a, 0x5b, 0x5c, 0x5d, 0x5e, 0x5f, 0x60, 0x61, 0xe2, 0xe3, 0xe4, 0xe5, 0xe6, 0xe7, 0xe8, 0xe9, 0x6a, 0x6b, 0x6c, 0x6d, 0x6e, 0x6f, 0xf0, 0xf1, 0xf2, 0xf3, 0xf4, 0xf5, 0xf6, 0xf7, 0xf8, 0xf9, 0x7a, 0x7b, 0x7c, 0x7d, 0x7e, 0x7f]
/-- A number's graphic byte. -/
def put (n : Nat) : Nat := graphic.getD n 0
/-- A digit's sign. -/
def sign (d : Nat) : Nat := if d < 10 then d + 48 else d + 87
/-- What a digit stands for. -/
def value (c : Nat) : Nat := if 97 ≤ c then c - 87 else c - 48
/-- The digits of all graphic bytes, one behind the other. -/
def digits (i : Nat) : Nat := sign (if i % 2 = 0 then put (i / 2) / 16 else put (i / 2) % 16)
/-- A byte is graphic. -/
def isGraphic (b : Nat) : Bool := put (b % 64) == b

theorem put_lt : ∀ n, n < 64 → put n < 256 := by decide
theorem put_low : ∀ n, n < 64 → put n % 64 = n := by decide
theorem put_digits : ∀ n, n < 64 → 16 * value (digits (2 * n)) + value (digits (2 * n + 1)) = put n := by decide
theorem digits_hex : ∀ i, i < 128 → (48 ≤ digits i ∧ digits i ≤ 57) ∨ (97 ≤ digits i ∧ digits i ≤ 102) := by decide
theorem value_lt : ∀ i, i < 128 → value (digits i) < 16 := by decide
theorem put_inj (m n : Nat) (hm : m < 64) (hn : n < 64) (h : put m = put n) : m = n := by
  rw [← put_low m hm, ← put_low n hn, h]
theorem put_or : ∀ n, n < 64 → (value (digits (2 * n)) * 16) ||| value (digits (2 * n + 1)) = put n := by decide
theorem graphic_put (n : Nat) (h : n < 64) : isGraphic (put n) = true := by
  unfold isGraphic; rw [put_low n h]; simp
theorem put_of_graphic {b : Nat} (h : isGraphic b = true) : put (b % 64) = b := by
  unfold isGraphic at h; simpa using h
theorem not_graphic {b : Nat} (h : isGraphic b = false) (n : Nat) (hn : n < 64) : put n ≠ b := by
  intro e
  subst e
  rw [graphic_put n hn] at h; cases h
end Six
end Go.Proofs.YtllpmgddcpgegaaDoor
