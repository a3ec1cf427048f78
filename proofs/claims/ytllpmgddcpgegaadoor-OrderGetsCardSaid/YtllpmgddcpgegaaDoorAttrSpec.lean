/- Plain: attributes' and writes' numbers, kinds of bytes. -/
import Derived.Test.YtllpmgddcpgegaaDoorSixSpec
namespace Go.Proofs.YtllpmgddcpgegaaDoor
namespace Att
open Six
/-- What a mark adds. -/
def bit (b : Bool) (n : Nat) : Nat := if b then n else 0
/-- An attribute's number. -/
def num (p n m : Bool) (s : Nat) : Nat := bit p 32 + bit n 16 + 4 * s + bit m 1
/-- A write's number. -/
def wnum (a u r : Bool) : Nat := bit a 4 + bit u 2 + bit r 1
/-- A byte is a character. -/
def char (b : Nat) : Bool := b == 0 || b == 28 || b == 30 || (decide (64 ≤ b) && decide (b ≤ 254))
/-- A byte is a bare key. -/
def bare (b : Nat) : Bool := b == 109 || b == 108 || b == 110 || b == 107
/-- A byte is a key that asks. -/
def aid (b : Nat) : Bool := bare b || b == 125 || (decide (241 ≤ b) && decide (b ≤ 249)) || (decide (122 ≤ b) && decide (b ≤ 124))
theorem num_lt (p n m : Bool) (s : Nat) (h : s < 4) : num p n m s < 64 := by
  unfold num bit; cases p <;> cases n <;> cases m <;> simp <;> omega
theorem wnum_lt (a u r : Bool) : wnum a u r < 8 := by cases a <;> cases u <;> cases r <;> decide
/-- A byte is that of no attribute. -/
def noAttr (b : Nat) : Bool := !isGraphic b || b % 64 / 2 % 2 == 1
/-- A byte is that of no write. -/
def noWrite (b : Nat) : Bool := !isGraphic b || decide (8 ≤ b % 64)
theorem attr_cases : ∀ b, b < 256 → noAttr b = false → ∃ p n m : Bool, ∃ s, s < 4 ∧ b = put (num p n m s) := by
  have h : ∀ b, b < 256 → noAttr b = true ∨ ([false, true].any fun p => [false, true].any fun n => [false, true].any fun m => [0, 1, 2, 3].any fun s => b == put (num p n m s)) = true := by decide +kernel
  intro b hb hn
  rcases h b hb with h | h
  · rw [hn] at h; cases h
  · rw [List.any_eq_true] at h
    obtain ⟨p, _, h⟩ := h
    rw [List.any_eq_true] at h
    obtain ⟨n, _, h⟩ := h
    rw [List.any_eq_true] at h
    obtain ⟨m, _, h⟩ := h
    rw [List.any_eq_true] at h
    obtain ⟨s, hs, h⟩ := h
    exact ⟨p, n, m, s, by simp at hs; omega, by simpa using h⟩
theorem write_cases : ∀ b, b < 256 → noWrite b = false → ∃ a u r : Bool, b = put (wnum a u r) := by
  have h : ∀ b, b < 256 → noWrite b = true ∨ ([false, true].any fun p => [false, true].any fun n => [false, true].any fun m => b == put (wnum p n m)) = true := by decide +kernel
  intro b hb hn
  rcases h b hb with h | h
  · rw [hn] at h; cases h
  · rw [List.any_eq_true] at h
    obtain ⟨p, _, h⟩ := h
    rw [List.any_eq_true] at h
    obtain ⟨n, _, h⟩ := h
    rw [List.any_eq_true] at h
    obtain ⟨m, _, h⟩ := h
    exact ⟨p, n, m, by simpa using h⟩
theorem aid_char : ∀ b, b < 256 → aid b = true → char b = true := by decide +kernel
theorem bare_aid (b : Nat) (h : bare b = true) : aid b = true := by unfold aid; rw [h]; rfl
theorem char_put : ∀ n, n < 64 → char (put n) = true := by decide +kernel
end Att
end Go.Proofs.YtllpmgddcpgegaaDoor
