/- Plain: where a number first stands in a list; a line as what is cut off a field's cells. -/
import Derived.Test.YtaopkelobglnbaaGreatDoorEdtRight
namespace Go.Proofs.YtaopkelobglnbaaGreatDoor
set_option linter.unusedVariables false
namespace Edt
open Grd Fld
theorem first_at : ∀ (xs : List Nat) (a : Nat), (∃ j, j < xs.length ∧ xs.getD j 0 = a ∧ (∀ i, i < j → xs.getD i 0 ≠ a) ∧ xs.dropWhile (fun x => x != a) = xs.drop j) ∨ xs.dropWhile (fun x => x != a) = []
  | [], a => .inr rfl
  | x :: xs, a => by
    by_cases h : x = a
    · subst h
      exact .inl ⟨0, by simp, by simp, fun i hi => absurd hi (Nat.not_lt_zero _), by rw [List.dropWhile_cons_of_neg (by simp)]; rfl⟩
    · have e : (x :: xs).dropWhile (fun y => y != a) = xs.dropWhile (fun y => y != a) := by rw [List.dropWhile_cons_of_pos (by simpa using h)]
      rcases first_at xs a with ⟨j, h1, h2, h3, h4⟩ | h1
      · refine .inl ⟨j + 1, by simpa using h1, by simpa using h2, fun i hi => ?_, by rw [e, h4]; rfl⟩
        cases i with
        | zero => simpa using h
        | succ i => simpa using h3 i (by omega)
      · exact .inr (by rw [e, h1])
/-- Where a cell stands among its field's, its line begins. -/
theorem line_first {cs : List C} {a : Nat} (ha : a < cs.length) (ho : open_ cs a = true) : ∃ j, j < (cells cs a).length ∧ (cells cs a).getD j 0 = a ∧ (∀ i, i < j → (cells cs a).getD i 0 ≠ a) ∧ line cs a = (cells cs a).drop j := by
  rw [line_drop ha ho]
  rcases first_at (cells cs a) a with h | h
  · exact h
  · have := (lineLen_pos ha ho).1
    rw [← line_length, line_drop ha ho, h] at this
    exact absurd this (Nat.lt_irrefl _)
theorem line_closed {cs : List C} {a : Nat} (ho : open_ cs a = false) : line cs a = [] := by
  have : lineLen cs a = 0 := by unfold lineLen; rw [if_neg (by rw [ho]; decide)]
  unfold line; rw [this]; rfl
theorem cells_len (cs : List C) (a : Nat) (hz : 0 < cs.length) : (cells cs a).length ≤ cs.length := by
  unfold cells cellsAt
  rw [List.length_map, List.length_range]
  unfold clen
  split
  · rename_i k hk
    have := firstK_some hk
    omega
  · exact Nat.le_refl _
/-- What is suitable in a Numeric field. -/
def suits (c : Nat) : Bool := digit c || (c == 28 || c == 30)
theorem suits_not (c : Nat) (n : Bool) : ((n && !digit c) && (c != 28 && c != 30)) = (n && !suits c) := by
  unfold suits
  cases n <;> cases digit c <;> cases h1 : (c == 28) <;> cases h2 : (c == 30) <;> simp_all [bne]
end Edt
end Go.Proofs.YtaopkelobglnbaaGreatDoor
