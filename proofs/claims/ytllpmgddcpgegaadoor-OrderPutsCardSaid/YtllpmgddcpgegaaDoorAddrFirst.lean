/- Plain: an address's two bytes, and that they are read as it was. -/
import Derived.Test.YtllpmgddcpgegaaDoorAddrSpec
namespace Go.Proofs.YtllpmgddcpgegaaDoor
namespace Adr
open Six
/-- The two bytes of an address as it is written. -/
def first (a n : Nat) : Nat := if n ≤ 4096 then put (a / 64) else a / 256
def second (a n : Nat) : Nat := if n ≤ 4096 then put (a % 64) else a % 256
theorem first_lt (x s : Nat) (hx : x < s) (h2 : s ≤ 16383) : first x s < 256 := by
  unfold first
  split
  · exact put_lt _ (by omega)
  · omega
theorem second_lt (x s : Nat) : second x s < 256 := by
  unfold second
  split
  · exact put_lt _ (Nat.mod_lt _ (by decide))
  · omega
theorem aspec_put (a z : Nat) (r : List Nat) (ha : a < z) (h2 : z ≤ 16383) : aspec (first a z :: second a z :: r) z = (a, 0, -1) := by
  unfold aspec
  rw [if_neg (by omega), if_neg (by simp)]
  simp only [List.getD_cons_zero, List.getD_cons_succ]
  by_cases h : z ≤ 4096
  · have e1 : first a z = put (a / 64) := by unfold first; rw [if_pos h]
    have e2 : second a z = put (a % 64) := by unfold second; rw [if_pos h]
    rw [if_pos (by omega), e1, e2, graphic_put _ (by omega), graphic_put _ (by omega), if_neg (by decide), if_neg (by decide), put_low _ (by omega), put_low _ (by omega)]
    rw [if_neg (by omega)]
    congr 1; omega
  · have e1 : first a z = a / 256 := by unfold first; rw [if_neg h]
    have e2 : second a z = a % 256 := by unfold second; rw [if_neg h]
    rw [if_neg (by omega), e1, e2, if_neg (by omega), if_neg (by omega)]
    congr 1; omega
theorem put_aspec (ys : List Nat) (z : Nat) (h8 : ∀ y ∈ ys, y < 256) (h : (aspec ys z).2.1 = 0) :
    ∃ a r, a < z ∧ z ≤ 16383 ∧ ys = first a z :: second a z :: r ∧ aspec ys z = (a, 0, -1) := by
  have hk : ¬ ((z : Int) < 1 ∨ 16383 < (z : Int)) := by
    intro hh; unfold aspec at h; rw [if_pos hh] at h; simp at h
  have hl : ¬ ys.length < 2 := by
    intro hh; unfold aspec at h; rw [if_neg hk, if_pos hh] at h; simp at h
  match ys, hl with
  | [], hl => exact absurd (by simp) hl
  | [_], hl => exact absurd (by simp) hl
  | x :: y :: r, hl =>
    have hx := h8 x (by simp)
    have hy := h8 y (by simp)
    unfold aspec at h
    rw [if_neg hk, if_neg hl] at h
    simp only [List.getD_cons_zero, List.getD_cons_succ] at h
    by_cases h4 : z ≤ 4096
    · rw [if_pos (by omega)] at h
      cases gx : isGraphic x with
      | false => rw [if_pos gx] at h; simp at h
      | true =>
        cases gy : isGraphic y with
        | false => rw [if_neg (by rw [gx]; decide), if_pos gy] at h; simp at h
        | true =>
          rw [if_neg (by rw [gx]; decide), if_neg (by rw [gy]; decide)] at h
          by_cases hb : (z : Int) ≤ ((64 * (x % 64) + y % 64 : Nat) : Int)
          · rw [if_pos hb] at h; simp at h
          · have e1 : first (64 * (x % 64) + y % 64) z = x := by
              unfold first; rw [if_pos h4, show (64 * (x % 64) + y % 64) / 64 = x % 64 by omega]; exact put_of_graphic gx
            have e2 : second (64 * (x % 64) + y % 64) z = y := by
              unfold second; rw [if_pos h4, show (64 * (x % 64) + y % 64) % 64 = y % 64 by omega]; exact put_of_graphic gy
            refine ⟨64 * (x % 64) + y % 64, r, by omega, by omega, by rw [e1, e2], ?_⟩
            have := aspec_put (64 * (x % 64) + y % 64) z r (by omega) (by omega)
            rwa [e1, e2] at this
    · rw [if_neg (by omega)] at h
      by_cases g : 64 ≤ x
      · rw [if_pos g] at h; simp at h
      · rw [if_neg g] at h
        by_cases hb : (z : Int) ≤ ((256 * x + y : Nat) : Int)
        · rw [if_pos hb] at h; simp at h
        · have e1 : first (256 * x + y) z = x := by
            unfold first; rw [if_neg h4]; omega
          have e2 : second (256 * x + y) z = y := by
            unfold second; rw [if_neg h4]; omega
          refine ⟨256 * x + y, r, by omega, by omega, by rw [e1, e2], ?_⟩
          have := aspec_put (256 * x + y) z r (by omega) (by omega)
          rwa [e1, e2] at this
theorem aspec_head (x y : Nat) (r r' : List Nat) (n : Int) : aspec (x :: y :: r) n = aspec (x :: y :: r') n := by
  unfold aspec
  simp only [List.getD_cons_zero, List.getD_cons_succ, List.length_cons]
  rw [if_neg (show ¬ r.length + 1 + 1 < 2 by omega), if_neg (show ¬ r'.length + 1 + 1 < 2 by omega)]
theorem aspec_why (ys : List Nat) (z : Nat) (h1 : 1 ≤ z) (h2 : z ≤ 16383) : (aspec ys z).2.1 ≠ 0 → (aspec ys z).1 = 0 ∧ ((aspec ys z).2.1 = 2 ∨ (aspec ys z).2.1 = 3 ∨ (aspec ys z).2.1 = 4) := by
  unfold aspec
  rw [if_neg (by omega)]
  repeat' split
  all_goals simp
end Adr
end Go.Proofs.YtllpmgddcpgegaaDoor
