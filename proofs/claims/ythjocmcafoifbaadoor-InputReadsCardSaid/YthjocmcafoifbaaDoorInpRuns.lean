/- Plain: reading fields, round by round. -/
import Derived.Test.YthjocmcafoifbaaDoorInpMore
namespace Go.Proofs.YthjocmcafoifbaaDoor
open Six
namespace Inp
open Att Adr
def pre (os : List F) (q : List F × Nat × Nat) : List F × Nat × Nat := if q.2.1 ≠ 0 then ([], q.2) else (os ++ q.1, q.2)
/-- The fields os were read, the place is at_; Q is what will have been read of all. -/
def Runs (z : Nat) (xs : List Nat) (Q : List F × Nat × Nat) (os : List F) (at_ : Nat) : Prop := at_ ≤ xs.length ∧ ∃ f, xs.length - at_ ≤ f ∧ Q = pre os (flds z f at_ (xs.drop at_))
theorem flds_fail (z : Nat) : ∀ (f at_ : Nat) (ys : List Nat), (flds z f at_ ys).2.1 ≠ 0 → (flds z f at_ ys).1 = [] := by
  intro f at_ ys h
  cases f with
  | zero => rfl
  | succ f =>
    cases ys with
    | nil => rfl
    | cons y r =>
      simp only [flds] at h ⊢
      split
      · rfl
      · rename_i h1
        rw [if_neg h1] at h
        split
        · rfl
        · rename_i h2
          rw [if_neg h2] at h
          split
          · rfl
          · rename_i h3
            rw [if_neg h3] at h
            exact absurd h h3
theorem pre_nil (z f at_ : Nat) (ys : List Nat) : pre [] (flds z f at_ ys) = flds z f at_ ys := by
  unfold pre
  split
  · rename_i h
    have := flds_fail z f at_ ys h
    generalize flds z f at_ ys = q at *
    obtain ⟨a, b⟩ := q
    simp only at this
    rw [this]
  · simp
theorem runs_start {z : Nat} {xs : List Nat} {f at_ : Nat} (ha : at_ ≤ xs.length) (hf : xs.length - at_ ≤ f) : Runs z xs (flds z f at_ (xs.drop at_)) [] at_ := ⟨ha, f, hf, (pre_nil _ _ _ _).symm⟩
theorem rest_drop (T : List Nat) : rest T = T.drop (lets T).length := by
  conv => rhs; rw [← lets_rest T]
  rw [lets_rest]
  have := lets_rest T
  conv => rhs; arg 2; rw [← this]
  simp
theorem drop_at {xs : List Nat} {at_ : Nat} (h : at_ < xs.length) : xs.drop at_ = xs.getD at_ 0 :: xs.drop (at_ + 1) := by
  rw [List.getD_eq_getElem?_getD, List.getElem?_eq_getElem h]
  exact List.drop_eq_getElem_cons h
theorem runs_end {z : Nat} {xs : List Nat} {Q : List F × Nat × Nat} {os : List F} (h : Runs z xs Q os xs.length) : Q = (os, 0, xs.length) := by
  obtain ⟨_, f, _, rfl⟩ := h
  rw [List.drop_length]
  cases f <;> simp [flds, pre]
theorem runs_bad {z : Nat} {xs : List Nat} {Q : List F × Nat × Nat} {os : List F} {at_ : Nat} (h : Runs z xs Q os at_) (hlt : at_ < xs.length) (hb : xs.getD at_ 0 ≠ 17) : Q = ([], 3, at_) := by
  obtain ⟨_, f, hf, rfl⟩ := h
  cases f with
  | zero => omega
  | succ f => rw [drop_at hlt]; simp only [flds, if_pos hb, pre]; rfl
theorem runs_addr {z : Nat} {xs : List Nat} {Q : List F × Nat × Nat} {os : List F} {at_ : Nat} (h : Runs z xs Q os at_) (hlt : at_ < xs.length) (hb : xs.getD at_ 0 = 17) (ha : (aspec (xs.drop (at_ + 1)) z).2.1 ≠ 0) : Q = ([], (aspec (xs.drop (at_ + 1)) z).2.1, at_ + 1) := by
  obtain ⟨_, f, hf, rfl⟩ := h
  cases f with
  | zero => omega
  | succ f =>
    rw [drop_at hlt]
    simp only [flds, hb, ne_eq, not_true_eq_false, if_false, if_pos (show ¬ (aspec (xs.drop (at_ + 1)) z).2.1 = 0 from ha), pre]
theorem runs_step {z : Nat} {xs : List Nat} {Q : List F × Nat × Nat} {os : List F} {at_ : Nat} (h : Runs z xs Q os at_) (hlt : at_ < xs.length) (hb : xs.getD at_ 0 = 17) (h8 : ∀ y ∈ xs, y < 256) (ha : (aspec (xs.drop (at_ + 1)) z).2.1 = 0) :
    at_ + 3 + (lets (xs.drop (at_ + 3))).length ≤ xs.length ∧ Runs z xs Q (os ++ [⟨((aspec (xs.drop (at_ + 1)) z).1 : Int), lets (xs.drop (at_ + 3))⟩]) (at_ + 3 + (lets (xs.drop (at_ + 3))).length) := by
  obtain ⟨a, r2, _, _, hr, _⟩ := put_aspec (xs.drop (at_ + 1)) z (fun y hy => h8 y (List.mem_of_mem_drop hy)) ha
  have hl := congrArg List.length hr
  simp only [List.length_drop, List.length_cons] at hl
  have hle := congrArg List.length (lets_rest (xs.drop (at_ + 3)))
  simp only [List.length_append, List.length_drop] at hle
  have hd : (xs.drop (at_ + 1)).drop 2 = xs.drop (at_ + 3) := by rw [List.drop_drop]
  have hr3 : rest (xs.drop (at_ + 3)) = xs.drop (at_ + 3 + (lets (xs.drop (at_ + 3))).length) := by rw [rest_drop, List.drop_drop]
  have hfin : at_ + 3 + (lets (xs.drop (at_ + 3))).length ≤ xs.length := by omega
  refine ⟨hfin, hfin, ?_⟩
  obtain ⟨_, f, hf, rfl⟩ := h
  cases f with
  | zero => omega
  | succ f =>
    refine ⟨f, by omega, ?_⟩
    rw [drop_at hlt]
    simp only [flds, hb, ne_eq, not_true_eq_false, if_false, ha, hd, hr3]
    generalize flds z f _ _ = q
    unfold pre
    by_cases hq : q.2.1 = 0
    · simp [hq]
    · simp [hq]
end Inp
end Go.Proofs.YthjocmcafoifbaaDoor
