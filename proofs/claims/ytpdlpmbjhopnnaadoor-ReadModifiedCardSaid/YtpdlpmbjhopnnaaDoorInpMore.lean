/- Plain: more of submissions: when two are the same; what is read is sound; where reading fails. -/
import Derived.Test.YtpdlpmbjhopnnaaDoorInpSpec
namespace Go.Proofs.YtpdlpmbjhopnnaaDoor
open Six
namespace Inp
open Att Adr
/-- Are two fields the same? -/
def fsame (x y : F) : Bool := x.a == y.a && x.t == y.t
def fsames : List F → List F → Bool
  | [], [] => true
  | x :: xs, y :: ys => fsame x y && fsames xs ys
  | _, _ => false
/-- Are two submissions the same? -/
def isame (x y : I) : Bool := (x.aid == y.aid) && ((x.cur == y.cur) && fsames x.fs y.fs)
theorem fsame_iff (x y : F) : fsame x y = true ↔ x = y := by
  obtain ⟨a, t⟩ := x
  obtain ⟨b, u⟩ := y
  simp [fsame]
theorem fsames_iff : ∀ (xs ys : List F), fsames xs ys = true ↔ xs = ys
  | [], [] => by simp [fsames]
  | [], y :: ys => by simp [fsames]
  | x :: xs, [] => by simp [fsames]
  | x :: xs, y :: ys => by simp [fsames, fsame_iff, fsames_iff xs ys]
theorem isame_iff (x y : I) : isame x y = true ↔ x = y := by
  obtain ⟨a, b, c⟩ := x
  obtain ⟨d, e, f⟩ := y
  simp [isame, fsames_iff]
theorem isame_self (x : I) : isame x x = true := (isame_iff x x).mpr rfl
theorem isame_ne {x y : I} (h : x ≠ y) : isame x y = false := by
  cases hh : isame x y with
  | false => rfl
  | true => exact absurd ((isame_iff x y).mp hh) h
/-- Fields of unlike many, or with one that differs, aren't the same. -/
theorem fsames_len {xs ys : List F} (h : xs.length ≠ ys.length) : fsames xs ys = false := by
  cases hh : fsames xs ys with
  | false => rfl
  | true => exact absurd (congrArg List.length ((fsames_iff xs ys).mp hh)) h
theorem fsames_at {xs ys : List F} {i : Nat} (h : fsame (xs.getD i noneF) (ys.getD i noneF) = false) : fsames xs ys = false := by
  cases hh : fsames xs ys with
  | false => rfl
  | true =>
    rw [(fsames_iff xs ys).mp hh, (fsame_iff _ _).mpr rfl] at h
    exact h
theorem getD_ext {xs ys : List F} (hl : xs.length = ys.length) (h : ∀ i, i < xs.length → xs.getD i noneF = ys.getD i noneF) : xs = ys := by
  apply List.ext_getElem hl
  intro i h1 h2
  have := h i h1
  rwa [List.getD_eq_getElem?_getD, List.getD_eq_getElem?_getD, List.getElem?_eq_getElem h1, List.getElem?_eq_getElem h2] at this
/-- How many fields bytes are: no more than bytes; all of a field's letters are bytes that were read. -/
theorem flds_sound (z : Nat) : ∀ (f : Nat) (ys : List Nat) (at_ : Nat), (∀ y ∈ ys, y < 256) → (flds z f at_ ys).1.length ≤ ys.length ∧ ∀ x ∈ (flds z f at_ ys).1, 0 ≤ x.a ∧ x.t.length ≤ ys.length ∧ ∀ b ∈ x.t, b < 256 := by
  intro f
  induction f with
  | zero => intro ys at_ _; simp [flds]
  | succ f ih =>
    intro ys at_ h8
    cases ys with
    | nil => simp [flds]
    | cons y r =>
      simp only [flds]
      have hlr := lets_rest (r.drop 2)
      have hlen := congrArg List.length hlr
      simp only [List.length_append, List.length_drop] at hlen
      have hmem : ∀ x, x ∈ lets (r.drop 2) ∨ x ∈ rest (r.drop 2) → x < 256 := fun x hx => h8 x (List.mem_cons_of_mem _ (List.mem_of_mem_drop (by rw [← hlr]; simpa using hx)))
      have hk := ih (rest (r.drop 2)) (at_ + 3 + (lets (r.drop 2)).length) (fun x hx => hmem x (.inr hx))
      split
      · simp
      · split
        · simp
        · split
          · simp
          · refine ⟨by simp only [List.length_cons]; omega, fun x hx => ?_⟩
            rcases List.mem_cons.mp hx with rfl | hx
            · exact ⟨by simp only; omega, by simp only [List.length_cons]; omega, fun b hb => hmem b (.inl hb)⟩
            · obtain ⟨h1, h2, h3⟩ := hk.2 x hx
              exact ⟨h1, by simp only [List.length_cons]; omega, h3⟩
/-- Where reading fields fails. -/
theorem flds_where (z : Nat) : ∀ (f : Nat) (ys : List Nat) (at_ : Nat), (∀ y ∈ ys, y < 256) → at_ ≤ (flds z f at_ ys).2.2 ∧ (flds z f at_ ys).2.2 ≤ at_ + ys.length := by
  intro f
  induction f with
  | zero => intro ys at_ _; simp [flds]
  | succ f ih =>
    intro ys at_ h8
    cases ys with
    | nil => simp [flds]
    | cons y r =>
      simp only [flds]
      have hlr := lets_rest (r.drop 2)
      have hlen := congrArg List.length hlr
      simp only [List.length_append, List.length_drop] at hlen
      have hk := ih (rest (r.drop 2)) (at_ + 3 + (lets (r.drop 2)).length) (fun x hx => h8 x (List.mem_cons_of_mem _ (List.mem_of_mem_drop (by rw [← hlr]; simp [hx]))))
      split
      · simp
      · split
        · simp only [List.length_cons]; omega
        · rename_i ha
          have ha : (aspec r z).2.1 = 0 := by
            by_cases h0 : (aspec r z).2.1 = 0
            · exact h0
            · exact absurd h0 ha
          obtain ⟨a, r2, _, _, hr, _⟩ := put_aspec r z (fun x hx => h8 x (List.mem_cons_of_mem _ hx)) ha
          have hrl := congrArg List.length hr
          simp only [List.length_cons] at hrl ⊢
          split
          · simp only; omega
          · simp only; omega
/-- What reading answers where it fails. -/
theorem iread_fail {ys : List Nat} {z : Nat} (h8 : ∀ y ∈ ys, y < 256) (h : (iread ys z).2.1 ≠ 0) : (iread ys z).1 = noneI ∧ 0 ≤ (iread ys z).2.2 ∧ (iread ys z).2.2 ≤ (ys.length : Int) := by
  unfold iread at h ⊢
  by_cases hl : 8192 < ys.length
  · rw [if_pos hl]; simp; omega
  rw [if_neg hl] at h ⊢
  cases ys with
  | nil => simp
  | cons c r =>
    simp only at h ⊢
    by_cases ha : aid c = false
    · rw [if_pos ha]; simp; omega
    rw [if_neg ha] at h ⊢
    by_cases hb : bare c = true
    · rw [if_pos hb] at h ⊢
      by_cases hr : r ≠ []
      · rw [if_pos hr]; simp; omega
      · rw [if_neg hr] at h; exact absurd rfl h
    rw [if_neg hb] at h ⊢
    by_cases hs : (aspec r z).2.1 ≠ 0
    · rw [if_pos hs]; simp; omega
    rw [if_neg hs] at h ⊢
    have hs0 : (aspec r z).2.1 = 0 := by
      by_cases h0 : (aspec r z).2.1 = 0
      · exact h0
      · exact absurd h0 hs
    obtain ⟨a, r2, _, _, hr, _⟩ := put_aspec r z (fun x hx => h8 x (List.mem_cons_of_mem _ hx)) hs0
    have hd : r.drop 2 = r2 := by rw [hr]; rfl
    rw [hd] at h ⊢
    have hrl := congrArg List.length hr
    have hlr := congrArg List.length (lets_rest r2)
    simp only [List.length_cons, List.length_append] at hrl hlr ⊢
    by_cases h3 : lets r2 ≠ []
    · rw [if_pos h3] at h ⊢
      by_cases h5 : rest r2 ≠ []
      · rw [if_pos h5]
        refine ⟨rfl, ?_, ?_⟩ <;> simp only <;> omega
      · rw [if_neg h5] at h; exact absurd rfl h
    · rw [if_neg h3] at h ⊢
      by_cases h4 : (flds z r.length 3 r2).2.1 ≠ 0
      · rw [if_pos h4]
        have hw := flds_where z r.length r2 3 (fun x hx => h8 x (by rw [hr]; simp [hx]))
        refine ⟨rfl, ?_, ?_⟩ <;> simp only <;> omega
      · rw [if_neg h4] at h; exact absurd rfl h
/-- What is read is sound. -/
theorem iread_sound {ys : List Nat} {z : Nat} (h8 : ∀ y ∈ ys, y < 256) : (iread ys z).1.aid < 256 ∧ (iread ys z).1.fs.length ≤ ys.length + 1 ∧ ∀ x ∈ (iread ys z).1.fs, -1 ≤ x.a ∧ x.t.length ≤ ys.length ∧ ∀ b ∈ x.t, b < 256 := by
  by_cases h : (iread ys z).2.1 = 0
  · unfold iread at h ⊢
    by_cases hl : 8192 < ys.length
    · rw [if_pos hl] at h; cases h
    rw [if_neg hl] at h ⊢
    cases ys with
    | nil => cases h
    | cons c r =>
      have hc := h8 c (by simp)
      simp only at h ⊢
      by_cases ha : aid c = false
      · rw [if_pos ha] at h; cases h
      rw [if_neg ha] at h ⊢
      by_cases hb : bare c = true
      · rw [if_pos hb] at h ⊢
        by_cases hr : r ≠ []
        · rw [if_pos hr] at h; cases h
        · rw [if_neg hr]; exact ⟨hc, by simp, by simp⟩
      rw [if_neg hb] at h ⊢
      by_cases hs : (aspec r z).2.1 ≠ 0
      · rw [if_pos hs] at h; exact absurd h hs
      rw [if_neg hs] at h ⊢
      by_cases h3 : lets (r.drop 2) ≠ []
      · rw [if_pos h3] at h ⊢
        by_cases h5 : rest (r.drop 2) ≠ []
        · rw [if_pos h5] at h; cases h
        · rw [if_neg h5]
          refine ⟨hc, by simp, fun x hx => ?_⟩
          simp only [List.mem_singleton] at hx
          subst hx
          refine ⟨by simp, by simp only [List.length_drop, List.length_cons]; omega, fun b hb => h8 b (List.mem_cons_of_mem _ (List.mem_of_mem_drop hb))⟩
      · rw [if_neg h3] at h ⊢
        by_cases h4 : (flds z r.length 3 (r.drop 2)).2.1 ≠ 0
        · rw [if_pos h4] at h; exact absurd h h4
        · rw [if_neg h4]
          have hk := flds_sound z r.length (r.drop 2) 3 (fun x hx => h8 x (List.mem_cons_of_mem _ (List.mem_of_mem_drop hx)))
          simp only [List.length_drop, List.length_cons] at hk ⊢
          refine ⟨hc, by omega, fun x hx => ?_⟩
          obtain ⟨h1, h2, h3⟩ := hk.2 x hx
          exact ⟨by omega, by omega, h3⟩
  · rw [(iread_fail h8 h).1]
    simp [noneI]
end Inp
end Go.Proofs.YtpdlpmbjhopnnaaDoor
