/- Plain: fields part a screen: what was counted of the first i fields, and of k cells of the next one. -/
import Derived.Test.YtaopkelobglnbaaGreatDoorBunFld
namespace Go.Proofs.YtaopkelobglnbaaGreatDoor
set_option linter.unusedVariables false
namespace Fld
open Grd
/-- One where p says so, zero elsewhere. -/
def ind (p : Nat → Bool) (z : Nat) : List Nat := (List.range z).map fun c => if p c then 1 else 0
theorem ind_len (p : Nat → Bool) (z : Nat) : (ind p z).length = z := by simp [ind]
theorem ind_getD {p : Nat → Bool} {z c : Nat} (hc : c < z) : (ind p z).getD c 0 = if p c then 1 else 0 := by
  simp [ind, List.getD_eq_getElem?_getD, hc]
theorem ind_congr {p q : Nat → Bool} {z : Nat} (h : ∀ c, c < z → p c = q c) : ind p z = ind q z := by
  unfold ind
  exact List.map_congr_left fun c hc => by rw [h c (List.mem_range.1 hc)]
theorem ind_set {p : Nat → Bool} {z c : Nat} (hc : c < z) : (ind p z).set c 1 = ind (fun x => p x || x == c) z := by
  refine List.ext_getElem (by simp [ind]) fun i h1 h2 => ?_
  have hi : i < z := by simpa [ind] using h2
  rw [List.getElem_set]
  by_cases hic : c = i
  · subst hic; simp [ind]
  · have hic' : ¬ i = c := fun e => hic e.symm
    rw [if_neg hic]
    simp [ind, hic']
theorem ind_zero (z : Nat) : ind (fun _ => false) z = List.replicate z 0 := by
  refine List.ext_getElem (by simp [ind]) fun i h1 h2 => by simp [ind]
theorem mem_begins {cs : List C} {c : Nat} : c ∈ begins cs ↔ c < cs.length ∧ fat cs c = true := by
  unfold begins; simp [List.mem_filter]
theorem begins_at {cs : List C} {i : Nat} (h : i < (begins cs).length) : (begins cs).getD i 0 < cs.length ∧ fat cs ((begins cs).getD i 0) = true := by
  have : (begins cs).getD i 0 ∈ begins cs := by
    rw [List.getD_eq_getElem?_getD, List.getElem?_eq_getElem h]
    exact List.getElem_mem h
  exact mem_begins.1 this
theorem begins_rise {cs : List C} {i j : Nat} (hij : i < j) (h : j < (begins cs).length) : (begins cs).getD i 0 < (begins cs).getD j 0 := by
  have hp : (begins cs).Pairwise (· < ·) := List.Pairwise.filter _ List.pairwise_lt_range
  have := List.pairwise_iff_getElem.1 hp i j (by omega) h hij
  rwa [List.getD_eq_getElem?_getD, List.getElem?_eq_getElem (by omega), List.getD_eq_getElem?_getD, List.getElem?_eq_getElem h]
theorem begins_all {cs : List C} {c : Nat} (hc : c < cs.length) (h : fat cs c = true) : ∃ j, j < (begins cs).length ∧ (begins cs).getD j 0 = c := by
  obtain ⟨j, hj, he⟩ := List.getElem_of_mem (mem_begins.2 ⟨hc, h⟩)
  exact ⟨j, hj, by rw [List.getD_eq_getElem?_getD, List.getElem?_eq_getElem hj]; exact he⟩
theorem begins_none {cs : List C} (h : fmt cs = false) : (begins cs).length = 0 := by
  cases hb : begins cs with
  | nil => rfl
  | cons x l =>
    have hx : x ∈ begins cs := by rw [hb]; exact List.mem_cons_self
    have := fmt_iff.2 ⟨x, (mem_begins.1 hx).1, (mem_begins.1 hx).2⟩
    rw [h] at this; cases this
/-- The cell lies in one of the first i fields, or begins it. -/
def cov (cs : List C) (i c : Nat) : Bool := (List.range i).any fun j => decide (begin_ cs c = (((begins cs).getD j 0 : Nat) : Int))
theorem cov_iff {cs : List C} {i c : Nat} : cov cs i c = true ↔ ∃ j, j < i ∧ begin_ cs c = (((begins cs).getD j 0 : Nat) : Int) := by
  unfold cov; simp
/-- .. or begins field i, or is one of its first k cells. -/
def covk (cs : List C) (i k c : Nat) : Bool := cov cs i c || (c == (begins cs).getD i 0 || (List.range k).any fun j => on cs.length (((begins cs).getD i 0 : Nat) : Int) ((j : Int) + 1) == c)
theorem covk_iff {cs : List C} {i k c : Nat} : covk cs i k c = true ↔ cov cs i c = true ∨ c = (begins cs).getD i 0 ∨ ∃ j, j < k ∧ on cs.length (((begins cs).getD i 0 : Nat) : Int) ((j : Int) + 1) = c := by
  unfold covk; simp [Bool.or_eq_true]
theorem cov_of_begin {cs : List C} {i c : Nat} (hi : i < (begins cs).length) (h : begin_ cs c = (((begins cs).getD i 0 : Nat) : Int)) : cov cs i c = false := by
  cases hc : cov cs i c with
  | false => rfl
  | true =>
    obtain ⟨j, hj, he⟩ := cov_iff.1 hc
    rw [h] at he
    have := begins_rise hj hi
    omega
theorem cov_new {cs : List C} {i : Nat} (hi : i < (begins cs).length) : cov cs i ((begins cs).getD i 0) = false :=
  cov_of_begin hi (begin_self (begins_at hi).1 (begins_at hi).2)
theorem covk_start (cs : List C) (i c : Nat) : covk cs i 0 c = (cov cs i c || c == (begins cs).getD i 0) := by
  unfold covk; simp
theorem covk_new {cs : List C} {i k : Nat} (hi : i < (begins cs).length) (hk : k < clen cs (((begins cs).getD i 0 : Nat) : Int)) : covk cs i k (on cs.length (((begins cs).getD i 0 : Nat) : Int) ((k : Int) + 1)) = false := by
  obtain ⟨h1, h2⟩ := begins_at hi
  obtain ⟨g1, g2, _⟩ := clen_some h1 h2
  cases hc : covk cs i k (on cs.length (((begins cs).getD i 0 : Nat) : Int) ((k : Int) + 1)) with
  | false => rfl
  | true =>
    exfalso
    rcases covk_iff.1 hc with h | h | ⟨j, hj, h⟩
    · rw [cov_of_begin hi (begin_of_cell h1 h2 hk)] at h; cases h
    · have := g2 k hk
      rw [h, h2] at this; cases this
    · have := on_inj2 (by omega) (by omega) h
      omega
theorem covk_step (cs : List C) (i k c : Nat) : covk cs i (k + 1) c = (covk cs i k c || c == on cs.length (((begins cs).getD i 0 : Nat) : Int) ((k : Int) + 1)) := by
  rw [Bool.eq_iff_iff, Bool.or_eq_true, covk_iff, covk_iff, beq_iff_eq]
  constructor
  · rintro (h | h | ⟨j, hj, h⟩)
    · exact .inl (.inl h)
    · exact .inl (.inr (.inl h))
    · by_cases hjk : j = k
      · subst hjk; exact .inr h.symm
      · exact .inl (.inr (.inr ⟨j, by omega, h⟩))
  · rintro ((h | h | ⟨j, hj, h⟩) | h)
    · exact .inl h
    · exact .inr (.inl h)
    · exact .inr (.inr ⟨j, by omega, h⟩)
    · exact .inr (.inr ⟨k, by omega, h.symm⟩)
theorem covk_end {cs : List C} {i c : Nat} (hi : i < (begins cs).length) (hc : c < cs.length) : covk cs i (clen cs (((begins cs).getD i 0 : Nat) : Int)) c = cov cs (i + 1) c := by
  obtain ⟨h1, h2⟩ := begins_at hi
  rw [Bool.eq_iff_iff, covk_iff, cov_iff, cov_iff]
  constructor
  · rintro (⟨j, hj, h⟩ | h | ⟨j, hj, h⟩)
    · exact ⟨j, by omega, h⟩
    · exact ⟨i, by omega, by rw [h]; exact begin_self h1 h2⟩
    · exact ⟨i, by omega, by rw [← h]; exact begin_of_cell h1 h2 hj⟩
  · rintro ⟨j, hj, h⟩
    by_cases hji : j = i
    · subst hji
      cases hf : fat cs c with
      | true =>
        rw [begin_self hc hf] at h
        exact .inr (.inl (by omega))
      | false =>
        obtain ⟨b, q, e1, _, _, e2, e3⟩ := cell_of_begin hc (fmt_iff.2 ⟨_, h1, h2⟩) hf
        obtain rfl : b = (begins cs).getD j 0 := by omega
        exact .inr (.inr ⟨q, e2, e3⟩)
    · exact .inl ⟨j, by omega, h⟩
theorem cov_zero (cs : List C) (c : Nat) : cov cs 0 c = false := by unfold cov; simp
theorem cov_all {cs : List C} {c : Nat} (hf : fmt cs = true) (hc : c < cs.length) : cov cs (begins cs).length c = true := by
  obtain ⟨_, b, _, _, h1, h2, h3, _⟩ := begin_some hc hf
  obtain ⟨j, hj, he⟩ := begins_all h2 h3
  exact cov_iff.2 ⟨j, hj, by rw [h1, he]⟩
theorem attr_cell {cs : List C} {b k : Nat} (hb : b < cs.length) (h : fat cs b = true) (hk : k < clen cs (b : Int)) : attrOf cs (on cs.length (b : Int) ((k : Int) + 1)) = cs.getD b noC := by
  unfold attrOf
  rw [begin_of_cell hb h hk, if_neg (by omega), Int.toNat_natCast]
theorem open_cell_ {cs : List C} {b k : Nat} (hb : b < cs.length) (h : fat cs b = true) (hk : k < clen cs (b : Int)) : open_ cs (on cs.length (b : Int) ((k : Int) + 1)) = !(cs.getD b noC).p := by
  unfold open_
  rw [attr_cell hb h hk, (clen_some hb h).2.1 k hk]; rfl
theorem open_begin {cs : List C} {b : Nat} (h : fat cs b = true) : open_ cs b = false := by unfold open_; rw [h]; rfl
theorem open_none {cs : List C} {c : Nat} (hc : c < cs.length) (h : fmt cs = false) : open_ cs c = true := by
  unfold open_ attrOf
  have hf : fat cs c = false := by
    cases hf : fat cs c with
    | false => rfl
    | true => have := fmt_iff.2 ⟨c, hc, hf⟩; rw [h] at this; cases this
  rw [hf, begin_none hc h]; rfl
end Fld
end Go.Proofs.YtaopkelobglnbaaGreatDoor
