/- Plain: a letter put at a line's first cell, each cell's character going to the next one. -/
import Derived.Test.YtaopkelobglnbaaGreatDoorEdtFirst
namespace Go.Proofs.YtaopkelobglnbaaGreatDoor
set_option linter.unusedVariables false
namespace Edt
open Grd Fld
/-- The character that comes to the q-th cell. -/
def chr (cs : List C) (l : List Nat) (c q : Nat) : Nat := if q = 0 then c else (cs.getD (l.getD (q - 1) 0) noC).c
def putq (l : List Nat) (cs : List C) (c : Nat) : Nat → List C
  | 0 => cs
  | q + 1 => (putq l cs c q).set (l.getD q 0) { (putq l cs c q).getD (l.getD q 0) noC with c := chr cs l c q }
theorem putq_length (l : List Nat) (cs : List C) (c : Nat) : ∀ q, (putq l cs c q).length = cs.length
  | 0 => rfl
  | q + 1 => by rw [putq, List.length_set, putq_length l cs c q]
theorem putq_at {l : List Nat} {cs : List C} {c : Nat} (hl : ∀ i, i < l.length → l.getD i 0 < cs.length) (hd : ∀ i j, i < l.length → j < l.length → l.getD i 0 = l.getD j 0 → i = j) : ∀ q, q ≤ l.length →
    (∀ i, i < q → (putq l cs c q).getD (l.getD i 0) noC = { cs.getD (l.getD i 0) noC with c := chr cs l c i }) ∧ ∀ x, (∀ i, i < q → x ≠ l.getD i 0) → (putq l cs c q).getD x noC = cs.getD x noC
  | 0, _ => ⟨fun i h => absurd h (Nat.not_lt_zero _), fun _ _ => rfl⟩
  | q + 1, hq => by
    obtain ⟨h1, h2⟩ := putq_at (c := c) hl hd q (by omega)
    have h3 : (putq l cs c q).getD (l.getD q 0) noC = cs.getD (l.getD q 0) noC := h2 _ fun i hi he => by
      have := hd _ _ (show q < l.length by omega) (show i < l.length by omega) he
      omega
    refine ⟨fun i hi => ?_, fun x hx => ?_⟩
    · rw [putq, getD_set, h3]
      by_cases hiq : i = q
      · subst hiq; rw [if_pos ⟨rfl, by rw [putq_length]; exact hl _ (by omega)⟩]
      · rw [if_neg (fun h => by have := hd _ _ (show q < l.length by omega) (show i < l.length by omega) h.1; omega)]
        exact h1 i (by omega)
    · rw [putq, getD_set, if_neg (fun h => hx q (by omega) h.1.symm)]
      exact h2 x fun i hi => hx i (by omega)
/-- The q-th cell's own character goes to the next one. -/
theorem putq_chr {l : List Nat} {cs : List C} {c : Nat} (hl : ∀ i, i < l.length → l.getD i 0 < cs.length) (hd : ∀ i j, i < l.length → j < l.length → l.getD i 0 = l.getD j 0 → i = j) {q : Nat} (hq : q < l.length) : (putq l cs c q).getD (l.getD q 0) noC = cs.getD (l.getD q 0) noC ∧ ((putq l cs c q).getD (l.getD q 0) noC).c = chr cs l c (q + 1) := by
  have h := (putq_at (c := c) hl hd q (by omega)).2 (l.getD q 0) fun i hi he => by
    have := hd _ _ hq (show i < l.length by omega) he
    omega
  refine ⟨h, ?_⟩
  rw [h]; unfold chr; rw [if_neg (by omega)]; rfl
/-- The cells that a letter at k changes. -/
def lineTo (s : S) (k : Nat) : List Nat := (line s.cs k).take (far s k + 1)
theorem lineTo_length {s : S} {k : Nat} (hk : k < s.cs.length) (ho : open_ s.cs k = true) : (lineTo s k).length = far s k + 1 := by
  have := far_lt hk ho
  unfold lineTo
  rw [List.length_take, line_length]; omega
theorem lineTo_getD {s : S} {k : Nat} (hk : k < s.cs.length) (ho : open_ s.cs k = true) {i : Nat} (hi : i < far s k + 1) : (lineTo s k).getD i 0 = on s.cs.length (k : Int) (i : Int) := by
  have := far_lt hk ho
  rw [← line_getD (cs := s.cs) (show i < lineLen s.cs k by omega)]
  unfold lineTo
  simp [List.getD_eq_getElem?_getD, List.getElem?_take_of_lt hi]
theorem lineTo_hl {s : S} {k : Nat} (hk : k < s.cs.length) (ho : open_ s.cs k = true) : ∀ i, i < (lineTo s k).length → (lineTo s k).getD i 0 < (modif s k).cs.length := fun i hi => by
  rw [lineTo_length hk ho] at hi
  rw [lineTo_getD hk ho hi, modif_length]
  exact on_lt (by omega) _ _
theorem lineTo_hd {s : S} {k : Nat} (hk : k < s.cs.length) (ho : open_ s.cs k = true) : ∀ i j, i < (lineTo s k).length → j < (lineTo s k).length → (lineTo s k).getD i 0 = (lineTo s k).getD j 0 → i = j := fun i j hi hj he => by
  have := far_lt hk ho
  rw [lineTo_length hk ho] at hi hj
  rw [lineTo_getD hk ho hi, lineTo_getD hk ho hj] at he
  exact line_inj hk (by omega) (by omega) he
theorem putq_laid {s : S} {k c : Nat} (hk : k < s.cs.length) (ho : open_ s.cs k = true) : putq (lineTo s k) (modif s k).cs c (far s k + 1) = laid s k c := by
  obtain ⟨h1, h2⟩ := putq_at (c := c) (lineTo_hl hk ho) (lineTo_hd hk ho) (far s k + 1) (by rw [lineTo_length hk ho]; omega)
  obtain ⟨g1, g2, g3, g4⟩ := laid_at hk ho c
  have hfl := far_lt hk ho
  have hz : 0 < s.cs.length := by omega
  have ek : on s.cs.length (k : Int) ((0 : Nat) : Int) = k := on_zero hk
  have hnb : ∀ q, q < lineLen s.cs k → begin_ s.cs k ≠ ((on s.cs.length (k : Int) (q : Int) : Nat) : Int) := fun q hq he => by
    obtain ⟨b, hb, hbl, hbf⟩ := begin_fat hk (by rw [he]; omega)
    have e : b = on s.cs.length (k : Int) (q : Int) := by rw [hb] at he; omega
    have := open_nfat (line_cell hk hq).2
    rw [← e, hbf] at this; cases this
  refine List.ext_getElem (by rw [putq_length, modif_length, laid_length]) fun i hi1 hi2 => ?_
  have key : (putq (lineTo s k) (modif s k).cs c (far s k + 1)).getD i noC = (laid s k c).getD i noC := by
    by_cases hik : i = k
    · subst hik
      have := h1 0 (by omega)
      rw [lineTo_getD hk ho (by omega), ek] at this
      rw [this, g1, modif_at hk, if_neg (by have := hnb 0 (by omega); rwa [ek] at this)]
      rfl
    · by_cases hq : ∃ q, q < far s k ∧ i = on s.cs.length (k : Int) ((q : Int) + 1)
      · obtain ⟨q, hq, rfl⟩ := hq
        have := h1 (q + 1) (by omega)
        rw [lineTo_getD hk ho (by omega)] at this
        have e : on s.cs.length (k : Int) ((q + 1 : Nat) : Int) = on s.cs.length (k : Int) ((q : Int) + 1) := rfl
        rw [e] at this
        rw [this, g2 q hq, modif_at hk, if_neg (by have := hnb (q + 1) (by omega); exact this)]
        unfold chr
        rw [if_neg (by omega), show q + 1 - 1 = q by omega, lineTo_getD hk ho (by omega), modif_at hk, if_neg (by have := hnb q (by omega); exact this)]
      · have hx : ∀ q, q < far s k + 1 → i ≠ (lineTo s k).getD q 0 := fun q hq' he => by
          rw [lineTo_getD hk ho hq'] at he
          cases q with
          | zero => rw [ek] at he; exact hik he
          | succ q => exact hq ⟨q, by omega, he⟩
        rw [h2 i hx, modif_at hk]
        by_cases hib : begin_ s.cs k = (i : Int)
        · rw [if_pos hib, g3 i hib]
        · rw [if_neg hib, g4 i hik hib fun q hq' he => hq ⟨q, hq', he⟩]
  rw [List.getD_eq_getElem?_getD, List.getD_eq_getElem?_getD, List.getElem?_eq_getElem hi1, List.getElem?_eq_getElem hi2] at key
  exact key
end Edt
end Go.Proofs.YtaopkelobglnbaaGreatDoor
