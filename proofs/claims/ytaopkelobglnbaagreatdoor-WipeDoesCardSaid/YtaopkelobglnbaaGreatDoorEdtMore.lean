/- Plain: what a letter that is typed changes. -/
import Derived.Test.YtaopkelobglnbaaGreatDoorEdtSpec
import Derived.Test.YtaopkelobglnbaaGreatDoorBunFld
import Derived.Test.YtaopkelobglnbaaGreatDoorFldCov
namespace Go.Proofs.YtaopkelobglnbaaGreatDoor
set_option linter.unusedVariables false
namespace Edt
open Grd Fld
theorem getD_set (cs : List C) (i j : Nat) (o : C) : (cs.set i o).getD j noC = if i = j ∧ i < cs.length then o else cs.getD j noC := by
  simp only [List.getD_eq_getElem?_getD, List.getElem?_set]
  by_cases h : i = j
  · subst h
    by_cases h2 : i < cs.length
    · simp [h2]
    · simp [h2]
  · simp [h]
/-- A line's cells lie in the cell's field, and are open. -/
theorem line_cell {cs : List C} {a q : Nat} (ha : a < cs.length) (hq : q < lineLen cs a) : begin_ cs (on cs.length (a : Int) (q : Int)) = begin_ cs a ∧ open_ cs (on cs.length (a : Int) (q : Int)) = true := by
  cases ho : open_ cs a with
  | false => unfold lineLen at hq; rw [if_neg (by rw [ho]; decide)] at hq; omega
  | true =>
    cases hf : fmt cs with
    | true =>
      obtain ⟨b, j, e1, e2, e3, e4, e5, e6⟩ := line_open_fmt ha hf ho
      have hl : lineLen cs a = clen cs (b : Int) - j := by unfold lineLen; rw [if_pos ho, if_pos hf, e6]
      have e : on cs.length (a : Int) (q : Int) = on cs.length (b : Int) (((j + q : Nat) : Int) + 1) := by
        rw [← e5, on_on (by omega)]; congr 1; omega
      rw [e, begin_of_cell e2 e3 (by omega), e1]
      refine ⟨rfl, ?_⟩
      have h1 := open_cell_ e2 e3 (k := j) e4
      rw [e5, ho] at h1
      rw [open_cell_ e2 e3 (by omega), ← h1]
    | false =>
      have hl := on_lt (z := cs.length) (by omega) (a : Int) (q : Int)
      rw [begin_none hl hf, begin_none ha hf]
      exact ⟨rfl, open_none hl hf⟩
theorem open_nfat {cs : List C} {i : Nat} (h : open_ cs i = true) : (cs.getD i noC).f = false := by
  unfold open_ fat at h
  simp only [Bool.and_eq_true, Bool.not_eq_true'] at h
  exact h.1
/-- Where a field begins. -/
theorem begin_fat {cs : List C} {a : Nat} (ha : a < cs.length) (h : 0 ≤ begin_ cs a) : ∃ b : Nat, begin_ cs a = (b : Int) ∧ b < cs.length ∧ (cs.getD b noC).f = true := by
  cases hf : fmt cs with
  | false => rw [begin_none ha hf] at h; omega
  | true =>
    obtain ⟨k, b, _, _, h3, h4, h5, _⟩ := begin_some ha hf
    exact ⟨b, h3, h4, h5⟩
theorem modif_length (s : S) (a : Nat) : (modif s a).cs.length = s.cs.length := by
  unfold modif; split <;> simp
theorem modif_rest (s : S) (a : Nat) : (modif s a).rows = s.rows ∧ (modif s a).cols = s.cols ∧ (modif s a).cur = s.cur ∧ (modif s a).lk = s.lk ∧ (modif s a).ins = s.ins := by
  unfold modif; split <;> exact ⟨rfl, rfl, rfl, rfl, rfl⟩
theorem modif_at {s : S} {a : Nat} (ha : a < s.cs.length) (i : Nat) : (modif s a).cs.getD i noC = if begin_ s.cs a = (i : Int) then { s.cs.getD i noC with m := true } else s.cs.getD i noC := by
  unfold modif
  by_cases h : begin_ s.cs a < 0
  · rw [if_pos h, if_neg (by omega)]
  · rw [if_neg h]
    obtain ⟨b, hb, hl, _⟩ := begin_fat ha (by omega)
    rw [hb]
    simp only [getD_set, Int.toNat_natCast]
    by_cases hi : b = i
    · subst hi; rw [if_pos ⟨rfl, hl⟩, if_pos rfl]
    · rw [if_neg (by omega), if_neg (by omega)]
theorem shifted_length (cs0 : List C) (l : List Nat) (cs : List C) : ∀ j, (shifted cs0 l j cs).length = cs.length
  | 0 => rfl
  | j + 1 => by rw [shifted, List.length_set, shifted_length cs0 l cs j]
/-- The characters that moved on, and all others. -/
theorem shifted_at {cs0 cs : List C} {l : List Nat} (hl : ∀ i, i < l.length → l.getD i 0 < cs.length) (hd : ∀ i j, i < l.length → j < l.length → l.getD i 0 = l.getD j 0 → i = j) : ∀ j, j < l.length →
    (∀ q, q < j → (shifted cs0 l j cs).getD (l.getD (q + 1) 0) noC = { cs.getD (l.getD (q + 1) 0) noC with c := (cs0.getD (l.getD q 0) noC).c }) ∧ ∀ i, (∀ q, q < j → i ≠ l.getD (q + 1) 0) → (shifted cs0 l j cs).getD i noC = cs.getD i noC
  | 0, _ => ⟨fun q h => absurd h (Nat.not_lt_zero _), fun i _ => rfl⟩
  | j + 1, hj => by
    obtain ⟨h1, h2⟩ := shifted_at (cs0 := cs0) (cs := cs) hl hd j (by omega)
    have h3 : (shifted cs0 l j cs).getD (l.getD (j + 1) 0) noC = cs.getD (l.getD (j + 1) 0) noC := h2 _ fun q hq he => by
      have := hd _ _ hj (show q + 1 < l.length by omega) he
      omega
    refine ⟨fun q hq => ?_, fun i hi => ?_⟩
    · rw [shifted, getD_set, h3]
      by_cases hqj : q = j
      · subst hqj; rw [if_pos ⟨rfl, by rw [shifted_length]; exact hl _ hj⟩]
      · rw [if_neg (fun h => by have := hd _ _ hj (show q + 1 < l.length by omega) h.1; omega)]
        exact h1 q (by omega)
    · rw [shifted, getD_set, if_neg (fun h => hi j (by omega) h.1.symm)]
      exact h2 i fun q hq => hi q (by omega)
theorem free_some {cs : List C} {l : List Nat} {j : Nat} (h : free cs l = some j) : j < l.length ∧ (cs.getD (l.getD j 0) noC).c = 0 ∧ ∀ i, i < j → (cs.getD (l.getD i 0) noC).c ≠ 0 := by
  obtain ⟨_, h2, h3, h4⟩ := firstK_some h
  refine ⟨by omega, by simpa using h3, fun i hi => ?_⟩
  have := h4 i (Nat.zero_le _) hi
  simpa using this
theorem free_none {cs : List C} {l : List Nat} (h : free cs l = none) : ∀ i, i < l.length → (cs.getD (l.getD i 0) noC).c ≠ 0 := fun i hi => by
  have := firstK_none h i (Nat.zero_le _) (by omega)
  simpa using this
/-- How far characters move on. -/
def far (s : S) (k : Nat) : Nat := if s.ins then (free s.cs (line s.cs k)).getD 0 else 0
theorem far_lt {s : S} {k : Nat} (hk : k < s.cs.length) (ho : open_ s.cs k = true) : far s k < lineLen s.cs k := by
  have h0 := (lineLen_pos hk ho).1
  unfold far
  split
  · cases h : free s.cs (line s.cs k) with
    | none => exact h0
    | some j => have := (free_some h).1; rw [line_length] at this; exact this
  · exact h0
theorem laid_eq (s : S) (k c : Nat) : laid s k c = (shifted s.cs (line s.cs k) (far s k) (modif s k).cs).set k { (shifted s.cs (line s.cs k) (far s k) (modif s k).cs).getD k noC with c := c } := by
  unfold laid far
  cases s.ins <;> rfl
theorem laid_length (s : S) (k c : Nat) : (laid s k c).length = s.cs.length := by
  rw [laid_eq, List.length_set, shifted_length, modif_length]
/-- Each cell behind a letter that is typed. -/
theorem laid_at {s : S} {k : Nat} (hk : k < s.cs.length) (ho : open_ s.cs k = true) (c : Nat) :
    (laid s k c).getD k noC = { s.cs.getD k noC with c := c } ∧
    (∀ q, q < far s k → (laid s k c).getD (on s.cs.length (k : Int) ((q : Int) + 1)) noC = { s.cs.getD (on s.cs.length (k : Int) ((q : Int) + 1)) noC with c := (s.cs.getD (on s.cs.length (k : Int) (q : Int)) noC).c }) ∧
    (∀ i : Nat, begin_ s.cs k = (i : Int) → (laid s k c).getD i noC = { s.cs.getD i noC with m := true }) ∧
    ∀ i : Nat, i ≠ k → begin_ s.cs k ≠ (i : Int) → (∀ q, q < far s k → i ≠ on s.cs.length (k : Int) ((q : Int) + 1)) → (laid s k c).getD i noC = s.cs.getD i noC := by
  have hfl := far_lt hk ho
  have hz : 0 < s.cs.length := by omega
  have hlg : ∀ i, i < lineLen s.cs k → (line s.cs k).getD i 0 = on s.cs.length (k : Int) (i : Int) := fun i hi => line_getD hi
  obtain ⟨h1, h2⟩ := shifted_at (cs0 := s.cs) (cs := (modif s k).cs) (l := line s.cs k) (fun i hi => by rw [modif_length]; rw [line_length] at hi; rw [hlg i hi]; exact on_lt hz _ _)
    (fun i j hi hj he => by rw [line_length] at hi hj; rw [hlg i hi, hlg j hj] at he; exact line_inj hk hi hj he) (far s k) (by rw [line_length]; exact hfl)
  have hnb : ∀ q, q < lineLen s.cs k → begin_ s.cs k ≠ ((on s.cs.length (k : Int) (q : Int) : Nat) : Int) := fun q hq he => by
    obtain ⟨b, hb, hbl, hbf⟩ := begin_fat hk (by rw [he]; omega)
    have e : b = on s.cs.length (k : Int) (q : Int) := by rw [hb] at he; omega
    have := open_nfat (line_cell hk hq).2
    rw [← e, hbf] at this; cases this
  have ek : on s.cs.length (k : Int) ((0 : Nat) : Int) = k := on_zero hk
  have hl0 := (lineLen_pos hk ho).1
  have hk0 : ∀ q, q < far s k → k ≠ (line s.cs k).getD (q + 1) 0 := fun q hq he => by
    rw [hlg _ (by omega), ← ek, on_on hz] at he
    have := line_inj hk hl0 (show q + 1 < lineLen s.cs k by omega) (by rw [ek]; rw [show ((0 : Nat) : Int) + ((q + 1 : Nat) : Int) = ((q + 1 : Nat) : Int) by omega] at he; rw [← he, ek])
    omega
  have hsk : (shifted s.cs (line s.cs k) (far s k) (modif s k).cs).getD k noC = s.cs.getD k noC := by
    rw [h2 k hk0, modif_at hk, if_neg]
    have := hnb 0 hl0
    rwa [ek] at this
  have hlen : (shifted s.cs (line s.cs k) (far s k) (modif s k).cs).length = s.cs.length := by rw [shifted_length, modif_length]
  rw [laid_eq, hsk]
  refine ⟨by rw [getD_set, if_pos ⟨rfl, by rw [hlen]; exact hk⟩], fun q hq => ?_, fun i hi => ?_, fun i h3 h4 h5 => ?_⟩
  · have e : (line s.cs k).getD (q + 1) 0 = on s.cs.length (k : Int) ((q : Int) + 1) := by rw [hlg _ (by omega)]; rfl
    have hne := hk0 q hq
    rw [e] at hne
    have := h1 q hq
    rw [e, hlg _ (by omega), modif_at hk, if_neg (by have := hnb (q + 1) (by omega); exact this)] at this
    rw [getD_set, if_neg (fun h => hne h.1), this]
  · have hik : i ≠ k := fun h => by
      subst h
      have := hnb 0 hl0
      rw [ek] at this
      exact this hi
    rw [getD_set, if_neg (fun h => hik h.1.symm), h2 i fun q hq he => ?_, modif_at hk, if_pos hi]
    rw [hlg _ (by omega)] at he
    exact hnb _ (show q + 1 < lineLen s.cs k by omega) (by rw [← he]; exact hi)
  · rw [getD_set, if_neg (fun h => h3 h.1.symm), h2 i fun q hq he => h5 q hq (by rw [he, hlg _ (by omega)]; rfl), modif_at hk, if_neg h4]
/-- Each cell is as it was, but for its character, or for being modified. -/
theorem laid_cell {s : S} {k : Nat} (hk : k < s.cs.length) (ho : open_ s.cs k = true) (c i : Nat) : ∃ m x, (laid s k c).getD i noC = { s.cs.getD i noC with m := m, c := x } := by
  obtain ⟨h1, h2, h3, h4⟩ := laid_at hk ho c
  by_cases hik : i = k
  · subst hik; exact ⟨_, _, h1⟩
  · by_cases hib : begin_ s.cs k = (i : Int)
    · exact ⟨_, _, h3 i hib⟩
    · by_cases hq : ∃ q, q < far s k ∧ i = on s.cs.length (k : Int) ((q : Int) + 1)
      · obtain ⟨q, hq, rfl⟩ := hq
        exact ⟨_, _, h2 q hq⟩
      · refine ⟨(s.cs.getD i noC).m, (s.cs.getD i noC).c, ?_⟩
        rw [h4 i hik hib fun q hq' he => hq ⟨q, hq', he⟩]
theorem laid_alikn {s : S} {k : Nat} (hk : k < s.cs.length) (ho : open_ s.cs k = true) (c : Nat) : Alikn (laid s k c) s.cs := by
  refine ⟨⟨laid_length s k c, fun i => ?_⟩, fun i => ?_⟩ <;> obtain ⟨m, x, h⟩ := laid_cell hk ho c i <;> rw [h]
  exact ⟨rfl, rfl⟩
/-- What changes lies in the cursor's own field, is open, and is the cursor's own cell but with Insert. -/
theorem laid_change {s : S} {k : Nat} (hk : k < s.cs.length) (ho : open_ s.cs k = true) (c i : Nat) (hb : begin_ s.cs k ≠ (i : Int)) (h : (laid s k c).getD i noC ≠ s.cs.getD i noC) : begin_ s.cs i = begin_ s.cs k ∧ open_ s.cs i = true ∧ (s.ins = true ∨ i = k) := by
  obtain ⟨h1, h2, h3, h4⟩ := laid_at hk ho c
  by_cases hik : i = k
  · subst hik; exact ⟨rfl, ho, .inr rfl⟩
  · by_cases hq : ∃ q, q < far s k ∧ i = on s.cs.length (k : Int) ((q : Int) + 1)
    · obtain ⟨q, hq, rfl⟩ := hq
      have hfl := far_lt hk ho
      obtain ⟨g1, g2⟩ := line_cell hk (show q + 1 < lineLen s.cs k by omega)
      refine ⟨g1, g2, .inl ?_⟩
      unfold far at hq
      cases hi : s.ins with
      | true => rfl
      | false => rw [hi] at hq; simp at hq
    · exact absurd (h4 i hik hb fun q hq' he => hq ⟨q, hq', he⟩) h
end Edt
end Go.Proofs.YtaopkelobglnbaaGreatDoor
