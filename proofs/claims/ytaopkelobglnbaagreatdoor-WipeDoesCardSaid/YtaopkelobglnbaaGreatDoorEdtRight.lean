/- Plain: a right screen stays right behind a letter; what stood in a line stands there yet; a letter typed over another one. -/
import Derived.Test.YtaopkelobglnbaaGreatDoorEdtMore
namespace Go.Proofs.YtaopkelobglnbaaGreatDoor
set_option linter.unusedVariables false
namespace Edt
open Grd Fld
theorem ltr_char {c : Nat} (h : ltr c = true) : Att.char c = true ∧ c ≠ 0 := by
  unfold ltr at h
  simp only [Bool.and_eq_true, bne_iff_ne, ne_eq] at h
  exact ⟨h.2, h.1⟩
theorem next_lt {cs : List C} (hz : 0 < cs.length) (a : Nat) : next cs a < (cs.length : Int) ∧ -1 ≤ next cs a := by
  unfold next
  split
  · rename_i k _
    have := on_lt hz (a : Int) ((k : Int) + 1)
    omega
  · omega
theorem goes_lt {cs : List C} (hz : 0 < cs.length) (k : Nat) : goes cs k < cs.length := by
  unfold goes
  have h1 := on_lt hz (k : Int) 1
  simp only
  split
  · split
    · rename_i h2
      have := next_lt hz (on cs.length (k : Int) 1)
      simp only [Bool.and_eq_true, decide_eq_true_eq] at h2
      omega
    · exact on_lt hz _ _
  · exact h1
theorem cright_char {o : C} (h : cright o = true) (hf : o.f = false) : Att.char o.c = true ∧ ∀ x, Att.char x = true → cright { o with c := x } = true := by
  obtain ⟨f, p, n, s, m, c⟩ := o
  simp only at hf
  subst hf
  simp only [cright, Bool.false_eq_true, if_false, Bool.and_eq_true] at h ⊢
  exact ⟨h.2, fun x hx => ⟨h.1, hx⟩⟩
theorem cright_mod {o : C} (h : cright o = true) (hf : o.f = true) : cright { o with m := true } = true := by
  obtain ⟨f, p, n, s, m, c⟩ := o
  simp only at hf
  subst hf
  simp only [cright, if_true] at h ⊢
  exact h
theorem cell_right {s : S} (h : sright s = true) {i : Nat} (hi : i < s.cs.length) : cright (s.cs.getD i noC) = true := by
  obtain ⟨_, _, _, _, h5⟩ := sright_parts h
  rw [List.getD_eq_getElem?_getD, List.getElem?_eq_getElem hi]
  exact h5 _ (List.getElem_mem hi)
theorem laid_right {s : S} (h : sright s = true) {k c : Nat} (hk : k < s.cs.length) (ho : open_ s.cs k = true) (hc : Att.char c = true) : ∀ i, i < s.cs.length → cright ((laid s k c).getD i noC) = true := by
  intro i hi
  obtain ⟨h1, h2, h3, h4⟩ := laid_at hk ho c
  have hfl := far_lt hk ho
  by_cases hik : i = k
  · subst hik; rw [h1]; exact (cright_char (cell_right h hi) (open_nfat ho)).2 c hc
  · by_cases hib : begin_ s.cs k = (i : Int)
    · rw [h3 i hib]
      obtain ⟨b, hb, _, hbf⟩ := begin_fat hk (by omega)
      have : b = i := by omega
      subst this
      exact cright_mod (cell_right h hi) hbf
    · by_cases hq : ∃ q, q < far s k ∧ i = on s.cs.length (k : Int) ((q : Int) + 1)
      · obtain ⟨q, hq, rfl⟩ := hq
        rw [h2 q hq]
        have o1 := (line_cell hk (show q < lineLen s.cs k by omega)).2
        have o2 := (line_cell hk (show q + 1 < lineLen s.cs k by omega)).2
        have e : on s.cs.length (k : Int) ((q + 1 : Nat) : Int) = on s.cs.length (k : Int) ((q : Int) + 1) := rfl
        rw [e] at o2
        exact (cright_char (cell_right h hi) (open_nfat o2)).2 _ (cright_char (cell_right h (on_lt (by omega) _ _)) (open_nfat o1)).1
      · rw [h4 i hik hib fun q hq' he => hq ⟨q, hq', he⟩]; exact cell_right h hi
theorem typed_right {s : S} (h : sright s = true) {k c : Nat} (hk : k < s.cs.length) (ho : open_ s.cs k = true) (hc : Att.char c = true) : sright (typed s k c) = true := by
  obtain ⟨h1, h2, h3, h4, h5⟩ := sright_parts h
  have hl := laid_length s k c
  have hg := goes_lt (cs := laid s k c) (by omega) k
  have e1 : sright (typed s k c) = (sized s.rows s.cols && (decide (((laid s k c).length : Int) = s.rows * s.cols) && (decide (0 ≤ ((goes (laid s k c) k : Nat) : Int)) && (decide (((goes (laid s k c) k : Nat) : Int) < ((laid s k c).length : Int)) && (laid s k c).all cright)))) := rfl
  rw [e1, h1, decide_eq_true (show ((laid s k c).length : Int) = s.rows * s.cols by rw [hl]; exact h2), decide_eq_true (show 0 ≤ ((goes (laid s k c) k : Nat) : Int) by omega), decide_eq_true (show ((goes (laid s k c) k : Nat) : Int) < ((laid s k c).length : Int) by omega), all_at fun i hi => laid_right h hk ho hc i (by rw [← hl]; exact hi)]
  rfl
theorem deny_right {s : S} (h : sright s = true) : sright (deny s) = true := h
/-- The screen's cursor as a number. -/
theorem cur_nat {s : S} (h : sright s = true) : ∃ k : Nat, s.cur = (k : Int) ∧ s.cur.toNat = k ∧ k < s.cs.length := by
  obtain ⟨_, _, h3, h4, _⟩ := sright_parts h
  exact ⟨s.cur.toNat, by omega, rfl, by omega⟩
/-- What a letter makes is right. -/
theorem typ_right {s : S} (h : sright s = true) (c : Nat) : sright (typ s c).1 = true := by
  obtain ⟨k, e1, e2, hk⟩ := cur_nat h
  unfold typ
  rw [e2]
  simp only
  split
  · exact h
  · split
    · exact h
    · split
      · exact deny_right h
      · split
        · exact deny_right h
        · split
          · exact deny_right h
          · rename_i h1 _ h3 _ _
            exact typed_right h hk (by simpa using h3) (ltr_char (by simpa using h1)).1
theorem typ_length {s : S} (c : Nat) : (typ s c).1.cs.length = s.cs.length ∧ (typ s c).1.rows = s.rows ∧ (typ s c).1.cols = s.cols ∧ (typ s c).1.ins = s.ins := by
  unfold typ
  simp only
  repeat' split
  all_goals exact ⟨by first | rfl | exact laid_length _ _ _, rfl, rfl, rfl⟩
/-- The cases of a letter that is typed. -/
theorem typ_cases (s : S) (c : Nat) : (∃ code : Nat, ∃ at_ : Int, code ≠ 0 ∧ ((typ s c) = (s, code, -1) ∨ typ s c = (deny s, code, s.cur))) ∨ (typ s c = (typed s s.cur.toNat c, 0, -1) ∧ ltr c = true ∧ s.lk = false ∧ open_ s.cs s.cur.toNat = true ∧ (((attrOf s.cs s.cur.toNat).n && !digit c) && (c != 28 && c != 30)) = false ∧ (s.ins = true → ∃ j, free s.cs (line s.cs s.cur.toNat) = some j)) := by
  unfold typ
  simp only
  by_cases h1 : ltr c = false
  · rw [if_pos h1]; exact .inl ⟨3, 0, by decide, .inl rfl⟩
  · rw [if_neg h1]
    by_cases h2 : s.lk = true
    · rw [if_pos h2]; exact .inl ⟨7, 0, by decide, .inl rfl⟩
    · rw [if_neg h2]
      by_cases h3 : open_ s.cs s.cur.toNat = false
      · rw [if_pos h3]; exact .inl ⟨8, 0, by decide, .inr rfl⟩
      · rw [if_neg h3]
        by_cases h4 : (((attrOf s.cs s.cur.toNat).n && !digit c) && (c != 28 && c != 30)) = true
        · rw [if_pos h4]; exact .inl ⟨9, 0, by decide, .inr rfl⟩
        · rw [if_neg h4]
          by_cases h5 : (s.ins && (free s.cs (line s.cs s.cur.toNat)).isNone) = true
          · rw [if_pos h5]; exact .inl ⟨10, 0, by decide, .inr rfl⟩
          · rw [if_neg h5]
            refine .inr ⟨rfl, by simpa using h1, by simpa using h2, by simpa using h3, by simpa using h4, fun hi => ?_⟩
            rw [hi] at h5
            cases hf : free s.cs (line s.cs s.cur.toNat) with
            | some j => exact ⟨j, rfl⟩
            | none => rw [hf] at h5; exact absurd rfl h5
/-- What is refused changes Locked alone. -/
theorem typ_no (s : S) (c : Nat) (h : (typ s c).2.1 ≠ 0) : ∃ tl, (typ s c).1 = ⟨s.rows, s.cols, s.cs, s.cur, tl, s.ins⟩ ∧ (tl = s.lk ∨ (typ s c).2.2 = s.cur) := by
  rcases typ_cases s c with ⟨code, _, _, h' | h'⟩ | ⟨h', _⟩
  · exact ⟨s.lk, by rw [h'], .inl rfl⟩
  · exact ⟨true, by rw [h']; rfl, .inr (by rw [h'])⟩
  · rw [h'] at h; exact absurd rfl h
/-- A line's characters. -/
def cz (cs : List C) (a i : Nat) : Nat := (cs.getD (on cs.length (a : Int) (i : Int)) noC).c
/-- The first q characters of a line but for the j-th. -/
def was (cs : List C) (a j q : Nat) : List Nat := ((List.range q).filter (fun i => i != j)).map (cz cs a)
theorem was_succ (cs : List C) (a j q : Nat) : was cs a j (q + 1) = if q = j then was cs a j q else was cs a j q ++ [cz cs a q] := by
  unfold was
  rw [List.range_succ, List.filter_append]
  by_cases h : q = j
  · subst h; simp
  · simp [h]
theorem was_spec (cs : List C) (a j : Nat) : ∀ q, (was cs a j q).length = (if j < q then q - 1 else q) ∧ ∀ i, i < (was cs a j q).length → (was cs a j q).getD i 0 = if i < j then cz cs a i else cz cs a (i + 1)
  | 0 => ⟨rfl, fun i h => absurd h (Nat.not_lt_zero _)⟩
  | q + 1 => by
    obtain ⟨h1, h2⟩ := was_spec cs a j q
    rw [was_succ]
    by_cases h : q = j
    · subst h
      rw [if_pos rfl]
      rw [if_neg (Nat.lt_irrefl _)] at h1
      exact ⟨by rw [h1, if_pos (by omega)]; rfl, h2⟩
    · rw [if_neg h]
      refine ⟨by rw [List.length_append, h1]; simp only [List.length_cons, List.length_nil]; split <;> split <;> omega, fun i hi => ?_⟩
      rw [List.length_append] at hi
      simp only [List.length_cons, List.length_nil] at hi
      by_cases hlt : i < (was cs a j q).length
      · rw [List.getD_eq_getElem?_getD, List.getElem?_append_left hlt, ← List.getD_eq_getElem?_getD]; exact h2 i hlt
      · have : i = (was cs a j q).length := by omega
        subst this
        rw [List.getD_eq_getElem?_getD, List.getElem?_append_right (Nat.le_refl _), Nat.sub_self]
        show cz cs a q = _
        rw [h1]
        split <;> split <;> first | rfl | (congr 1; omega) | omega
theorem was_lt {cs : List C} (h : Sound cs) (a j q : Nat) : ∀ x ∈ was cs a j q, x < 256 := by
  intro x hx
  unfold was at hx
  rw [List.mem_map] at hx
  obtain ⟨i, _, rfl⟩ := hx
  exact sound_at h _
/-- With Insert: the cursor's cell, and what stood in the line behind it. -/
theorem insert_at {s : S} {k c j : Nat} (hk : k < s.cs.length) (ho : open_ s.cs k = true) (hi : s.ins = true) (hf : free s.cs (line s.cs k) = some j) : ((laid s k c).getD k noC).c = c ∧ ∀ i, i + 1 < lineLen s.cs k → ((laid s k c).getD (on s.cs.length (k : Int) ((i + 1 : Nat) : Int)) noC).c = (was s.cs k j (lineLen s.cs k)).getD i 0 := by
  obtain ⟨h1, h2, h3, h4⟩ := laid_at hk ho c
  have hfar : far s k = j := by unfold far; rw [hi, hf]; rfl
  have hfl := far_lt hk ho
  obtain ⟨w1, w2⟩ := was_spec s.cs k j (lineLen s.cs k)
  refine ⟨by rw [h1], fun i hin => ?_⟩
  rw [if_pos (by omega)] at w1
  rw [w2 i (by omega)]
  have hz : 0 < s.cs.length := by omega
  by_cases hij : i < j
  · rw [if_pos hij]
    have := h2 i (by omega)
    have e : on s.cs.length (k : Int) ((i + 1 : Nat) : Int) = on s.cs.length (k : Int) ((i : Int) + 1) := rfl
    rw [e, this]; rfl
  · rw [if_neg hij]
    have ek : on s.cs.length (k : Int) ((0 : Nat) : Int) = k := on_zero hk
    rw [h4]
    · rfl
    · intro he
      have := line_inj hk hin (show 0 < lineLen s.cs k by omega) (by rw [ek]; exact he)
      omega
    · intro he
      obtain ⟨b, hb, _, hbf⟩ := begin_fat hk (by omega)
      have hop := (line_cell hk hin).2
      have : b = on s.cs.length (k : Int) ((i + 1 : Nat) : Int) := by omega
      rw [← this] at hop
      rw [open_nfat hop] at hbf; cases hbf
    · intro q hq he
      have := line_inj hk hin (show q + 1 < lineLen s.cs k by omega) he
      omega
/-- Without Insert a letter over another one is as that letter alone. -/
theorem over_at {s : S} {k c d : Nat} (hk : k < s.cs.length) (ho : open_ s.cs k = true) (hi : s.ins = false) : laid { s with cs := laid s k c, cur := (k : Nat) } k d = laid s k d := by
  have ha := laid_alikn hk ho c
  have ho2 : open_ (laid s k c) k = true := by rw [alike_open ha.1]; exact ho
  have hl := laid_length s k c
  obtain ⟨h1, h2, h3, h4⟩ := laid_at hk ho d
  obtain ⟨c1, c2, c3, c4⟩ := laid_at hk ho c
  have hs0 : far s k = 0 := by unfold far; rw [hi]; rfl
  let t : S := { s with cs := laid s k c, cur := (k : Nat) }
  have ht0 : far t k = 0 := by unfold far; show (if s.ins = true then _ else 0) = 0; rw [hi]; rfl
  obtain ⟨d1, d2, d3, d4⟩ := laid_at (s := t) (by show k < (laid s k c).length; rw [hl]; exact hk) ho2 d
  have hb : begin_ t.cs k = begin_ s.cs k := alike_begin ha.1 k
  refine List.ext_getElem ?_ fun i g1 g2 => ?_
  · rw [laid_length, laid_length, laid_length]
  · have g2' : i < s.cs.length := by rwa [laid_length] at g2
    have key : (laid t k d).getD i noC = (laid s k d).getD i noC := by
      by_cases hik : i = k
      · subst hik; rw [d1, h1]; show { (laid s i c).getD i noC with c := d } = _; rw [c1]
      · by_cases hib : begin_ s.cs k = (i : Int)
        · rw [d3 i (by rw [hb]; exact hib), h3 i hib]; show { (laid s k c).getD i noC with m := true } = _; rw [c3 i hib]
        · rw [d4 i hik (by rw [hb]; exact hib) (fun q hq => by omega), h4 i hik hib (fun q hq => by omega)]
          show (laid s k c).getD i noC = _
          rw [c4 i hik hib (fun q hq => by omega)]
    rw [List.getD_eq_getElem?_getD, List.getD_eq_getElem?_getD, List.getElem?_eq_getElem g1, List.getElem?_eq_getElem g2] at key
    exact key
theorem right_cur {s : S} (h : sright s = true) {x : Int} (h0 : 0 ≤ x) (h1 : x < (s.cs.length : Int)) : sright { s with cur := x } = true := by
  obtain ⟨g1, g2, _, _, g5⟩ := sright_parts h
  have e : sright { s with cur := x } = (sized s.rows s.cols && (decide ((s.cs.length : Int) = s.rows * s.cols) && (decide (0 ≤ x) && (decide (x < (s.cs.length : Int)) && s.cs.all cright)))) := rfl
  rw [e, g1, decide_eq_true g2, decide_eq_true h0, decide_eq_true h1, List.all_eq_true.2 g5]; rfl
/-- Without Insert a letter typed where another one was typed leaves the screen that it leaves alone. -/
theorem over_typ {s : S} (hr : sright s = true) (hi : s.ins = false) {c d : Nat} (hc : (typ s c).2.1 = 0) (hd : (typ s d).2.1 = 0) : typ { (typ s c).1 with cur := s.cur } d = typ s d := by
  obtain ⟨k, e1, e2, hk⟩ := cur_nat hr
  rcases typ_cases s c with ⟨code, _, h0, h | h⟩ | ⟨h, c1, c2, c3, c4, c5⟩
  · rw [h] at hc; exact absurd hc h0
  · rw [h] at hc; exact absurd hc h0
  rcases typ_cases s d with ⟨code, _, h0, h' | h'⟩ | ⟨h', d1, d2, d3, d4, d5⟩
  · rw [h'] at hd; exact absurd hd h0
  · rw [h'] at hd; exact absurd hd h0
  rw [h, h']
  rw [e2] at *
  have ha := laid_alikn hk c3 c
  have hov := over_at (c := c) (d := d) hk c3 hi
  have ht : ({ (typed s k c, (0 : Nat), (-1 : Int)).1 with cur := s.cur } : S) = { s with cs := laid s k c, cur := (k : Nat) } := by rw [e1]; rfl
  rw [ht]
  have e3 : typ { s with cs := laid s k c, cur := (k : Nat) } d = (typed { s with cs := laid s k c, cur := (k : Nat) } k d, 0, -1) := by
    unfold typ
    simp only [Int.toNat_natCast]
    rw [if_neg (by rw [d1]; decide), if_neg (by rw [c2]; decide), if_neg (by rw [alike_open ha.1, c3]; decide), (alikn_attr ha k).1, if_neg (by rw [d4]; decide), if_neg (by rw [hi]; simp)]
  rw [e3]
  show (({ s with cs := laid { s with cs := laid s k c, cur := (k : Nat) } k d, cur := (goes (laid { s with cs := laid s k c, cur := (k : Nat) } k d) k : Nat) } : S), (0 : Nat), (-1 : Int)) = _
  rw [hov]
  rfl
theorem right_sound {s : S} (h : sright s = true) : Sound s.cs := by
  obtain ⟨_, _, _, _, h5⟩ := sright_parts h
  intro o ho
  have h1 := h5 o ho
  obtain ⟨f, p, n, q, m, c⟩ := o
  cases f with
  | true => simp [cright] at h1; simp only; omega
  | false =>
    simp [cright, Att.char] at h1
    simp only
    omega
end Edt
end Go.Proofs.YtaopkelobglnbaaGreatDoor
