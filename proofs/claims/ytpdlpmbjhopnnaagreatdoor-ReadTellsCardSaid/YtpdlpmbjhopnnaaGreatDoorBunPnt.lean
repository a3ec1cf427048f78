/- PntSpec, PntMore, PntDone, PntGave, PntAt, PntCut in one text (by tools/bundle.py). -/
import Derived.Test.YtpdlpmbjhopnnaaGreatDoorBunFld
import Derived.Test.YtpdlpmbjhopnnaaGreatDoorBunPlain
import Derived.Test.YtpdlpmbjhopnnaaGreatDoorBunGrd
import Derived.Deep.RegionHeld3
import Derived.StillTailTactics
import Derived.Test.YtpdlpmbjhopnnaaGreatDoorBunBase
import Derived.Test.YtpdlpmbjhopnnaaGreatDoorProg
import Derived.Test.YtpdlpmbjhopnnaaGreatDoorBunStr
/- Plain: what orders do on a screen, from a place on. -/
namespace Go.Proofs.YtpdlpmbjhopnnaaGreatDoor
set_option linter.unusedVariables false
namespace Pnt
open Grd Fld
open Go.Proofs.YtpdlpmbjhopnnaaGreatDoor.Ord (O wrong none_)
/-- A character's cell. -/
def chr (x : Nat) : C := ⟨false, false, false, 0, false, x⟩
def put1 (st : List C × Nat) (x : Nat) : List C × Nat := (st.1.set st.2 (chr x), on st.1.length st.2 1)
/-- Characters put from a place on. -/
def ptext (st : List C × Nat) (t : List Nat) : List C × Nat := t.foldl put1 st
/-- A character put at each of these cells. -/
def reps (cs : List C) (c : Nat) (l : List Nat) : List C := l.foldl (fun cs i => cs.set i (chr c)) cs
def wipe1 (cs0 : List C) (cs : List C) (i : Nat) : List C := if open_ cs0 i then cs.set i { cs.getD i noC with c := 0 } else cs
/-- Those of these cells that are open get the character 0. -/
def wipes (cs0 : List C) (cs : List C) (l : List Nat) : List C := l.foldl (wipe1 cs0) cs
/-- Where a tab leads. -/
def tabTo (cs : List C) (a : Nat) : Nat := match firstK (opener cs) a (cs.length - a) with
  | some i => on cs.length (i : Int) 1
  | none => 0
/-- An order done: the screen, the place behind it. -/
def pone (s : S) (a : Nat) (o : O) : S × Nat :=
  if o.k = 1 then ({ s with cs := (ptext (s.cs, a) o.t).1 }, (ptext (s.cs, a) o.t).2)
  else if o.k = 2 then ({ s with cs := s.cs.set a ⟨true, o.p, o.n, o.s, o.m, 0⟩ }, on s.cs.length (a : Int) 1)
  else if o.k = 3 then (s, o.a.toNat)
  else if o.k = 4 then ({ s with cur := a }, a)
  else if o.k = 5 then (s, tabTo s.cs a)
  else if o.k = 6 then ({ s with cs := reps s.cs o.c (span s.cs.length (a : Int) o.a) }, o.a.toNat)
  else ({ s with cs := wipes s.cs s.cs (span s.cs.length (a : Int) o.a) }, o.a.toNat)
theorem tabTo_at {cs : List C} {a x : Nat} (h1 : a ≤ x) (h2 : x < cs.length) (h3 : opener cs x = true) (h4 : ∀ i, a ≤ i → i < x → opener cs i = false) : tabTo cs a = on cs.length (x : Int) 1 := by
  unfold tabTo; rw [firstK_is h1 (by omega) h3 h4]
theorem tabTo_no {cs : List C} {a : Nat} (h : ∀ i, a ≤ i → i < cs.length → opener cs i = false) : tabTo cs a = 0 := by
  unfold tabTo; rw [firstK_no fun i h1 h2 => h i h1 (by omega)]
def pone1 (st : S × Nat) (o : O) : S × Nat := pone st.1 st.2 o
/-- Orders done one by one. -/
def pall (st : S × Nat) (os : List O) : S × Nat := os.foldl pone1 st
/-- The first order that isn't right. -/
def pwrong (z : Nat) (os : List O) : Option Nat := firstK (fun i => decide (wrong (os.getD i none_) z ≠ 0)) 0 os.length
theorem put1_length (st : List C × Nat) (x : Nat) : (put1 st x).1.length = st.1.length := by simp [put1]
theorem ptext_length (st : List C × Nat) (t : List Nat) : (ptext st t).1.length = st.1.length := by
  induction t generalizing st with
  | nil => rfl
  | cons x t ih => exact (ih (put1 st x)).trans (put1_length st x)
theorem ptext_lt (st : List C × Nat) (h : st.2 < st.1.length) (t : List Nat) : (ptext st t).2 < st.1.length := by
  induction t generalizing st with
  | nil => exact h
  | cons x t ih =>
    have h1 := ih (put1 st x) (by rw [put1_length]; exact on_lt (Nat.lt_of_le_of_lt (Nat.zero_le _) h) st.2 1)
    rw [put1_length] at h1
    exact h1
/-- One character more. -/
theorem ptext_take (st : List C × Nat) (t : List Nat) {q : Nat} (h : q < t.length) : ptext st (t.take (q + 1)) = put1 (ptext st (t.take q)) (t.getD q 0) := by
  have e : t.take (q + 1) = t.take q ++ [t.getD q 0] := by
    rw [List.take_add_one, List.getElem?_eq_getElem h, List.getD_eq_getElem?_getD, List.getElem?_eq_getElem h]; rfl
  unfold ptext
  rw [e, List.foldl_append]; rfl
theorem reps_length (cs : List C) (c : Nat) (l : List Nat) : (reps cs c l).length = cs.length := by
  induction l generalizing cs with
  | nil => rfl
  | cons i l ih => exact (ih _).trans (by simp)
theorem reps_take (cs : List C) (c : Nat) (l : List Nat) {q : Nat} (h : q < l.length) : reps cs c (l.take (q + 1)) = (reps cs c (l.take q)).set (l.getD q 0) (chr c) := by
  have e : l.take (q + 1) = l.take q ++ [l.getD q 0] := by
    rw [List.take_add_one, List.getElem?_eq_getElem h, List.getD_eq_getElem?_getD, List.getElem?_eq_getElem h]; rfl
  unfold reps
  rw [e, List.foldl_append]; rfl
theorem wipe1_length (cs0 cs : List C) (i : Nat) : (wipe1 cs0 cs i).length = cs.length := by
  unfold wipe1; split <;> simp
theorem wipes_length (cs0 cs : List C) (l : List Nat) : (wipes cs0 cs l).length = cs.length := by
  induction l generalizing cs with
  | nil => rfl
  | cons i l ih => exact (ih _).trans (wipe1_length _ _ _)
theorem wipes_take (cs0 cs : List C) (l : List Nat) {q : Nat} (h : q < l.length) : wipes cs0 cs (l.take (q + 1)) = wipe1 cs0 (wipes cs0 cs (l.take q)) (l.getD q 0) := by
  have e : l.take (q + 1) = l.take q ++ [l.getD q 0] := by
    rw [List.take_add_one, List.getElem?_eq_getElem h, List.getD_eq_getElem?_getD, List.getElem?_eq_getElem h]; rfl
  unfold wipes
  rw [e, List.foldl_append]; rfl
theorem pone_rest (s : S) (a : Nat) (o : O) : (pone s a o).1.rows = s.rows ∧ (pone s a o).1.cols = s.cols ∧ (pone s a o).1.cs.length = s.cs.length ∧ (pone s a o).1.lk = s.lk ∧ (pone s a o).1.ins = s.ins := by
  unfold pone
  repeat' split
  all_goals simp [ptext_length, reps_length, wipes_length]
theorem pone_length (s : S) (a : Nat) (o : O) : (pone s a o).1.cs.length = s.cs.length := (pone_rest s a o).2.2.1
theorem tabTo_lt {cs : List C} (h : 0 < cs.length) (a : Nat) : tabTo cs a < cs.length := by
  unfold tabTo
  split
  · exact on_lt h _ _
  · exact h
theorem pone_lt {s : S} {a : Nat} {o : O} (ha : a < s.cs.length) (hw : wrong o s.cs.length = 0) : (pone s a o).2 < s.cs.length := by
  rcases Ord.right_cases hw with ⟨t, rfl, _, _⟩ | ⟨p, n, m, q, rfl, _⟩ | ⟨b, rfl, hb⟩ | rfl | rfl | ⟨b, c, rfl, hb, _⟩ | ⟨b, rfl, hb⟩
  · exact ptext_lt (s.cs, a) ha t
  · exact on_lt (Nat.lt_of_le_of_lt (Nat.zero_le _) ha) a 1
  · simpa [pone] using hb
  · exact ha
  · exact tabTo_lt (by omega) a
  · simpa [pone] using hb
  · simpa [pone] using hb
theorem pall_rest (os : List O) : ∀ (st : S × Nat), (pall st os).1.rows = st.1.rows ∧ (pall st os).1.cols = st.1.cols ∧ (pall st os).1.cs.length = st.1.cs.length ∧ (pall st os).1.lk = st.1.lk ∧ (pall st os).1.ins = st.1.ins := by
  induction os with
  | nil => intro st; exact ⟨rfl, rfl, rfl, rfl, rfl⟩
  | cons o os ih =>
    intro st
    obtain ⟨h1, h2, h3, h4, h5⟩ := ih (pone1 st o)
    obtain ⟨g1, g2, g3, g4, g5⟩ := pone_rest st.1 st.2 o
    exact ⟨h1.trans g1, h2.trans g2, h3.trans g3, h4.trans g4, h5.trans g5⟩
theorem pall_length (st : S × Nat) (os : List O) : (pall st os).1.cs.length = st.1.cs.length := (pall_rest os st).2.2.1
theorem pall_lt (os : List O) : ∀ (st : S × Nat), st.2 < st.1.cs.length → (∀ o ∈ os, wrong o st.1.cs.length = 0) → (pall st os).2 < st.1.cs.length := by
  induction os with
  | nil => intro st h _; exact h
  | cons o os ih =>
    intro st h hw
    have e : (pone1 st o).1.cs.length = st.1.cs.length := pone_length _ _ _
    have h1 := ih (pone1 st o) (by rw [e]; exact pone_lt h (hw o (List.mem_cons_self ..))) (by rw [e]; exact fun o' ho' => hw o' (List.mem_cons_of_mem _ ho'))
    rw [e] at h1
    exact h1
/-- One order more. -/
theorem pall_take (st : S × Nat) (os : List O) {q : Nat} (h : q < os.length) : pall st (os.take (q + 1)) = pone (pall st (os.take q)).1 (pall st (os.take q)).2 (os.getD q none_) := by
  have e : os.take (q + 1) = os.take q ++ [os.getD q none_] := by
    rw [List.take_add_one, List.getElem?_eq_getElem h, List.getD_eq_getElem?_getD, List.getElem?_eq_getElem h]; rfl
  unfold pall
  rw [e, List.foldl_append]; rfl
/-- Orders in two parts. -/
theorem pall_parts (st : S × Nat) (os : List O) (n : Nat) : pall (pall st (os.take n)) (os.drop n) = pall st os := by
  unfold pall
  rw [← List.foldl_append, List.take_append_drop]
theorem pwrong_none {z : Nat} {os : List O} (h : pwrong z os = none) : ∀ o ∈ os, wrong o z = 0 := by
  intro o ho
  obtain ⟨i, hi, rfl⟩ := List.getElem_of_mem ho
  have := firstK_none h i (Nat.zero_le _) (by omega)
  rw [List.getD_eq_getElem?_getD, List.getElem?_eq_getElem hi] at this
  simpa using this
theorem pwrong_some {z i : Nat} {os : List O} (h : pwrong z os = some i) : i < os.length ∧ wrong (os.getD i none_) z ≠ 0 ∧ ∀ j, j < i → wrong (os.getD j none_) z = 0 := by
  obtain ⟨_, h2, h3, h4⟩ := firstK_some h
  exact ⟨by omega, by simpa using h3, fun j hj => by simpa using h4 j (Nat.zero_le _) hj⟩
theorem pwrong_all {z : Nat} {os : List O} (h : ∀ o ∈ os, wrong o z = 0) : pwrong z os = none := by
  refine firstK_no fun i _ hi => ?_
  have hi : i < os.length := by omega
  rw [List.getD_eq_getElem?_getD, List.getElem?_eq_getElem hi]
  simpa using h _ (List.getElem_mem hi)
/-- Cells that are bytes stay so. -/
theorem sound_set {cs : List C} (h : Sound cs) {i : Nat} {o : C} (ho : o.c < 256) : Sound (cs.set i o) := by
  intro x hx
  rcases List.mem_or_eq_of_mem_set hx with h1 | rfl
  · exact h x h1
  · exact ho
theorem ptext_sound (t : List Nat) : ∀ (st : List C × Nat), Sound st.1 → (∀ x ∈ t, x < 256) → Sound (ptext st t).1 := by
  induction t with
  | nil => intro st h _; exact h
  | cons x t ih => intro st h h8; exact ih _ (sound_set h (h8 x (List.mem_cons_self ..))) fun y hy => h8 y (List.mem_cons_of_mem _ hy)
theorem reps_sound (l : List Nat) {c : Nat} (hc : c < 256) : ∀ (cs : List C), Sound cs → Sound (reps cs c l) := by
  induction l with
  | nil => intro cs h; exact h
  | cons i l ih => intro cs h; exact ih _ (sound_set h hc)
theorem wipe1_sound {cs0 cs : List C} {i : Nat} (h : Sound cs) : Sound (wipe1 cs0 cs i) := by
  unfold wipe1
  split
  · exact sound_set h (show (0 : Nat) < 256 by decide)
  · exact h
theorem wipes_sound (cs0 : List C) (l : List Nat) : ∀ (cs : List C), Sound cs → Sound (wipes cs0 cs l) := by
  induction l with
  | nil => intro cs h; exact h
  | cons i l ih => intro cs h; exact ih _ (wipe1_sound h)
theorem pone_sound {s : S} {a : Nat} {o : O} (h : Sound s.cs) (h8 : ∀ x ∈ o.t, x < 256) (hc : o.c < 256) : Sound (pone s a o).1.cs := by
  unfold pone
  repeat' split
  · exact ptext_sound _ _ h h8
  · exact sound_set h (show (0 : Nat) < 256 by decide)
  · exact h
  · exact h
  · exact h
  · exact reps_sound _ hc _ h
  · exact wipes_sound _ _ _ h
theorem pall_sound (os : List O) : ∀ (st : S × Nat), Sound st.1.cs → (∀ o ∈ os, (∀ x ∈ o.t, x < 256) ∧ o.c < 256) → Sound (pall st os).1.cs := by
  induction os with
  | nil => intro st h _; exact h
  | cons o os ih =>
    intro st h h8
    obtain ⟨k1, k2⟩ := h8 o (List.mem_cons_self ..)
    exact ih _ (pone_sound h k1 k2) fun o' ho' => h8 o' (List.mem_cons_of_mem _ ho')
end Pnt
end Go.Proofs.YtpdlpmbjhopnnaaGreatDoor
/- Plain: what an order leaves as it was. -/
namespace Go.Proofs.YtpdlpmbjhopnnaaGreatDoor
set_option linter.unusedVariables false
namespace Pnt
open Grd Fld
open Go.Proofs.YtpdlpmbjhopnnaaGreatDoor.Ord (O wrong none_)
theorem getD_set (cs : List C) (i j : Nat) (o : C) : (cs.set i o).getD j noC = if i = j ∧ i < cs.length then o else cs.getD j noC := by
  simp only [List.getD_eq_getElem?_getD, List.getElem?_set]
  by_cases h : i = j
  · subst h
    by_cases h2 : i < cs.length
    · simp [h2]
    · simp [h2]
  · simp [h]
/-- All cells are right. -/
def AllR (cs : List C) : Prop := ∀ o ∈ cs, cright o = true
theorem allR_set {cs : List C} (h : AllR cs) {i : Nat} {o : C} (ho : cright o = true) : AllR (cs.set i o) := by
  intro x hx
  rcases List.mem_or_eq_of_mem_set hx with h1 | rfl
  · exact h x h1
  · exact ho
theorem cright_chr {x : Nat} (h : Att.char x = true) : cright (chr x) = true := by simp [cright, chr, h]
theorem ptext_allR (t : List Nat) : ∀ (st : List C × Nat), AllR st.1 → (∀ x ∈ t, Att.char x = true) → AllR (ptext st t).1 := by
  induction t with
  | nil => intro st h _; exact h
  | cons x t ih => intro st h h8; exact ih _ (allR_set h (cright_chr (h8 x (List.mem_cons_self ..)))) fun y hy => h8 y (List.mem_cons_of_mem _ hy)
theorem reps_allR (l : List Nat) {c : Nat} (hc : Att.char c = true) : ∀ (cs : List C), AllR cs → AllR (reps cs c l) := by
  induction l with
  | nil => intro cs h; exact h
  | cons i l ih => intro cs h; exact ih _ (allR_set h (cright_chr hc))
/-- Only characters differ, and only where a cell is open. -/
def Near (cs0 cs : List C) : Prop := cs.length = cs0.length ∧ ∀ i, cs.getD i noC = cs0.getD i noC ∨ (open_ cs0 i = true ∧ cs.getD i noC = { cs0.getD i noC with c := 0 })
theorem near_wipe1 {cs0 cs : List C} (h : Near cs0 cs) (i : Nat) : Near cs0 (wipe1 cs0 cs i) := by
  obtain ⟨hl, h⟩ := h
  refine ⟨(wipe1_length _ _ _).trans hl, fun j => ?_⟩
  unfold wipe1
  split
  · rename_i ho
    rw [getD_set]
    split
    · rename_i hij
      obtain ⟨rfl, _⟩ := hij
      refine .inr ⟨ho, ?_⟩
      rcases h i with h1 | ⟨_, h1⟩ <;> rw [h1]
    · exact h j
  · exact h j
theorem near_wipes (cs0 : List C) (l : List Nat) : ∀ (cs : List C), Near cs0 cs → Near cs0 (wipes cs0 cs l) := by
  induction l with
  | nil => intro cs h; exact h
  | cons i l ih => intro cs h; exact ih _ (near_wipe1 h i)
theorem near_refl (cs : List C) : Near cs cs := ⟨rfl, fun _ => .inl rfl⟩
theorem open_fat {cs : List C} {i : Nat} (h : open_ cs i = true) : (cs.getD i noC).f = false := by
  unfold open_ fat at h
  simp only [Bool.and_eq_true, Bool.not_eq_true'] at h
  exact h.1
theorem mem_getD {cs : List C} {o : C} (h : o ∈ cs) : ∃ i, i < cs.length ∧ cs.getD i noC = o := by
  obtain ⟨i, hi, rfl⟩ := List.getElem_of_mem h
  exact ⟨i, hi, by rw [List.getD_eq_getElem?_getD, List.getElem?_eq_getElem hi]; rfl⟩
theorem getD_mem {cs : List C} {i : Nat} (h : i < cs.length) : cs.getD i noC ∈ cs := by
  rw [List.getD_eq_getElem?_getD, List.getElem?_eq_getElem h]; exact List.getElem_mem h
theorem char_0 : Att.char 0 = true := by decide
theorem near_allR {cs0 cs : List C} (h : Near cs0 cs) (h0 : AllR cs0) : AllR cs := by
  intro o ho
  obtain ⟨i, hi, rfl⟩ := mem_getD ho
  rw [h.1] at hi
  have h1 := h0 _ (getD_mem hi)
  rcases h.2 i with e | ⟨ho, e⟩
  · rw [e]; exact h1
  · rw [e]
    have hf := open_fat ho
    generalize cs0.getD i noC = c at *
    obtain ⟨f, p, n, s, m, x⟩ := c
    simp only at hf
    subst hf
    simp only [cright, Bool.false_eq_true, if_false, Bool.and_eq_true] at h1 ⊢
    exact ⟨h1.1, char_0⟩
theorem pone_cells {s : S} {a : Nat} {o : O} (h : AllR s.cs) (hw : wrong o s.cs.length = 0) : AllR (pone s a o).1.cs := by
  rcases Ord.right_cases hw with ⟨t, rfl, _, ht⟩ | ⟨p, n, m, q, rfl, hq⟩ | ⟨b, rfl, hb⟩ | rfl | rfl | ⟨b, c, rfl, hb, hc⟩ | ⟨b, rfl, hb⟩
  · exact ptext_allR t (s.cs, a) h (by rw [List.all_eq_true] at ht; exact ht)
  · exact allR_set h (by simp [cright]; omega)
  · exact h
  · exact h
  · exact h
  · exact reps_allR _ hc _ h
  · exact near_allR (near_wipes _ _ _ (near_refl _)) h
theorem pone_cur {s : S} {a : Nat} {o : O} : (pone s a o).1.cur = if o.k = 4 then (a : Int) else s.cur := by
  unfold pone
  repeat' split
  all_goals first | rfl | omega
theorem pone_right {s : S} {a : Nat} {o : O} (h : sright s = true) (ha : a < s.cs.length) (hw : wrong o s.cs.length = 0) : sright (pone s a o).1 = true := by
  obtain ⟨h1, h2, h3, h4, h5⟩ := sright_parts h
  obtain ⟨g1, g2, g3, g4, g5⟩ := pone_rest s a o
  have hc := pone_cells (a := a) h5 hw
  have hcur := pone_cur (s := s) (a := a) (o := o)
  simp only [sright, Bool.and_eq_true, decide_eq_true_eq, List.all_eq_true]
  rw [g1, g2, g3, hcur]
  refine ⟨h1, h2, ?_, ?_, hc⟩
  · split <;> omega
  · split <;> omega
/-- Set, Cursor and Tab change no cell. -/
theorem pone_stay {s : S} {a : Nat} {o : O} (h : o.k = 3 ∨ o.k = 4 ∨ o.k = 5) : (pone s a o).1.cs = s.cs := by
  unfold pone
  rcases h with h | h | h <;> simp [h]
/-- What Erase changes is open, and its character 0. -/
theorem pone_wipe {s : S} {a : Nat} {o : O} (h : o.k = 7) (i : Nat) : (pone s a o).1.cs.getD i noC = s.cs.getD i noC ∨ (((pone s a o).1.cs.getD i noC).f = false ∧ ((pone s a o).1.cs.getD i noC).c = 0 ∧ open_ s.cs i = true) := by
  have e : (pone s a o).1.cs = wipes s.cs s.cs (span s.cs.length (a : Int) o.a) := by unfold pone; simp [h]
  rw [e]
  rcases (near_wipes s.cs (span s.cs.length (a : Int) o.a) s.cs (near_refl _)).2 i with h1 | ⟨h1, h2⟩
  · exact .inl h1
  · rw [h2]; exact .inr ⟨open_fat h1, rfl, h1⟩
end Pnt
end Go.Proofs.YtpdlpmbjhopnnaaGreatDoor
/- What an answer of package paint is. -/
namespace Go.Proofs.YtpdlpmbjhopnnaaGreatDoor
open Go.RowKit Sha Six Apd Cut Err Att Grd Fld
set_option linter.unusedVariables false
namespace Pnt
/-- A screen and a place are answered: the cells are new memory. -/
def Done (w w' : World) (r : S × Nat) (e : Ending) : Prop := ∃ va vc, e = .returned (.tuple #[.agg #[.int .i64 r.1.rows, .int .i64 r.1.cols, .slice va r.1.cs.length vc, .int .i64 r.1.cur, .bool r.1.lk, .bool r.1.ins], .int .i64 (r.2 : Int)]) ∧ OwnCels w' w.heap.size (.slice va r.1.cs.length vc) r.1.cs ∧ Below w.heap.size w w'
end Pnt
end Go.Proofs.YtpdlpmbjhopnnaaGreatDoor
/- What the calls of package paint answer: a screen, a place and no error; or what is wrong. -/
namespace Go.Proofs.YtpdlpmbjhopnnaaGreatDoor
open Go.RowKit Sha Six Apd Cut Err Att Grd Fld
set_option linter.unusedVariables false
namespace Pnt
/-- A screen whose cells are new memory, a place, no error. -/
def Gave (w w' : World) (r : S × Nat) (e : Ending) : Prop := ∃ va vc, e = .returned (.tuple #[.agg #[.int .i64 r.1.rows, .int .i64 r.1.cols, .slice va r.1.cs.length vc, .int .i64 r.1.cur, .bool r.1.lk, .bool r.1.ins], .int .i64 (r.2 : Int), .nilIface]) ∧ OwnCels w' w.heap.size (.slice va r.1.cs.length vc) r.1.cs ∧ Below w.heap.size w w'
/-- The screen as it was handed in, the place, an error of this number and place. -/
def Refused (w w' : World) (s : S) (a : Nat) (code wh : Int) (e : Ending) : Prop := ∃ va vc ev, e = .returned (.tuple #[.agg #[.int .i64 s.rows, .int .i64 s.cols, .slice va s.cs.length vc, .int .i64 s.cur, .bool s.lk, .bool s.ins], .int .i64 (a : Int), ev]) ∧ CelsIn w' (.slice va s.cs.length vc) s.cs ∧ Err.Told w' ev code wh ∧ Below w.heap.size w w'
theorem bytes_none (w : World) : BytesIn w (.slice none 0 0) [] := ⟨none, 0, rfl, Nat.le_refl _, .inl rfl⟩
theorem blen {w : World} {n c : Nat} {ad : Option Addr} {xs : List Nat} (h : BytesIn w (.slice ad n c) xs) : n = xs.length := by
  obtain ⟨_, _, e, _⟩ := h
  injection e
theorem own_lt {w : World} {base e size n : Nat} {v : Value} {xs : List Value} (h : w.ownsRow base e size v n xs) : ∀ k, v.ownBlock = some k → k < w.heap.size := by
  intro k hk
  rcases h.2 with ⟨rfl, _⟩ | ⟨g, cap, cur, rfl, _, hcur, _⟩
  · cases hk
  · injection hk with hk
    subst hk
    exact there_lt hcur
theorem told_err {w : World} {ev : Value} {code wh : Int} (h : Err.Told w ev code wh) (h0 : code ≠ 0) : ev ≠ .nilIface := by
  rcases h with ⟨_, h1, _⟩ | ⟨rfl, _⟩ | ⟨_, _, rfl, _⟩
  · exact absurd h1 h0
  · intro h; cases h
  · intro h; cases h
theorem pall_right (os : List Go.Proofs.YtpdlpmbjhopnnaaGreatDoor.Ord.O) : ∀ (st : S × Nat), sright st.1 = true → st.2 < st.1.cs.length → (∀ o ∈ os, Go.Proofs.YtpdlpmbjhopnnaaGreatDoor.Ord.wrong o st.1.cs.length = 0) → sright (pall st os).1 = true := by
  induction os with
  | nil => intro st h _ _; exact h
  | cons o os ih =>
    intro st h ha hw
    have e : (pone1 st o).1.cs.length = st.1.cs.length := pone_length _ _ _
    have ho := hw o (List.mem_cons_self ..)
    exact ih (pone1 st o) (pone_right h ha ho) (by rw [e]; exact pone_lt ha ho) (by rw [e]; exact fun o' ho' => hw o' (List.mem_cons_of_mem _ ho'))
end Pnt
end Go.Proofs.YtpdlpmbjhopnnaaGreatDoor
/- A byte of a row; cells that stay where another block changes. -/
namespace Go.Proofs.YtpdlpmbjhopnnaaGreatDoor
open Go.RowKit Sha Six Apd Cut Err Att Grd Fld
set_option linter.unusedVariables false
namespace Pnt
theorem bytes_at {w : World} {g o n c : Nat} {xs : List Nat} (h : BytesIn w (.slice (some ⟨g, o, none⟩) n c) xs) {i : Nat} (hi : i < xs.length) : w.cell? ⟨g, o + i, none⟩ = some (.int .u8 ((xs.getD i 0 : Nat) : Int)) := by
  obtain ⟨ad, c2, hv, _, h1⟩ := h
  injection hv with e1 e2 e3
  rcases h1 with h1 | ⟨g2, o2, e, hc⟩
  · rw [h1] at hi; cases hi
  · subst e1; injection e with e; injection e with e4 e5; subst e4 e5; exact hc i hi
/-- Cells stay where another block changes. -/
theorem celsIn_away {w w' : World} {ad : Option Addr} {n c g : Nat} {cs : List C} (h : CelsIn w (.slice ad n c) cs) (hg : w.grownBy w' (some g)) (hne : ∀ x, ad = some x → x.block ≠ g) : CelsIn w' (.slice ad n c) cs := by
  obtain ⟨ad2, cap, hv, hcap, hn, hc⟩ := h
  injection hv with e1 e2 e3
  subst e1
  subst e3
  refine ⟨_, _, by rw [e2], hcap, hn, ?_⟩
  rcases hc with h0 | ⟨b, off, h1, h2⟩
  · exact .inl h0
  · exact .inr ⟨b, off, h1, fun i hi j u hj => hg.cell (a := ⟨b, off + i * 6 + j, none⟩) (h2 i hi j u hj) (by intro e; injection e with e; exact hne _ h1 e)⟩
theorem pall_nil (st : S × Nat) : pall st [] = st := rfl
end Pnt
end Go.Proofs.YtpdlpmbjhopnnaaGreatDoor
/- Slices of orders that are cut: the first n, those from n on. -/
namespace Go.Proofs.YtpdlpmbjhopnnaaGreatDoor
open Go.RowKit Sha Six Cut
set_option linter.unusedVariables false
namespace Pnt
def cutO (a : Option Addr) (k cap : Nat) : Option Addr := if cap = k then a else a.map (·.add (k * 8))
theorem run_lO (a : Option Addr) (len cap k : Nat) (hk : k ≤ len) (w : World) :
    (Instr.slice 34 (.slice a len cap) (some (.int .i64 (k : Int))) none none).run Tryz.prog w = .ok (.slice (cutO a k cap) (len - k) (cap - k)) w := by
  have hu : Tryz.prog.underlying 34 = some (.slice (Tryz.prog.elem 34)) := by kernel_rfl
  have hs : ((sizeOf (Tryz.prog.elem 34)).run Tryz.prog w) = .ok 8 w := by kernel_rfl
  rw [run_slice_l (P := Tryz.prog) w _ _ _ _ hu _ _ (by omega) (by omega), hs]
  simp [Result.andThen, sliced, cutO]
theorem run_hO (a : Option Addr) (len cap k : Nat) (hk : k ≤ cap) (w : World) :
    (Instr.slice 34 (.slice a len cap) none (some (.int .i64 (k : Int))) none).run Tryz.prog w = .ok (.slice a k cap) w := by
  have hu : Tryz.prog.underlying 34 = some (.slice (Tryz.prog.elem 34)) := by kernel_rfl
  have hs : ((sizeOf (Tryz.prog.elem 34)).run Tryz.prog w) = .ok 8 w := by kernel_rfl
  rw [run_slice_h (P := Tryz.prog) w _ _ _ _ hu _ _ (by omega) (by omega), hs]
  cases a with
  | none => simp [Result.andThen, sliced]
  | some x => simp [Result.andThen, sliced, show x.add 0 = x from rfl]
theorem ords_h {w : World} {base len cap k : Nat} {a : Option Addr} {os : List Go.Proofs.YtpdlpmbjhopnnaaGreatDoor.Ord.O} (h : Str.OrdsIn w base (.slice a len cap) os) (hk : k ≤ len) : Str.OrdsIn w base (.slice a k cap) (os.take k) := by
  obtain ⟨ad, c, hv, hcap, hn, hc⟩ := h
  injection hv with e1 e2 e3
  subst e1 e2 e3
  have hl : (os.take k).length = k := by rw [List.length_take]; omega
  refine ⟨_, _, by rw [hl], by omega, fun h0 => ⟨by rw [hl]; have := (hn h0).1; omega, (hn h0).2⟩, ?_⟩
  rcases hc with h0 | ⟨b, off, h1, h2, h3⟩
  · exact .inl (by rw [h0]; simp)
  · refine .inr ⟨b, off, h1, h2, fun i hi => ?_⟩
    rw [hl] at hi
    have := h3 i (by omega)
    simpa [List.getD_eq_getElem?_getD, List.getElem?_take_of_lt hi] using this
theorem ords_l {w : World} {base len cap k : Nat} {a : Option Addr} {os : List Go.Proofs.YtpdlpmbjhopnnaaGreatDoor.Ord.O} (h : Str.OrdsIn w base (.slice a len cap) os) (hk : k ≤ len) : Str.OrdsIn w base (.slice (cutO a k cap) (len - k) (cap - k)) (os.drop k) := by
  obtain ⟨ad, c, hv, hcap, hn, hc⟩ := h
  injection hv with e1 e2 e3
  subst e1 e2 e3
  have hl : (os.drop k).length = os.length - k := List.length_drop
  refine ⟨cutO a k cap, cap - k, by rw [hl], by omega, fun h0 => ?_, ?_⟩
  · have : a = none := by
      unfold cutO at h0
      split at h0
      · exact h0
      · simpa using h0
    obtain ⟨h1, h2⟩ := hn this
    exact ⟨by omega, by omega⟩
  · rcases hc with h0 | ⟨b, off, rfl, h2, h3⟩
    · exact .inl (by rw [h0]; simp)
    · by_cases hke : k = os.length
      · exact .inl (by rw [hke]; simp)
      · have hne : ¬ cap = k := by omega
        refine .inr ⟨b, off + k * 8, by rw [cutO, if_neg hne, Option.map_some, Addr.add_mid], h2, fun i hi => ?_⟩
        rw [hl] at hi
        have := h3 (k + i) (by omega)
        rw [show off + k * 8 + i * 8 = off + (k + i) * 8 by omega]
        simpa [List.getD_eq_getElem?_getD] using this
end Pnt
end Go.Proofs.YtpdlpmbjhopnnaaGreatDoor
