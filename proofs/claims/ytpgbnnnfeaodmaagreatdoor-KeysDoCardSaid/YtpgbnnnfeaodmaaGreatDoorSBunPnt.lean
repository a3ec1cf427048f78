/- PntSpec, PntMore, PntDone, PntGave, PntAt, PntRef, PntRall, PntCut in one text (by tools/bundle.py). -/
import Derived.Test.YtpgbnnnfeaodmaaGreatDoorSBunFld
import Derived.Test.YtpgbnnnfeaodmaaGreatDoorSBunPlain
import Derived.Test.YtpgbnnnfeaodmaaGreatDoorSBunGrd
import Derived.Deep.RegionHeld3
import Derived.StillTailTactics
import Derived.Test.YtpgbnnnfeaodmaaGreatDoorSBunBase
import Derived.Test.YtpgbnnnfeaodmaaGreatDoorProg
import Derived.Test.YtpgbnnnfeaodmaaGreatDoorSBunStr
import Derived.Test.YtpgbnnnfeaodmaaGreatDoorSBunLow
/- Plain: what orders do on a screen, from a place on. -/
namespace Go.Proofs.YtpgbnnnfeaodmaaGreatDoor
set_option linter.unusedVariables false
namespace Pnt
open Grd Fld
open Go.Proofs.YtpgbnnnfeaodmaaGreatDoor.Ord (O wrong none_)
def chr (x : Nat) : C := ⟨false, false, false, 0, false, x⟩
def put1 (st : List C × Nat) (x : Nat) : List C × Nat := (st.1.set st.2 (chr x), on st.1.length st.2 1)
def ptext (st : List C × Nat) (t : List Nat) : List C × Nat := t.foldl put1 st
def reps (cs : List C) (c : Nat) (l : List Nat) : List C := l.foldl (fun cs i => cs.set i (chr c)) cs
def wipe1 (cs0 : List C) (cs : List C) (i : Nat) : List C := if open_ cs0 i then cs.set i { cs.getD i noC with c := 0 } else cs
def wipes (cs0 : List C) (cs : List C) (l : List Nat) : List C := l.foldl (wipe1 cs0) cs
def tabTo (cs : List C) (a : Nat) : Nat := match firstK (opener cs) a (cs.length - a) with
  | some i => on cs.length (i : Int) 1
  | none => 0
def pone (s : S) (a : Nat) (o : O) : S × Nat :=
  if o.k = 1 then ({ s with cs := (ptext (s.cs, a) o.t).1 }, (ptext (s.cs, a) o.t).2)
  else if o.k = 2 then ({ s with cs := s.cs.set a ⟨true, o.p, o.n, o.s, o.m, 0⟩ }, on s.cs.length (a : Int) 1)
  else if o.k = 3 then (s, o.a.toNat)
  else if o.k = 4 then ({ s with cur := a }, a)
  else if o.k = 5 then (s, tabTo s.cs a)
  else if o.k = 6 then ({ s with cs := reps s.cs o.c (span s.cs.length (a : Int) o.a) }, o.a.toNat)
  else ({ s with cs := wipes s.cs s.cs (span s.cs.length (a : Int) o.a) }, o.a.toNat)
theorem tabTo_at {cs : List C} {a x : Nat} (h1 : a ≤ x) (h2 : x < cs.length) (h3 : opener cs x = true) (h4 : ∀ i, a ≤ i → i < x → opener cs i = false) : tabTo cs a = on cs.length (x : Int) 1 := by
  unfold tabTo; rw [firstK_is h1 (by omega) h3 h4]
theorem tabTo_no {cs : List C} {a : Nat} (h : ∀ i, a ≤ i → i < cs.length → opener cs i = false) : tabTo cs a = 0 := by
  unfold tabTo; rw [firstK_no fun i h1 h2 => h i h1 (by omega)]
def pone1 (st : S × Nat) (o : O) : S × Nat := pone st.1 st.2 o
def pall (st : S × Nat) (os : List O) : S × Nat := os.foldl pone1 st
def pwrong (z : Nat) (os : List O) : Option Nat := firstK (fun i => decide (wrong (os.getD i none_) z ≠ 0)) 0 os.length
theorem put1_length (st : List C × Nat) (x : Nat) : (put1 st x).1.length = st.1.length := by simp [put1]
theorem ptext_length (st : List C × Nat) (t : List Nat) : (ptext st t).1.length = st.1.length := by
  induction t generalizing st with
  | nil => rfl
  | cons x t ih => exact (ih (put1 st x)).trans (put1_length st x)
theorem ptext_lt (st : List C × Nat) (h : st.2 < st.1.length) (t : List Nat) : (ptext st t).2 < st.1.length := by
  induction t generalizing st with
  | nil => exact h
  | cons x t ih =>
    have h1 := ih (put1 st x) (by rw [put1_length]; exact on_lt (Nat.lt_of_le_of_lt (Nat.zero_le _) h) st.2 1)
    rw [put1_length] at h1
    exact h1
theorem ptext_take (st : List C × Nat) (t : List Nat) {q : Nat} (h : q < t.length) : ptext st (t.take (q + 1)) = put1 (ptext st (t.take q)) (t.getD q 0) := by
  have e : t.take (q + 1) = t.take q ++ [t.getD q 0] := by
    rw [List.take_add_one, List.getElem?_eq_getElem h, List.getD_eq_getElem?_getD, List.getElem?_eq_getElem h]; rfl
  unfold ptext
  rw [e, List.foldl_append]; rfl
theorem reps_length (cs : List C) (c : Nat) (l : List Nat) : (reps cs c l).length = cs.length := by
  induction l generalizing cs with
  | nil => rfl
  | cons i l ih => exact (ih _).trans (by simp)
theorem reps_take (cs : List C) (c : Nat) (l : List Nat) {q : Nat} (h : q < l.length) : reps cs c (l.take (q + 1)) = (reps cs c (l.take q)).set (l.getD q 0) (chr c) := by
  have e : l.take (q + 1) = l.take q ++ [l.getD q 0] := by
    rw [List.take_add_one, List.getElem?_eq_getElem h, List.getD_eq_getElem?_getD, List.getElem?_eq_getElem h]; rfl
  unfold reps
  rw [e, List.foldl_append]; rfl
theorem wipe1_length (cs0 cs : List C) (i : Nat) : (wipe1 cs0 cs i).length = cs.length := by
  unfold wipe1; split <;> simp
theorem wipes_length (cs0 cs : List C) (l : List Nat) : (wipes cs0 cs l).length = cs.length := by
  induction l generalizing cs with
  | nil => rfl
  | cons i l ih => exact (ih _).trans (wipe1_length _ _ _)
theorem wipes_take (cs0 cs : List C) (l : List Nat) {q : Nat} (h : q < l.length) : wipes cs0 cs (l.take (q + 1)) = wipe1 cs0 (wipes cs0 cs (l.take q)) (l.getD q 0) := by
  have e : l.take (q + 1) = l.take q ++ [l.getD q 0] := by
    rw [List.take_add_one, List.getElem?_eq_getElem h, List.getD_eq_getElem?_getD, List.getElem?_eq_getElem h]; rfl
  unfold wipes
  rw [e, List.foldl_append]; rfl
theorem pone_rest (s : S) (a : Nat) (o : O) : (pone s a o).1.rows = s.rows ∧ (pone s a o).1.cols = s.cols ∧ (pone s a o).1.cs.length = s.cs.length ∧ (pone s a o).1.lk = s.lk ∧ (pone s a o).1.ins = s.ins := by
  unfold pone
  repeat' split
  all_goals simp [ptext_length, reps_length, wipes_length]
theorem pone_length (s : S) (a : Nat) (o : O) : (pone s a o).1.cs.length = s.cs.length := (pone_rest s a o).2.2.1
theorem tabTo_lt {cs : List C} (h : 0 < cs.length) (a : Nat) : tabTo cs a < cs.length := by
  unfold tabTo
  split
  · exact on_lt h _ _
  · exact h
theorem pone_lt {s : S} {a : Nat} {o : O} (ha : a < s.cs.length) (hw : wrong o s.cs.length = 0) : (pone s a o).2 < s.cs.length := by
  rcases Ord.right_cases hw with ⟨t, rfl, _, _⟩ | ⟨p, n, m, q, rfl, _⟩ | ⟨b, rfl, hb⟩ | rfl | rfl | ⟨b, c, rfl, hb, _⟩ | ⟨b, rfl, hb⟩
  · exact ptext_lt (s.cs, a) ha t
  · exact on_lt (Nat.lt_of_le_of_lt (Nat.zero_le _) ha) a 1
  · simpa [pone] using hb
  · exact ha
  · exact tabTo_lt (by omega) a
  · simpa [pone] using hb
  · simpa [pone] using hb
theorem pall_rest (os : List O) : ∀ (st : S × Nat), (pall st os).1.rows = st.1.rows ∧ (pall st os).1.cols = st.1.cols ∧ (pall st os).1.cs.length = st.1.cs.length ∧ (pall st os).1.lk = st.1.lk ∧ (pall st os).1.ins = st.1.ins := by
  induction os with
  | nil => intro st; exact ⟨rfl, rfl, rfl, rfl, rfl⟩
  | cons o os ih =>
    intro st
    obtain ⟨h1, h2, h3, h4, h5⟩ := ih (pone1 st o)
    obtain ⟨g1, g2, g3, g4, g5⟩ := pone_rest st.1 st.2 o
    exact ⟨h1.trans g1, h2.trans g2, h3.trans g3, h4.trans g4, h5.trans g5⟩
theorem pall_length (st : S × Nat) (os : List O) : (pall st os).1.cs.length = st.1.cs.length := (pall_rest os st).2.2.1
theorem pall_lt (os : List O) : ∀ (st : S × Nat), st.2 < st.1.cs.length → (∀ o ∈ os, wrong o st.1.cs.length = 0) → (pall st os).2 < st.1.cs.length := by
  induction os with
  | nil => intro st h _; exact h
  | cons o os ih =>
    intro st h hw
    have e : (pone1 st o).1.cs.length = st.1.cs.length := pone_length _ _ _
    have h1 := ih (pone1 st o) (by rw [e]; exact pone_lt h (hw o (List.mem_cons_self ..))) (by rw [e]; exact fun o' ho' => hw o' (List.mem_cons_of_mem _ ho'))
    rw [e] at h1
    exact h1
theorem pall_take (st : S × Nat) (os : List O) {q : Nat} (h : q < os.length) : pall st (os.take (q + 1)) = pone (pall st (os.take q)).1 (pall st (os.take q)).2 (os.getD q none_) := by
  have e : os.take (q + 1) = os.take q ++ [os.getD q none_] := by
    rw [List.take_add_one, List.getElem?_eq_getElem h, List.getD_eq_getElem?_getD, List.getElem?_eq_getElem h]; rfl
  unfold pall
  rw [e, List.foldl_append]; rfl
theorem pwrong_none {z : Nat} {os : List O} (h : pwrong z os = none) : ∀ o ∈ os, wrong o z = 0 := by
  intro o ho
  obtain ⟨i, hi, rfl⟩ := List.getElem_of_mem ho
  have := firstK_none h i (Nat.zero_le _) (by omega)
  rw [List.getD_eq_getElem?_getD, List.getElem?_eq_getElem hi] at this
  simpa using this
theorem pwrong_all {z : Nat} {os : List O} (h : ∀ o ∈ os, wrong o z = 0) : pwrong z os = none := by
  refine firstK_no fun i _ hi => ?_
  have hi : i < os.length := by omega
  rw [List.getD_eq_getElem?_getD, List.getElem?_eq_getElem hi]
  simpa using h _ (List.getElem_mem hi)
theorem sound_set {cs : List C} (h : Sound cs) {i : Nat} {o : C} (ho : o.c < 256) : Sound (cs.set i o) := by
  intro x hx
  rcases List.mem_or_eq_of_mem_set hx with h1 | rfl
  · exact h x h1
  · exact ho
theorem ptext_sound (t : List Nat) : ∀ (st : List C × Nat), Sound st.1 → (∀ x ∈ t, x < 256) → Sound (ptext st t).1 := by
  induction t with
  | nil => intro st h _; exact h
  | cons x t ih => intro st h h8; exact ih _ (sound_set h (h8 x (List.mem_cons_self ..))) fun y hy => h8 y (List.mem_cons_of_mem _ hy)
theorem reps_sound (l : List Nat) {c : Nat} (hc : c < 256) : ∀ (cs : List C), Sound cs → Sound (reps cs c l) := by
  induction l with
  | nil => intro cs h; exact h
  | cons i l ih => intro cs h; exact ih _ (sound_set h hc)
theorem wipe1_sound {cs0 cs : List C} {i : Nat} (h : Sound cs) : Sound (wipe1 cs0 cs i) := by
  unfold wipe1
  split
  · exact sound_set h (show (0 : Nat) < 256 by decide)
  · exact h
theorem wipes_sound (cs0 : List C) (l : List Nat) : ∀ (cs : List C), Sound cs → Sound (wipes cs0 cs l) := by
  induction l with
  | nil => intro cs h; exact h
  | cons i l ih => intro cs h; exact ih _ (wipe1_sound h)
theorem pone_sound {s : S} {a : Nat} {o : O} (h : Sound s.cs) (h8 : ∀ x ∈ o.t, x < 256) (hc : o.c < 256) : Sound (pone s a o).1.cs := by
  unfold pone
  repeat' split
  · exact ptext_sound _ _ h h8
  · exact sound_set h (show (0 : Nat) < 256 by decide)
  · exact h
  · exact h
  · exact h
  · exact reps_sound _ hc _ h
  · exact wipes_sound _ _ _ h
theorem pall_sound (os : List O) : ∀ (st : S × Nat), Sound st.1.cs → (∀ o ∈ os, (∀ x ∈ o.t, x < 256) ∧ o.c < 256) → Sound (pall st os).1.cs := by
  induction os with
  | nil => intro st h _; exact h
  | cons o os ih =>
    intro st h h8
    obtain ⟨k1, k2⟩ := h8 o (List.mem_cons_self ..)
    exact ih _ (pone_sound h k1 k2) fun o' ho' => h8 o' (List.mem_cons_of_mem _ ho')
end Pnt
end Go.Proofs.YtpgbnnnfeaodmaaGreatDoor
/- Plain: what an order leaves as it was. -/
namespace Go.Proofs.YtpgbnnnfeaodmaaGreatDoor
set_option linter.unusedVariables false
namespace Pnt
open Grd Fld
open Go.Proofs.YtpgbnnnfeaodmaaGreatDoor.Ord (O wrong none_)
theorem getD_set (cs : List C) (i j : Nat) (o : C) : (cs.set i o).getD j noC = if i = j ∧ i < cs.length then o else cs.getD j noC := by
  simp only [List.getD_eq_getElem?_getD, List.getElem?_set]
  by_cases h : i = j
  · subst h
    by_cases h2 : i < cs.length
    · simp [h2]
    · simp [h2]
  · simp [h]
def AllR (cs : List C) : Prop := ∀ o ∈ cs, cright o = true
theorem allR_set {cs : List C} (h : AllR cs) {i : Nat} {o : C} (ho : cright o = true) : AllR (cs.set i o) := by
  intro x hx
  rcases List.mem_or_eq_of_mem_set hx with h1 | rfl
  · exact h x h1
  · exact ho
theorem cright_chr {x : Nat} (h : Att.char x = true) : cright (chr x) = true := by simp [cright, chr, h]
theorem ptext_allR (t : List Nat) : ∀ (st : List C × Nat), AllR st.1 → (∀ x ∈ t, Att.char x = true) → AllR (ptext st t).1 := by
  induction t with
  | nil => intro st h _; exact h
  | cons x t ih => intro st h h8; exact ih _ (allR_set h (cright_chr (h8 x (List.mem_cons_self ..)))) fun y hy => h8 y (List.mem_cons_of_mem _ hy)
theorem reps_allR (l : List Nat) {c : Nat} (hc : Att.char c = true) : ∀ (cs : List C), AllR cs → AllR (reps cs c l) := by
  induction l with
  | nil => intro cs h; exact h
  | cons i l ih => intro cs h; exact ih _ (allR_set h (cright_chr hc))
def Near (cs0 cs : List C) : Prop := cs.length = cs0.length ∧ ∀ i, cs.getD i noC = cs0.getD i noC ∨ (open_ cs0 i = true ∧ cs.getD i noC = { cs0.getD i noC with c := 0 })
theorem near_wipe1 {cs0 cs : List C} (h : Near cs0 cs) (i : Nat) : Near cs0 (wipe1 cs0 cs i) := by
  obtain ⟨hl, h⟩ := h
  refine ⟨(wipe1_length _ _ _).trans hl, fun j => ?_⟩
  unfold wipe1
  split
  · rename_i ho
    rw [getD_set]
    split
    · rename_i hij
      obtain ⟨rfl, _⟩ := hij
      refine .inr ⟨ho, ?_⟩
      rcases h i with h1 | ⟨_, h1⟩ <;> rw [h1]
    · exact h j
  · exact h j
theorem near_wipes (cs0 : List C) (l : List Nat) : ∀ (cs : List C), Near cs0 cs → Near cs0 (wipes cs0 cs l) := by
  induction l with
  | nil => intro cs h; exact h
  | cons i l ih => intro cs h; exact ih _ (near_wipe1 h i)
theorem near_refl (cs : List C) : Near cs cs := ⟨rfl, fun _ => .inl rfl⟩
theorem open_fat {cs : List C} {i : Nat} (h : open_ cs i = true) : (cs.getD i noC).f = false := by
  unfold open_ fat at h
  simp only [Bool.and_eq_true, Bool.not_eq_true'] at h
  exact h.1
theorem mem_getD {cs : List C} {o : C} (h : o ∈ cs) : ∃ i, i < cs.length ∧ cs.getD i noC = o := by
  obtain ⟨i, hi, rfl⟩ := List.getElem_of_mem h
  exact ⟨i, hi, by rw [List.getD_eq_getElem?_getD, List.getElem?_eq_getElem hi]; rfl⟩
theorem getD_mem {cs : List C} {i : Nat} (h : i < cs.length) : cs.getD i noC ∈ cs := by
  rw [List.getD_eq_getElem?_getD, List.getElem?_eq_getElem h]; exact List.getElem_mem h
theorem char_0 : Att.char 0 = true := by decide
theorem near_allR {cs0 cs : List C} (h : Near cs0 cs) (h0 : AllR cs0) : AllR cs := by
  intro o ho
  obtain ⟨i, hi, rfl⟩ := mem_getD ho
  rw [h.1] at hi
  have h1 := h0 _ (getD_mem hi)
  rcases h.2 i with e | ⟨ho, e⟩
  · rw [e]; exact h1
  · rw [e]
    have hf := open_fat ho
    generalize cs0.getD i noC = c at *
    obtain ⟨f, p, n, s, m, x⟩ := c
    simp only at hf
    subst hf
    simp only [cright, Bool.false_eq_true, if_false, Bool.and_eq_true] at h1 ⊢
    exact ⟨h1.1, char_0⟩
theorem pone_cells {s : S} {a : Nat} {o : O} (h : AllR s.cs) (hw : wrong o s.cs.length = 0) : AllR (pone s a o).1.cs := by
  rcases Ord.right_cases hw with ⟨t, rfl, _, ht⟩ | ⟨p, n, m, q, rfl, hq⟩ | ⟨b, rfl, hb⟩ | rfl | rfl | ⟨b, c, rfl, hb, hc⟩ | ⟨b, rfl, hb⟩
  · exact ptext_allR t (s.cs, a) h (by rw [List.all_eq_true] at ht; exact ht)
  · exact allR_set h (by simp [cright]; omega)
  · exact h
  · exact h
  · exact h
  · exact reps_allR _ hc _ h
  · exact near_allR (near_wipes _ _ _ (near_refl _)) h
theorem pone_cur {s : S} {a : Nat} {o : O} : (pone s a o).1.cur = if o.k = 4 then (a : Int) else s.cur := by
  unfold pone
  repeat' split
  all_goals first | rfl | omega
theorem pone_right {s : S} {a : Nat} {o : O} (h : sright s = true) (ha : a < s.cs.length) (hw : wrong o s.cs.length = 0) : sright (pone s a o).1 = true := by
  obtain ⟨h1, h2, h3, h4, h5⟩ := sright_parts h
  obtain ⟨g1, g2, g3, g4, g5⟩ := pone_rest s a o
  have hc := pone_cells (a := a) h5 hw
  have hcur := pone_cur (s := s) (a := a) (o := o)
  simp only [sright, Bool.and_eq_true, decide_eq_true_eq, List.all_eq_true]
  rw [g1, g2, g3, hcur]
  refine ⟨h1, h2, ?_, ?_, hc⟩
  · split <;> omega
  · split <;> omega
end Pnt
end Go.Proofs.YtpgbnnnfeaodmaaGreatDoor
/- What an answer of package paint is. -/
namespace Go.Proofs.YtpgbnnnfeaodmaaGreatDoor
open Go.RowKit Sha Six Apd Cut Err Att Grd Fld
set_option linter.unusedVariables false
namespace Pnt
def Done (w w' : World) (r : S × Nat) (e : Ending) : Prop := ∃ va vc, e = .returned (.tuple #[.agg #[.int .i64 r.1.rows, .int .i64 r.1.cols, .slice va r.1.cs.length vc, .int .i64 r.1.cur, .bool r.1.lk, .bool r.1.ins], .int .i64 (r.2 : Int)]) ∧ OwnCels w' w.heap.size (.slice va r.1.cs.length vc) r.1.cs ∧ Below w.heap.size w w'
end Pnt
end Go.Proofs.YtpgbnnnfeaodmaaGreatDoor
/- What the calls of package paint answer: a screen, a place and no error; or what is wrong. -/
namespace Go.Proofs.YtpgbnnnfeaodmaaGreatDoor
open Go.RowKit Sha Six Apd Cut Err Att Grd Fld
set_option linter.unusedVariables false
namespace Pnt
def Gave (w w' : World) (r : S × Nat) (e : Ending) : Prop := ∃ va vc, e = .returned (.tuple #[.agg #[.int .i64 r.1.rows, .int .i64 r.1.cols, .slice va r.1.cs.length vc, .int .i64 r.1.cur, .bool r.1.lk, .bool r.1.ins], .int .i64 (r.2 : Int), .nilIface]) ∧ OwnCels w' w.heap.size (.slice va r.1.cs.length vc) r.1.cs ∧ Below w.heap.size w w'
def Refused (w w' : World) (s : S) (a : Nat) (code wh : Int) (e : Ending) : Prop := ∃ va vc ev, e = .returned (.tuple #[.agg #[.int .i64 s.rows, .int .i64 s.cols, .slice va s.cs.length vc, .int .i64 s.cur, .bool s.lk, .bool s.ins], .int .i64 (a : Int), ev]) ∧ CelsIn w' (.slice va s.cs.length vc) s.cs ∧ Err.Told w' ev code wh ∧ Below w.heap.size w w'
theorem pall_right (os : List Go.Proofs.YtpgbnnnfeaodmaaGreatDoor.Ord.O) : ∀ (st : S × Nat), sright st.1 = true → st.2 < st.1.cs.length → (∀ o ∈ os, Go.Proofs.YtpgbnnnfeaodmaaGreatDoor.Ord.wrong o st.1.cs.length = 0) → sright (pall st os).1 = true := by
  induction os with
  | nil => intro st h _ _; exact h
  | cons o os ih =>
    intro st h ha hw
    have e : (pone1 st o).1.cs.length = st.1.cs.length := pone_length _ _ _
    have ho := hw o (List.mem_cons_self ..)
    exact ih (pone1 st o) (pone_right h ha ho) (by rw [e]; exact pone_lt ha ho) (by rw [e]; exact fun o' ho' => hw o' (List.mem_cons_of_mem _ ho'))
end Pnt
end Go.Proofs.YtpgbnnnfeaodmaaGreatDoor
/- A byte of a row; cells that stay where another block changes. -/
namespace Go.Proofs.YtpgbnnnfeaodmaaGreatDoor
open Go.RowKit Sha Six Apd Cut Err Att Grd Fld
set_option linter.unusedVariables false
namespace Pnt
theorem bytes_at {w : World} {g o n c : Nat} {xs : List Nat} (h : BytesIn w (.slice (some ⟨g, o, none⟩) n c) xs) {i : Nat} (hi : i < xs.length) : w.cell? ⟨g, o + i, none⟩ = some (.int .u8 ((xs.getD i 0 : Nat) : Int)) := by
  obtain ⟨ad, c2, hv, _, h1⟩ := h
  injection hv with e1 e2 e3
  rcases h1 with h1 | ⟨g2, o2, e, hc⟩
  · rw [h1] at hi; cases hi
  · subst e1; injection e with e; injection e with e4 e5; subst e4 e5; exact hc i hi
theorem celsIn_away {w w' : World} {ad : Option Addr} {n c g : Nat} {cs : List C} (h : CelsIn w (.slice ad n c) cs) (hg : w.grownBy w' (some g)) (hne : ∀ x, ad = some x → x.block ≠ g) : CelsIn w' (.slice ad n c) cs := by
  obtain ⟨ad2, cap, hv, hcap, hn, hc⟩ := h
  injection hv with e1 e2 e3
  subst e1
  subst e3
  refine ⟨_, _, by rw [e2], hcap, hn, ?_⟩
  rcases hc with h0 | ⟨b, off, h1, h2⟩
  · exact .inl h0
  · exact .inr ⟨b, off, h1, fun i hi j u hj => hg.cell (a := ⟨b, off + i * 6 + j, none⟩) (h2 i hi j u hj) (by intro e; injection e with e; exact hne _ h1 e)⟩
end Pnt
end Go.Proofs.YtpgbnnnfeaodmaaGreatDoor
/- The document's One of layer 12, kind by kind. Written by tools/gen_pnt_ref.py. -/
namespace Go.Proofs.YtpgbnnnfeaodmaaGreatDoor
open Go.RowKit Sha Six Apd Cut Err Att Grd Fld
set_option linter.unusedVariables false
namespace Pnt
set_option maxRecDepth 100000 in
set_option maxHeartbeats 8000000 in
theorem rone_1 (s : S) (ad : Option Addr) (k a : Nat) (ta : Option Addr) (tn tc : Nat) (t : List Nat) (p n : Bool) (q : Int) (m : Bool) (b : Int) (ch : Nat) (w : World) (h : CelsIn w (.slice ad s.cs.length k) s.cs) (hl : s.cs.length < 10000) (ha : a < s.cs.length) (hB : BytesIn w (.slice ta tn tc) t) (h8 : ∀ x ∈ t, x < 256) (htl : t.length < 1000000) (h0 : t ≠ []) :
    Calls Tryz.prog 95 #[.agg #[.int .i64 s.rows, .int .i64 s.cols, .slice ad s.cs.length k, .int .i64 s.cur, .bool s.lk, .bool s.ins], .int .i64 (a : Int), .agg #[.int .i64 1, .slice ta tn tc, .bool p, .bool n, .int .i64 q, .bool m, .int .i64 b, .int .u8 (ch : Int)]] w fun e w' => Done w w' (pone s a ⟨1, t, p, n, q, m, b, ch⟩) e := by
  obtain ⟨r, c, cs, cur, lk, ins⟩ := s
  simp only at *
  obtain ⟨ta1, tc1, hv, hcap, h1⟩ := hB
  injection hv with e1 e2 e3
  subst e1 e2 e3
  rcases h1 with h1 | ⟨gt, ot, rfl, hct⟩
  · exact absurd h1 h0
  have HT := Lib.hid (show BytesIn w (.slice (some ⟨gt, ot, none⟩) t.length tc) t from ⟨_, _, rfl, hcap, .inr ⟨gt, ot, rfl, hct⟩⟩)
  have HTL := Lib.hid htl
  have H8 := Lib.hid fun i => byte_lt h8 (by decide) i
  clear hct hcap h0 h8 htl
  have HB := Lib.hid (kept_trans (kept_trans (al_any w (.cells #[.int .i64 r, .int .i64 c, .slice ad cs.length k, .int .i64 cur, .bool lk, .bool ins] 24)) (al_any _ (.cells #[.int .i64 1, .slice (some ⟨gt, ot, none⟩) t.length tc, .bool p, .bool n, .int .i64 q, .bool m, .int .i64 b, .int .u8 (ch : Int)] 130))) (al_any _ (.cells #[.int .i64 0, .int .i64 0, .slice none 0 0, .int .i64 0, .bool false, .bool false] 24)))
  have HX := Lib.hid (heap_alloc3 w (.cells #[.int .i64 r, .int .i64 c, .slice ad cs.length k, .int .i64 cur, .bool lk, .bool ins] 24) (.cells #[.int .i64 1, .slice (some ⟨gt, ot, none⟩) t.length tc, .bool p, .bool n, .int .i64 q, .bool m, .int .i64 b, .int .u8 (ch : Int)] 130) (.cells #[.int .i64 0, .int .i64 0, .slice none 0 0, .int .i64 0, .bool false, .bool false] 24)).1
  have HY := Lib.hid (heap_alloc3 w (.cells #[.int .i64 r, .int .i64 c, .slice ad cs.length k, .int .i64 cur, .bool lk, .bool ins] 24) (.cells #[.int .i64 1, .slice (some ⟨gt, ot, none⟩) t.length tc, .bool p, .bool n, .int .i64 q, .bool m, .int .i64 b, .int .u8 (ch : Int)] 130) (.cells #[.int .i64 0, .int .i64 0, .slice none 0 0, .int .i64 0, .bool false, .bool false] 24)).2.1
  have HZ := Lib.hid (heap_alloc3 w (.cells #[.int .i64 r, .int .i64 c, .slice ad cs.length k, .int .i64 cur, .bool lk, .bool ins] 24) (.cells #[.int .i64 1, .slice (some ⟨gt, ot, none⟩) t.length tc, .bool p, .bool n, .int .i64 q, .bool m, .int .i64 b, .int .u8 (ch : Int)] 130) (.cells #[.int .i64 0, .int .i64 0, .slice none 0 0, .int .i64 0, .bool false, .bool false] 24)).2.2
  have HI := Lib.hid (h.below HB.out)
  have HC := Lib.hid fun W hb => rcopy_any ⟨r, c, cs, cur, lk, ins⟩ ad k W (HI.out.below hb) (by simp only; omega)
  simp only at HC
  have HL := Lib.hid hl
  have HA := Lib.hid ha
  have HP := Lib.hid (show 0 < cs.length from Nat.lt_of_le_of_lt (Nat.zero_le _) ha)
  have hlb : (cs.length : Int) < 10000 := by omega
  clear h hl ha
  go_enter Tryz.func95, Tryz.ntmps95
  go_upto_region 1 with (fail)
  generalize ((w.alloc _).alloc _).alloc _ = w1 at *
  obtain ⟨c0, c1, c2, c3, c4, c5⟩ := cells6 HX.out
  go_wp2_with fail
  with_reducible refine (HC.out _ (Below.refl _ _)).mono ?_
  rintro e w2 ⟨va, vc, rfl, ho, hb⟩
  clear c0 c1 c2 c3 c4 c5
  obtain ⟨g, vd, e1, hg1, hg2, _⟩ := OwnCels.at ho HP.out
  injection e1 with e1 e2 e3
  subst e1
  subst e3
  clear e2
  have hz0 := there_lt HZ.out
  have HA2 := al_any w2 (.cells #[.int .i64 r, .int .i64 c, .slice (some ⟨g, 0, none⟩) cs.length vc, .int .i64 cur, .bool lk, .bool ins] 24)
  have hlt2 : w1.heap.size ≤ w2.heap.size := hb.size
  have L3 := Lib.hid (heap_alloc_new w2 (.cells #[.int .i64 r, .int .i64 c, .slice (some ⟨g, 0, none⟩) cs.length vc, .int .i64 cur, .bool lk, .bool ins] 24))
  have X3 := Lib.hid (blk HX.out (kept_trans hb HA2))
  have Y3 := Lib.hid (blk HY.out (kept_trans hb HA2))
  have Z3 := Lib.hid (blk HZ.out (kept_trans hb HA2))
  have O3 := Lib.hid ((OwnCels.below ho HA2).mono HB.out.size)
  have K3 := Lib.hid (kept_trans HB.out (kept_trans hb HA2))
  have I3 := Lib.hid (HI.out.below (kept_trans hb HA2))
  clear HA2 ho hb HX HY HZ HC HB HI
  go_upto_region 2 with (fail)
  generalize w2.alloc _ = w3 at *
  have HG1 := Lib.hid (show w.heap.size + 2 < g from by omega)
  have HG2 := Lib.hid hg2
  clear hg1 hg2 hz0 hlt2
  generalize w2.heap.size = G at *
  obtain ⟨d0, d1, d2, d3, d4, d5, d6, d7⟩ := cells8 Y3.out
  obtain ⟨c0, c1, c2, c3, c4, c5⟩ := cells6 L3.out
  go_upto_region 4 with (fail)
  clear c0 c1 c2 c3 c4 c5 d0 d1 d2 d3 d4 d5 d6 d7
  go_wp2_with fail
  go_loopg [1, 9] (t.length + 1) (fun mm vv ii wr => ∃ x : Nat, x ≤ t.length ∧ mm = t.length + 1 - x ∧ ii = .int .i64 x ∧ vv = .int .i64 (((ptext (cs, a) (t.take x)).2 : Nat) : Int) ∧ Hid (OwnCels wr w.heap.size (.slice (some ⟨g, 0, none⟩) cs.length vc) (ptext (cs, a) (t.take x)).1) ∧ Hid (wr.heap[G]? = some (.cells #[.int .i64 r, .int .i64 c, .slice (some ⟨g, 0, none⟩) cs.length vc, .int .i64 cur, .bool lk, .bool ins] 24 (0, 0))) ∧ Hid (wr.heap[w.heap.size]? = some (.cells #[.int .i64 r, .int .i64 c, .slice ad cs.length k, .int .i64 cur, .bool lk, .bool ins] 24 (0, 0))) ∧ Hid (wr.heap[w.heap.size + 1]? = some (.cells #[.int .i64 1, .slice (some ⟨gt, ot, none⟩) t.length tc, .bool p, .bool n, .int .i64 q, .bool m, .int .i64 b, .int .u8 (ch : Int)] 130 (0, 0))) ∧ Hid (wr.heap[w.heap.size + 2]? = some (.cells #[.int .i64 0, .int .i64 0, .slice none 0 0, .int .i64 0, .bool false, .bool false] 24 (0, 0))) ∧ Hid (Below w.heap.size w wr))
  case atStart => exact ⟨0, Nat.zero_le _, rfl, rfl, rfl, O3, L3, X3, Y3, Z3, K3⟩
  case round =>
    obtain ⟨x, hx, rfl, rfl, rfl, O4, L4, X4, Y4, Z4, K4⟩ := hrel
    clear O3 L3 X3 Y3 Z3 K3 I3
    have ew : IntKind.i64.wrap ((x : Int) + 1) = (x : Int) + 1 := by
      have := HTL.out
      rw [IntWalk.i64_in] <;> omega
    obtain ⟨d0, d1, d2, d3, d4, d5, d6, d7⟩ := cells8 Y4.out
    obtain ⟨c0, c1, c2, c3, c4, c5⟩ := cells6 L4.out
    by_cases hlt : x < t.length
    · have HS := Lib.hid (ptext_take (cs, a) t hlt)
      have HN1 := Lib.hid (ptext_length (cs, a) (t.take x))
      have HN2 := Lib.hid (ptext_lt (cs, a) HA.out (t.take x))
      have c9 := bytes_at (bytes_below HT.out K4.out) hlt
      have hb8 := H8.out x
      generalize ptext (cs, a) (t.take x) = st at *
      obtain ⟨ds, pl⟩ := st
      simp only at HN1 HN2 O4
      generalize t.getD x 0 = y at *
      have hi0 : (0 : Int) ≤ (x : Int) := by omega
      have hi1 : (x : Int) < (t.length : Int) := by omega
      have hj0 : (0 : Int) ≤ (pl : Int) := by omega
      have hj1 : (pl : Int) < (cs.length : Int) := by have := HN2.out; omega
      have HLD := Lib.hid (show pl < ds.length from by rw [HN1.out]; exact HN2.out)
      obtain ⟨yf, yp, yn, ys, ym, yc, ey⟩ := c_eta ((ds).getD pl noC)
      obtain ⟨⟨p0, p1, p2, p3, p4, p5⟩, fz⟩ := OwnCels.spot O4.out HLD.out ey
      obtain ⟨q0, q1, q2, q3, q4, q5⟩ : wr.frozen? ⟨g, pl * 6, none⟩ = false ∧ wr.frozen? ⟨g, pl * 6 + 1, none⟩ = false ∧ wr.frozen? ⟨g, pl * 6 + 2, none⟩ = false ∧ wr.frozen? ⟨g, pl * 6 + 3, none⟩ = false ∧ wr.frozen? ⟨g, pl * 6 + 4, none⟩ = false ∧ wr.frozen? ⟨g, pl * 6 + 5, none⟩ = false := ⟨fz _, fz _, fz _, fz _, fz _, fz _⟩
      have SO := OwnCels.set O4.out HLD.out ⟨false, false, false, 0, false, y⟩
      have O5 := Lib.hid SO.1
      have L5 := Lib.hid (blk_g L4.out SO.2 (by intro e; injection e with e; have := HG2.out; omega))
      have X5 := Lib.hid (blk_g X4.out SO.2 (by intro e; injection e with e; have := HG1.out; omega))
      have Y5 := Lib.hid (blk_g Y4.out SO.2 (by intro e; injection e with e; have := HG1.out; omega))
      have Z5 := Lib.hid (blk_g Z4.out SO.2 (by intro e; injection e with e; have := HG1.out; omega))
      have K5 := Lib.hid (below_grown K4.out SO.2 (by have := HG1.out; omega))
      clear SO fz ey
      go_upto_region 6 with (fail)
      go_region
      clear c0 c1 c2 c3 c4 c5 d0 d1 d2 d3 d4 d5 d6 d7 c9 p0 p1 p2 p3 p4 p5 q0 q1 q2 q3 q4 q5 O4 L4 X4 Y4 Z4 K4
      generalize (((((wr.setCell _ _).setCell _ _).setCell _ _).setCell _ _).setCell _ _).setCell _ _ = wt at *
      have HD := (Below.refl wt.heap.size wt).drew
      have O6 := Lib.hid (OwnCels.below O5.out HD)
      have L6 := Lib.hid (blk L5.out HD)
      have X6 := Lib.hid (blk X5.out HD)
      have Y6 := Lib.hid (blk Y5.out HD)
      have Z6 := Lib.hid (blk Z5.out HD)
      have K6 := kept_hid K5 HD
      clear HD O5 L5 X5 Y5 Z5 K5
      generalize wt.drew = wd at *
      have HN := Lib.hid (rnext_any r c ad cs.length k cur lk ins pl wd HN2.out (by have := HL.out; omega))
      obtain ⟨c0, c1, c2, c3, c4, c5⟩ := cells6 X6.out
      go_wp2_with fail
      with_reducible refine HN.out.mono ?_
      rintro e we ⟨rfl, hb⟩
      have O7 := Lib.hid (OwnCels.below O6.out hb)
      have L7 := Lib.hid (blk L6.out hb)
      have X7 := Lib.hid (blk X6.out hb)
      have Y7 := Lib.hid (blk Y6.out hb)
      have Z7 := Lib.hid (blk Z6.out hb)
      have K7 := kept_hid K6 hb
      clear hb O6 L6 X6 Y6 Z6 K6 c0 c1 c2 c3 c4 c5
      go_wp2_with fail
      go_roundg (t.length + 1 - (x + 1))
      case measure => omega
      case rel => exact ⟨x + 1, by omega, rfl, rfl, by rw [HS.out]; simp [put1, HN1.out], by rw [HS.out]; exact O7, L7, X7, Y7, Z7, K7⟩
    · obtain rfl : x = t.length := by omega
      have hn0 : ¬ (t.length : Int) < (t.length : Int) := by omega
      have HN1 := Lib.hid (ptext_length (cs, a) t)
      rw [List.take_length] at *
      obtain ⟨f0, f1, f2, f3, f4, f5⟩ := free6 Z4.out
      obtain ⟨z0, z1, z2, z3, z4, z5⟩ := cells6 Z4.out
      have SF := Lib.hid (over6 wr (w.heap.size + 2) _ _ _ _ _ _ _ (.int .i64 r) (.int .i64 c) (.slice (some ⟨g, 0, none⟩) cs.length vc) (.int .i64 cur) (.bool lk) (.bool ins) Z4.out)
      clear hlt
      go_wp2_with fail
      clear z0 z1 z2 z3 z4 z5 c0 c1 c2 c3 c4 c5 f0 f1 f2 f3 f4 f5 d0 d1 d2 d3 d4 d5 d6 d7
      generalize (((((wr.setCell _ _).setCell _ _).setCell _ _).setCell _ _).setCell _ _).setCell _ _ = w9 at *
      exact bodyPost_ret (v := .tuple #[.agg #[.int .i64 r, .int .i64 c, .slice (some ⟨g, 0, none⟩) cs.length vc, .int .i64 cur, .bool lk, .bool ins], .int .i64 (((ptext (cs, a) t).2 : Nat) : Int)]) (results_cell_row_tmp rfl _ _ _ (w.heap.size + 2) _ rfl (run_loadVar_row _ (w.heap.size + 2) 24 24 _ (0, 0) _ SF.out.1 Tryz.underlying24 rfl (by kernel_rfl)) (.int .i64 (((ptext (cs, a) t).2 : Nat) : Int)) rfl) rfl ⟨some ⟨g, 0, none⟩, vc, by simp [pone, HN1.out], by simpa [pone, HN1.out] using OwnCels.away O4.out SF.out.2 (by have := HG1.out; simp [Value.ownBlock]; omega), below_grown K4.out SF.out.2 (by omega)⟩
set_option maxRecDepth 100000 in
set_option maxHeartbeats 8000000 in
theorem rone_2 (s : S) (ad : Option Addr) (k a : Nat) (ta : Option Addr) (tn tc : Nat) (t : List Nat) (p n : Bool) (q : Int) (m : Bool) (b : Int) (ch : Nat) (w : World) (h : CelsIn w (.slice ad s.cs.length k) s.cs) (hl : s.cs.length < 10000) (ha : a < s.cs.length) :
    Calls Tryz.prog 95 #[.agg #[.int .i64 s.rows, .int .i64 s.cols, .slice ad s.cs.length k, .int .i64 s.cur, .bool s.lk, .bool s.ins], .int .i64 (a : Int), .agg #[.int .i64 2, .slice ta tn tc, .bool p, .bool n, .int .i64 q, .bool m, .int .i64 b, .int .u8 (ch : Int)]] w fun e w' => Done w w' (pone s a ⟨2, t, p, n, q, m, b, ch⟩) e := by
  obtain ⟨r, c, cs, cur, lk, ins⟩ := s
  simp only at *
  have HB := Lib.hid (kept_trans (kept_trans (al_any w (.cells #[.int .i64 r, .int .i64 c, .slice ad cs.length k, .int .i64 cur, .bool lk, .bool ins] 24)) (al_any _ (.cells #[.int .i64 2, .slice ta tn tc, .bool p, .bool n, .int .i64 q, .bool m, .int .i64 b, .int .u8 (ch : Int)] 130))) (al_any _ (.cells #[.int .i64 0, .int .i64 0, .slice none 0 0, .int .i64 0, .bool false, .bool false] 24)))
  have HX := Lib.hid (heap_alloc3 w (.cells #[.int .i64 r, .int .i64 c, .slice ad cs.length k, .int .i64 cur, .bool lk, .bool ins] 24) (.cells #[.int .i64 2, .slice ta tn tc, .bool p, .bool n, .int .i64 q, .bool m, .int .i64 b, .int .u8 (ch : Int)] 130) (.cells #[.int .i64 0, .int .i64 0, .slice none 0 0, .int .i64 0, .bool false, .bool false] 24)).1
  have HY := Lib.hid (heap_alloc3 w (.cells #[.int .i64 r, .int .i64 c, .slice ad cs.length k, .int .i64 cur, .bool lk, .bool ins] 24) (.cells #[.int .i64 2, .slice ta tn tc, .bool p, .bool n, .int .i64 q, .bool m, .int .i64 b, .int .u8 (ch : Int)] 130) (.cells #[.int .i64 0, .int .i64 0, .slice none 0 0, .int .i64 0, .bool false, .bool false] 24)).2.1
  have HZ := Lib.hid (heap_alloc3 w (.cells #[.int .i64 r, .int .i64 c, .slice ad cs.length k, .int .i64 cur, .bool lk, .bool ins] 24) (.cells #[.int .i64 2, .slice ta tn tc, .bool p, .bool n, .int .i64 q, .bool m, .int .i64 b, .int .u8 (ch : Int)] 130) (.cells #[.int .i64 0, .int .i64 0, .slice none 0 0, .int .i64 0, .bool false, .bool false] 24)).2.2
  have HI := Lib.hid (h.below HB.out)
  have HC := Lib.hid fun W hb => rcopy_any ⟨r, c, cs, cur, lk, ins⟩ ad k W (HI.out.below hb) (by simp only; omega)
  simp only at HC
  have HL := Lib.hid hl
  have HA := Lib.hid ha
  have HP := Lib.hid (show 0 < cs.length from Nat.lt_of_le_of_lt (Nat.zero_le _) ha)
  have hlb : (cs.length : Int) < 10000 := by omega
  clear h hl ha
  go_enter Tryz.func95, Tryz.ntmps95
  go_upto_region 1 with (fail)
  generalize ((w.alloc _).alloc _).alloc _ = w1 at *
  obtain ⟨c0, c1, c2, c3, c4, c5⟩ := cells6 HX.out
  go_wp2_with fail
  with_reducible refine (HC.out _ (Below.refl _ _)).mono ?_
  rintro e w2 ⟨va, vc, rfl, ho, hb⟩
  clear c0 c1 c2 c3 c4 c5
  obtain ⟨g, vd, e1, hg1, hg2, _⟩ := OwnCels.at ho HP.out
  injection e1 with e1 e2 e3
  subst e1
  subst e3
  clear e2
  have hz0 := there_lt HZ.out
  have HA2 := al_any w2 (.cells #[.int .i64 r, .int .i64 c, .slice (some ⟨g, 0, none⟩) cs.length vc, .int .i64 cur, .bool lk, .bool ins] 24)
  have hlt2 : w1.heap.size ≤ w2.heap.size := hb.size
  have L3 := Lib.hid (heap_alloc_new w2 (.cells #[.int .i64 r, .int .i64 c, .slice (some ⟨g, 0, none⟩) cs.length vc, .int .i64 cur, .bool lk, .bool ins] 24))
  have X3 := Lib.hid (blk HX.out (kept_trans hb HA2))
  have Y3 := Lib.hid (blk HY.out (kept_trans hb HA2))
  have Z3 := Lib.hid (blk HZ.out (kept_trans hb HA2))
  have O3 := Lib.hid ((OwnCels.below ho HA2).mono HB.out.size)
  have K3 := Lib.hid (kept_trans HB.out (kept_trans hb HA2))
  have I3 := Lib.hid (HI.out.below (kept_trans hb HA2))
  clear HA2 ho hb HX HY HZ HC HB HI
  go_upto_region 2 with (fail)
  generalize w2.alloc _ = w3 at *
  have HG1 := Lib.hid (show w.heap.size + 2 < g from by omega)
  have HG2 := Lib.hid hg2
  clear hg1 hg2 hz0 hlt2
  generalize w2.heap.size = G at *
  obtain ⟨d0, d1, d2, d3, d4, d5, d6, d7⟩ := cells8 Y3.out
  have hi0 : (0 : Int) ≤ (a : Int) := by omega
  have hi1 : (a : Int) < (cs.length : Int) := by have := HA.out; omega
  obtain ⟨yf, yp, yn, ys, ym, yc, ey⟩ := c_eta ((cs).getD a noC)
  obtain ⟨⟨p0, p1, p2, p3, p4, p5⟩, fz⟩ := OwnCels.spot O3.out HA.out ey
  obtain ⟨q0, q1, q2, q3, q4, q5⟩ : w3.frozen? ⟨g, a * 6, none⟩ = false ∧ w3.frozen? ⟨g, a * 6 + 1, none⟩ = false ∧ w3.frozen? ⟨g, a * 6 + 2, none⟩ = false ∧ w3.frozen? ⟨g, a * 6 + 3, none⟩ = false ∧ w3.frozen? ⟨g, a * 6 + 4, none⟩ = false ∧ w3.frozen? ⟨g, a * 6 + 5, none⟩ = false := ⟨fz _, fz _, fz _, fz _, fz _, fz _⟩
  have SO := OwnCels.set O3.out HA.out ⟨true, p, n, q, m, 0⟩
  have O4 := Lib.hid SO.1
  have L4 := Lib.hid (blk_g L3.out SO.2 (by intro e; injection e with e; have := HG2.out; omega))
  have X4 := Lib.hid (blk_g X3.out SO.2 (by intro e; injection e with e; have := HG1.out; omega))
  have Y4 := Lib.hid (blk_g Y3.out SO.2 (by intro e; injection e with e; have := HG1.out; omega))
  have Z4 := Lib.hid (blk_g Z3.out SO.2 (by intro e; injection e with e; have := HG1.out; omega))
  have K4 := Lib.hid (below_grown K3.out SO.2 (by have := HG1.out; omega))
  clear SO fz ey
  obtain ⟨c0, c1, c2, c3, c4, c5⟩ := cells6 L3.out
  go_upto_region 11 with (fail)
  clear c0 c1 c2 c3 c4 c5 p0 p1 p2 p3 p4 p5 q0 q1 q2 q3 q4 q5 d0 d1 d2 d3 d4 d5 d6 d7 L3 X3 Y3 Z3 O3 K3
  generalize (((((w3.setCell _ _).setCell _ _).setCell _ _).setCell _ _).setCell _ _).setCell _ _ = w4 at *
  have HN := Lib.hid fun W => rnext_any r c ad cs.length k cur lk ins a W HA.out (by have := HL.out; omega)
  obtain ⟨x0, x1, x2, x3, x4, x5⟩ := cells6 X4.out
  obtain ⟨c0, c1, c2, c3, c4, c5⟩ := cells6 L4.out
  obtain ⟨f0, f1, f2, f3, f4, f5⟩ := free6 Z4.out
  obtain ⟨z0, z1, z2, z3, z4, z5⟩ := cells6 Z4.out
  go_region_with (go_at_call 47; with_reducible refine (HN.out _).mono ?_; rintro e wn ⟨rfl, hb⟩; first | (have hb2 : Below w4.drew.heap.size w4.drew wn := hb; obtain ⟨c0, c1, c2, c3, c4, c5⟩ := cells6 (blk (w := w4.drew) L4.out hb2); obtain ⟨f0, f1, f2, f3, f4, f5⟩ := free6 (blk (w := w4.drew) Z4.out hb2); obtain ⟨z0, z1, z2, z3, z4, z5⟩ := cells6 (blk (w := w4.drew) Z4.out hb2)) | skip)
  all_goals
    have hS := kept_trans ((Below.refl w4.heap.size w4).drew) hb2
    have O5 := Lib.hid (OwnCels.below O4.out hS)
    have Z5 := Lib.hid (blk Z4.out hS)
    have K5 := kept_hid K4 hS
    have SF := Lib.hid (over6 wn (w.heap.size + 2) _ _ _ _ _ _ _ (.int .i64 r) (.int .i64 c) (.slice (some ⟨g, 0, none⟩) cs.length vc) (.int .i64 cur) (.bool lk) (.bool ins) Z5.out)
    clear hS hb hb2 O4 Z4 K4 L4 X4 Y4 HN
    go_wp2_with fail
    clear z0 z1 z2 z3 z4 z5 c0 c1 c2 c3 c4 c5 f0 f1 f2 f3 f4 f5 x0 x1 x2 x3 x4 x5
    generalize (((((wn.setCell _ _).setCell _ _).setCell _ _).setCell _ _).setCell _ _).setCell _ _ = w9 at *
    exact bodyPost_ret (v := .tuple #[.agg #[.int .i64 r, .int .i64 c, .slice (some ⟨g, 0, none⟩) cs.length vc, .int .i64 cur, .bool lk, .bool ins], .int .i64 ((on cs.length (a : Int) 1 : Nat) : Int)]) (results_cell_row_tmp rfl _ _ _ (w.heap.size + 2) _ rfl (run_loadVar_row _ (w.heap.size + 2) 24 24 _ (0, 0) _ SF.out.1 Tryz.underlying24 rfl (by kernel_rfl)) (.int .i64 ((on cs.length (a : Int) 1 : Nat) : Int)) rfl) rfl ⟨some ⟨g, 0, none⟩, vc, by simp [pone], by simpa [pone] using OwnCels.away O5.out SF.out.2 (by have := HG1.out; simp [Value.ownBlock]; omega), below_grown K5.out SF.out.2 (by omega)⟩
set_option maxRecDepth 100000 in
set_option maxHeartbeats 8000000 in
theorem rone_3 (s : S) (ad : Option Addr) (k a : Nat) (ta : Option Addr) (tn tc : Nat) (t : List Nat) (p n : Bool) (q : Int) (m : Bool) (b : Nat) (ch : Nat) (w : World) (h : CelsIn w (.slice ad s.cs.length k) s.cs) (hl : s.cs.length < 10000) (ha : a < s.cs.length) :
    Calls Tryz.prog 95 #[.agg #[.int .i64 s.rows, .int .i64 s.cols, .slice ad s.cs.length k, .int .i64 s.cur, .bool s.lk, .bool s.ins], .int .i64 (a : Int), .agg #[.int .i64 3, .slice ta tn tc, .bool p, .bool n, .int .i64 q, .bool m, .int .i64 b, .int .u8 (ch : Int)]] w fun e w' => Done w w' (pone s a ⟨3, t, p, n, q, m, b, ch⟩) e := by
  obtain ⟨r, c, cs, cur, lk, ins⟩ := s
  simp only at *
  have HB := Lib.hid (kept_trans (kept_trans (al_any w (.cells #[.int .i64 r, .int .i64 c, .slice ad cs.length k, .int .i64 cur, .bool lk, .bool ins] 24)) (al_any _ (.cells #[.int .i64 3, .slice ta tn tc, .bool p, .bool n, .int .i64 q, .bool m, .int .i64 b, .int .u8 (ch : Int)] 130))) (al_any _ (.cells #[.int .i64 0, .int .i64 0, .slice none 0 0, .int .i64 0, .bool false, .bool false] 24)))
  have HX := Lib.hid (heap_alloc3 w (.cells #[.int .i64 r, .int .i64 c, .slice ad cs.length k, .int .i64 cur, .bool lk, .bool ins] 24) (.cells #[.int .i64 3, .slice ta tn tc, .bool p, .bool n, .int .i64 q, .bool m, .int .i64 b, .int .u8 (ch : Int)] 130) (.cells #[.int .i64 0, .int .i64 0, .slice none 0 0, .int .i64 0, .bool false, .bool false] 24)).1
  have HY := Lib.hid (heap_alloc3 w (.cells #[.int .i64 r, .int .i64 c, .slice ad cs.length k, .int .i64 cur, .bool lk, .bool ins] 24) (.cells #[.int .i64 3, .slice ta tn tc, .bool p, .bool n, .int .i64 q, .bool m, .int .i64 b, .int .u8 (ch : Int)] 130) (.cells #[.int .i64 0, .int .i64 0, .slice none 0 0, .int .i64 0, .bool false, .bool false] 24)).2.1
  have HZ := Lib.hid (heap_alloc3 w (.cells #[.int .i64 r, .int .i64 c, .slice ad cs.length k, .int .i64 cur, .bool lk, .bool ins] 24) (.cells #[.int .i64 3, .slice ta tn tc, .bool p, .bool n, .int .i64 q, .bool m, .int .i64 b, .int .u8 (ch : Int)] 130) (.cells #[.int .i64 0, .int .i64 0, .slice none 0 0, .int .i64 0, .bool false, .bool false] 24)).2.2
  have HI := Lib.hid (h.below HB.out)
  have HC := Lib.hid fun W hb => rcopy_any ⟨r, c, cs, cur, lk, ins⟩ ad k W (HI.out.below hb) (by simp only; omega)
  simp only at HC
  have HL := Lib.hid hl
  have HA := Lib.hid ha
  have HP := Lib.hid (show 0 < cs.length from Nat.lt_of_le_of_lt (Nat.zero_le _) ha)
  have hlb : (cs.length : Int) < 10000 := by omega
  clear h hl ha
  go_enter Tryz.func95, Tryz.ntmps95
  go_upto_region 1 with (fail)
  generalize ((w.alloc _).alloc _).alloc _ = w1 at *
  obtain ⟨c0, c1, c2, c3, c4, c5⟩ := cells6 HX.out
  go_wp2_with fail
  with_reducible refine (HC.out _ (Below.refl _ _)).mono ?_
  rintro e w2 ⟨va, vc, rfl, ho, hb⟩
  clear c0 c1 c2 c3 c4 c5
  obtain ⟨g, vd, e1, hg1, hg2, _⟩ := OwnCels.at ho HP.out
  injection e1 with e1 e2 e3
  subst e1
  subst e3
  clear e2
  have hz0 := there_lt HZ.out
  have HA2 := al_any w2 (.cells #[.int .i64 r, .int .i64 c, .slice (some ⟨g, 0, none⟩) cs.length vc, .int .i64 cur, .bool lk, .bool ins] 24)
  have hlt2 : w1.heap.size ≤ w2.heap.size := hb.size
  have L3 := Lib.hid (heap_alloc_new w2 (.cells #[.int .i64 r, .int .i64 c, .slice (some ⟨g, 0, none⟩) cs.length vc, .int .i64 cur, .bool lk, .bool ins] 24))
  have X3 := Lib.hid (blk HX.out (kept_trans hb HA2))
  have Y3 := Lib.hid (blk HY.out (kept_trans hb HA2))
  have Z3 := Lib.hid (blk HZ.out (kept_trans hb HA2))
  have O3 := Lib.hid ((OwnCels.below ho HA2).mono HB.out.size)
  have K3 := Lib.hid (kept_trans HB.out (kept_trans hb HA2))
  have I3 := Lib.hid (HI.out.below (kept_trans hb HA2))
  clear HA2 ho hb HX HY HZ HC HB HI
  go_upto_region 2 with (fail)
  generalize w2.alloc _ = w3 at *
  have HG1 := Lib.hid (show w.heap.size + 2 < g from by omega)
  have HG2 := Lib.hid hg2
  clear hg1 hg2 hz0 hlt2
  generalize w2.heap.size = G at *
  obtain ⟨d0, d1, d2, d3, d4, d5, d6, d7⟩ := cells8 Y3.out
  obtain ⟨c0, c1, c2, c3, c4, c5⟩ := cells6 L3.out
  obtain ⟨f0, f1, f2, f3, f4, f5⟩ := free6 Z3.out
  obtain ⟨z0, z1, z2, z3, z4, z5⟩ := cells6 Z3.out
  have SF := Lib.hid (over6 w3 (w.heap.size + 2) _ _ _ _ _ _ _ (.int .i64 r) (.int .i64 c) (.slice (some ⟨g, 0, none⟩) cs.length vc) (.int .i64 cur) (.bool lk) (.bool ins) Z3.out)
  go_upto_region 13 with (fail)
  go_region
  go_wp2_with fail
  clear z0 z1 z2 z3 z4 z5 c0 c1 c2 c3 c4 c5 f0 f1 f2 f3 f4 f5 d0 d1 d2 d3 d4 d5 d6 d7
  generalize (((((w3.setCell _ _).setCell _ _).setCell _ _).setCell _ _).setCell _ _).setCell _ _ = w9 at *
  exact bodyPost_ret (v := .tuple #[.agg #[.int .i64 r, .int .i64 c, .slice (some ⟨g, 0, none⟩) cs.length vc, .int .i64 cur, .bool lk, .bool ins], .int .i64 (b : Int)]) (results_cell_row_tmp rfl _ _ _ (w.heap.size + 2) _ rfl (run_loadVar_row _ (w.heap.size + 2) 24 24 _ (0, 0) _ (show w9.drew.heap[w.heap.size + 2]? = _ from SF.out.1) Tryz.underlying24 rfl (by kernel_rfl)) (.int .i64 (b : Int)) rfl) rfl ⟨_, _, rfl, OwnCels.below (OwnCels.away O3.out SF.out.2 (by have := HG1.out; simp [Value.ownBlock]; omega)) (Below.refl _ _).drew, (below_grown K3.out SF.out.2 (by omega)).drew⟩
set_option maxRecDepth 100000 in
set_option maxHeartbeats 8000000 in
theorem rone_4 (s : S) (ad : Option Addr) (k a : Nat) (ta : Option Addr) (tn tc : Nat) (t : List Nat) (p n : Bool) (q : Int) (m : Bool) (b : Int) (ch : Nat) (w : World) (h : CelsIn w (.slice ad s.cs.length k) s.cs) (hl : s.cs.length < 10000) (ha : a < s.cs.length) :
    Calls Tryz.prog 95 #[.agg #[.int .i64 s.rows, .int .i64 s.cols, .slice ad s.cs.length k, .int .i64 s.cur, .bool s.lk, .bool s.ins], .int .i64 (a : Int), .agg #[.int .i64 4, .slice ta tn tc, .bool p, .bool n, .int .i64 q, .bool m, .int .i64 b, .int .u8 (ch : Int)]] w fun e w' => Done w w' (pone s a ⟨4, t, p, n, q, m, b, ch⟩) e := by
  obtain ⟨r, c, cs, cur, lk, ins⟩ := s
  simp only at *
  have HB := Lib.hid (kept_trans (kept_trans (al_any w (.cells #[.int .i64 r, .int .i64 c, .slice ad cs.length k, .int .i64 cur, .bool lk, .bool ins] 24)) (al_any _ (.cells #[.int .i64 4, .slice ta tn tc, .bool p, .bool n, .int .i64 q, .bool m, .int .i64 b, .int .u8 (ch : Int)] 130))) (al_any _ (.cells #[.int .i64 0, .int .i64 0, .slice none 0 0, .int .i64 0, .bool false, .bool false] 24)))
  have HX := Lib.hid (heap_alloc3 w (.cells #[.int .i64 r, .int .i64 c, .slice ad cs.length k, .int .i64 cur, .bool lk, .bool ins] 24) (.cells #[.int .i64 4, .slice ta tn tc, .bool p, .bool n, .int .i64 q, .bool m, .int .i64 b, .int .u8 (ch : Int)] 130) (.cells #[.int .i64 0, .int .i64 0, .slice none 0 0, .int .i64 0, .bool false, .bool false] 24)).1
  have HY := Lib.hid (heap_alloc3 w (.cells #[.int .i64 r, .int .i64 c, .slice ad cs.length k, .int .i64 cur, .bool lk, .bool ins] 24) (.cells #[.int .i64 4, .slice ta tn tc, .bool p, .bool n, .int .i64 q, .bool m, .int .i64 b, .int .u8 (ch : Int)] 130) (.cells #[.int .i64 0, .int .i64 0, .slice none 0 0, .int .i64 0, .bool false, .bool false] 24)).2.1
  have HZ := Lib.hid (heap_alloc3 w (.cells #[.int .i64 r, .int .i64 c, .slice ad cs.length k, .int .i64 cur, .bool lk, .bool ins] 24) (.cells #[.int .i64 4, .slice ta tn tc, .bool p, .bool n, .int .i64 q, .bool m, .int .i64 b, .int .u8 (ch : Int)] 130) (.cells #[.int .i64 0, .int .i64 0, .slice none 0 0, .int .i64 0, .bool false, .bool false] 24)).2.2
  have HI := Lib.hid (h.below HB.out)
  have HC := Lib.hid fun W hb => rcopy_any ⟨r, c, cs, cur, lk, ins⟩ ad k W (HI.out.below hb) (by simp only; omega)
  simp only at HC
  have HL := Lib.hid hl
  have HA := Lib.hid ha
  have HP := Lib.hid (show 0 < cs.length from Nat.lt_of_le_of_lt (Nat.zero_le _) ha)
  have hlb : (cs.length : Int) < 10000 := by omega
  clear h hl ha
  go_enter Tryz.func95, Tryz.ntmps95
  go_upto_region 1 with (fail)
  generalize ((w.alloc _).alloc _).alloc _ = w1 at *
  obtain ⟨c0, c1, c2, c3, c4, c5⟩ := cells6 HX.out
  go_wp2_with fail
  with_reducible refine (HC.out _ (Below.refl _ _)).mono ?_
  rintro e w2 ⟨va, vc, rfl, ho, hb⟩
  clear c0 c1 c2 c3 c4 c5
  obtain ⟨g, vd, e1, hg1, hg2, _⟩ := OwnCels.at ho HP.out
  injection e1 with e1 e2 e3
  subst e1
  subst e3
  clear e2
  have hz0 := there_lt HZ.out
  have HA2 := al_any w2 (.cells #[.int .i64 r, .int .i64 c, .slice (some ⟨g, 0, none⟩) cs.length vc, .int .i64 cur, .bool lk, .bool ins] 24)
  have hlt2 : w1.heap.size ≤ w2.heap.size := hb.size
  have L3 := Lib.hid (heap_alloc_new w2 (.cells #[.int .i64 r, .int .i64 c, .slice (some ⟨g, 0, none⟩) cs.length vc, .int .i64 cur, .bool lk, .bool ins] 24))
  have X3 := Lib.hid (blk HX.out (kept_trans hb HA2))
  have Y3 := Lib.hid (blk HY.out (kept_trans hb HA2))
  have Z3 := Lib.hid (blk HZ.out (kept_trans hb HA2))
  have O3 := Lib.hid ((OwnCels.below ho HA2).mono HB.out.size)
  have K3 := Lib.hid (kept_trans HB.out (kept_trans hb HA2))
  have I3 := Lib.hid (HI.out.below (kept_trans hb HA2))
  clear HA2 ho hb HX HY HZ HC HB HI
  go_upto_region 2 with (fail)
  generalize w2.alloc _ = w3 at *
  have HG1 := Lib.hid (show w.heap.size + 2 < g from by omega)
  have HG2 := Lib.hid hg2
  clear hg1 hg2 hz0 hlt2
  generalize w2.heap.size = G at *
  obtain ⟨d0, d1, d2, d3, d4, d5, d6, d7⟩ := cells8 Y3.out
  obtain ⟨c0, c1, c2, c3, c4, c5⟩ := cells6 L3.out
  obtain ⟨f0, f1, f2, f3, f4, f5⟩ := free6 L3.out
  have L4 := Lib.hid (heap_setCell_same w3 G 3 _ 24 (.int .i64 (a : Int)) L3.out)
  have G4 := gsetCell w3 G 3 (.int .i64 (a : Int))
  have Z4 := Lib.hid (blk_g Z3.out G4 (by intro e; injection e with e; have := HG1.out; have := HG2.out; omega))
  have O4 := Lib.hid (OwnCels.away O3.out G4 (by have := HG2.out; simp [Value.ownBlock]; omega))
  have K4 := Lib.hid (below_grown K3.out G4 (by have := HG1.out; have := HG2.out; omega))
  clear G4
  go_upto_region 16 with (fail)
  clear c0 c1 c2 c3 c4 c5 f0 f1 f2 f3 f4 f5 L3 Z3 O3 K3
  generalize w3.setCell _ _ = w4 at *
  obtain ⟨c0, c1, c2, c3, c4, c5⟩ := cells6 L4.out
  obtain ⟨f0, f1, f2, f3, f4, f5⟩ := free6 Z4.out
  obtain ⟨z0, z1, z2, z3, z4, z5⟩ := cells6 Z4.out
  have SF := Lib.hid (over6 w4 (w.heap.size + 2) _ _ _ _ _ _ _ (.int .i64 r) (.int .i64 c) (.slice (some ⟨g, 0, none⟩) cs.length vc) (.int .i64 a) (.bool lk) (.bool ins) Z4.out)
  go_wp2_with fail
  clear z0 z1 z2 z3 z4 z5 c0 c1 c2 c3 c4 c5 f0 f1 f2 f3 f4 f5 d0 d1 d2 d3 d4 d5 d6 d7
  generalize (((((w4.setCell _ _).setCell _ _).setCell _ _).setCell _ _).setCell _ _).setCell _ _ = w9 at *
  exact bodyPost_ret (v := .tuple #[.agg #[.int .i64 r, .int .i64 c, .slice (some ⟨g, 0, none⟩) cs.length vc, .int .i64 (a : Int), .bool lk, .bool ins], .int .i64 (a : Int)]) (results_cell_row_tmp rfl _ _ _ (w.heap.size + 2) _ rfl (run_loadVar_row _ (w.heap.size + 2) 24 24 _ (0, 0) _ SF.out.1 Tryz.underlying24 rfl (by kernel_rfl)) (.int .i64 (a : Int)) rfl) rfl ⟨_, _, rfl, OwnCels.away O4.out SF.out.2 (by have := HG1.out; simp [Value.ownBlock]; omega), below_grown K4.out SF.out.2 (by omega)⟩
set_option maxRecDepth 100000 in
set_option maxHeartbeats 8000000 in
theorem rone_5 (s : S) (ad : Option Addr) (k a : Nat) (ta : Option Addr) (tn tc : Nat) (t : List Nat) (p n : Bool) (q : Int) (m : Bool) (b : Int) (ch : Nat) (w : World) (h : CelsIn w (.slice ad s.cs.length k) s.cs) (hl : s.cs.length < 10000) (ha : a < s.cs.length) :
    Calls Tryz.prog 95 #[.agg #[.int .i64 s.rows, .int .i64 s.cols, .slice ad s.cs.length k, .int .i64 s.cur, .bool s.lk, .bool s.ins], .int .i64 (a : Int), .agg #[.int .i64 5, .slice ta tn tc, .bool p, .bool n, .int .i64 q, .bool m, .int .i64 b, .int .u8 (ch : Int)]] w fun e w' => Done w w' (pone s a ⟨5, t, p, n, q, m, b, ch⟩) e := by
  obtain ⟨r, c, cs, cur, lk, ins⟩ := s
  simp only at *
  have HB := Lib.hid (kept_trans (kept_trans (al_any w (.cells #[.int .i64 r, .int .i64 c, .slice ad cs.length k, .int .i64 cur, .bool lk, .bool ins] 24)) (al_any _ (.cells #[.int .i64 5, .slice ta tn tc, .bool p, .bool n, .int .i64 q, .bool m, .int .i64 b, .int .u8 (ch : Int)] 130))) (al_any _ (.cells #[.int .i64 0, .int .i64 0, .slice none 0 0, .int .i64 0, .bool false, .bool false] 24)))
  have HX := Lib.hid (heap_alloc3 w (.cells #[.int .i64 r, .int .i64 c, .slice ad cs.length k, .int .i64 cur, .bool lk, .bool ins] 24) (.cells #[.int .i64 5, .slice ta tn tc, .bool p, .bool n, .int .i64 q, .bool m, .int .i64 b, .int .u8 (ch : Int)] 130) (.cells #[.int .i64 0, .int .i64 0, .slice none 0 0, .int .i64 0, .bool false, .bool false] 24)).1
  have HY := Lib.hid (heap_alloc3 w (.cells #[.int .i64 r, .int .i64 c, .slice ad cs.length k, .int .i64 cur, .bool lk, .bool ins] 24) (.cells #[.int .i64 5, .slice ta tn tc, .bool p, .bool n, .int .i64 q, .bool m, .int .i64 b, .int .u8 (ch : Int)] 130) (.cells #[.int .i64 0, .int .i64 0, .slice none 0 0, .int .i64 0, .bool false, .bool false] 24)).2.1
  have HZ := Lib.hid (heap_alloc3 w (.cells #[.int .i64 r, .int .i64 c, .slice ad cs.length k, .int .i64 cur, .bool lk, .bool ins] 24) (.cells #[.int .i64 5, .slice ta tn tc, .bool p, .bool n, .int .i64 q, .bool m, .int .i64 b, .int .u8 (ch : Int)] 130) (.cells #[.int .i64 0, .int .i64 0, .slice none 0 0, .int .i64 0, .bool false, .bool false] 24)).2.2
  have HI := Lib.hid (h.below HB.out)
  have HC := Lib.hid fun W hb => rcopy_any ⟨r, c, cs, cur, lk, ins⟩ ad k W (HI.out.below hb) (by simp only; omega)
  simp only at HC
  have HL := Lib.hid hl
  have HA := Lib.hid ha
  have HP := Lib.hid (show 0 < cs.length from Nat.lt_of_le_of_lt (Nat.zero_le _) ha)
  have hlb : (cs.length : Int) < 10000 := by omega
  clear h hl ha
  go_enter Tryz.func95, Tryz.ntmps95
  go_upto_region 1 with (fail)
  generalize ((w.alloc _).alloc _).alloc _ = w1 at *
  obtain ⟨c0, c1, c2, c3, c4, c5⟩ := cells6 HX.out
  go_wp2_with fail
  with_reducible refine (HC.out _ (Below.refl _ _)).mono ?_
  rintro e w2 ⟨va, vc, rfl, ho, hb⟩
  clear c0 c1 c2 c3 c4 c5
  obtain ⟨g, vd, e1, hg1, hg2, _⟩ := OwnCels.at ho HP.out
  injection e1 with e1 e2 e3
  subst e1
  subst e3
  clear e2
  have hz0 := there_lt HZ.out
  have HA2 := al_any w2 (.cells #[.int .i64 r, .int .i64 c, .slice (some ⟨g, 0, none⟩) cs.length vc, .int .i64 cur, .bool lk, .bool ins] 24)
  have hlt2 : w1.heap.size ≤ w2.heap.size := hb.size
  have L3 := Lib.hid (heap_alloc_new w2 (.cells #[.int .i64 r, .int .i64 c, .slice (some ⟨g, 0, none⟩) cs.length vc, .int .i64 cur, .bool lk, .bool ins] 24))
  have X3 := Lib.hid (blk HX.out (kept_trans hb HA2))
  have Y3 := Lib.hid (blk HY.out (kept_trans hb HA2))
  have Z3 := Lib.hid (blk HZ.out (kept_trans hb HA2))
  have O3 := Lib.hid ((OwnCels.below ho HA2).mono HB.out.size)
  have K3 := Lib.hid (kept_trans HB.out (kept_trans hb HA2))
  have I3 := Lib.hid (HI.out.below (kept_trans hb HA2))
  clear HA2 ho hb HX HY HZ HC HB HI
  go_upto_region 2 with (fail)
  generalize w2.alloc _ = w3 at *
  have HG1 := Lib.hid (show w.heap.size + 2 < g from by omega)
  have HG2 := Lib.hid hg2
  clear hg1 hg2 hz0 hlt2
  generalize w2.heap.size = G at *
  obtain ⟨d0, d1, d2, d3, d4, d5, d6, d7⟩ := cells8 Y3.out
  obtain ⟨c0, c1, c2, c3, c4, c5⟩ := cells6 L3.out
  go_upto_region 19 with (fail)
  clear c0 c1 c2 c3 c4 c5 d0 d1 d2 d3 d4 d5 d6 d7
  go_wp2_with fail
  go_loopg [10] (cs.length + 1 - a) (fun mm ii wr => ∃ x : Nat, a ≤ x ∧ x ≤ cs.length ∧ mm = cs.length + 1 - x ∧ ii = .int .i64 x ∧ Hid (∀ j, a ≤ j → j < x → opener cs j = false) ∧ Hid (OwnCels wr w.heap.size (.slice (some ⟨g, 0, none⟩) cs.length vc) cs) ∧ Hid (wr.heap[G]? = some (.cells #[.int .i64 r, .int .i64 c, .slice (some ⟨g, 0, none⟩) cs.length vc, .int .i64 cur, .bool lk, .bool ins] 24 (0, 0))) ∧ Hid (wr.heap[w.heap.size]? = some (.cells #[.int .i64 r, .int .i64 c, .slice ad cs.length k, .int .i64 cur, .bool lk, .bool ins] 24 (0, 0))) ∧ Hid (wr.heap[w.heap.size + 1]? = some (.cells #[.int .i64 5, .slice ta tn tc, .bool p, .bool n, .int .i64 q, .bool m, .int .i64 b, .int .u8 (ch : Int)] 130 (0, 0))) ∧ Hid (wr.heap[w.heap.size + 2]? = some (.cells #[.int .i64 0, .int .i64 0, .slice none 0 0, .int .i64 0, .bool false, .bool false] 24 (0, 0))) ∧ Hid (Below w.heap.size w wr) ∧ Hid (CelsIn wr (.slice ad cs.length k) cs))
  case atStart => exact ⟨a, Nat.le_refl _, Nat.le_of_lt HA.out, rfl, rfl, Lib.hid fun j h1 h2 => absurd h1 (by omega), O3, L3, X3, Y3, Z3, K3, I3⟩
  case round =>
    obtain ⟨x, hax, hx, rfl, rfl, HF, O4, L4, X4, Y4, Z4, K4, I4⟩ := hrel
    clear O3 L3 X3 Y3 Z3 K3 I3
    have ew : IntKind.i64.wrap ((x : Int) + 1) = (x : Int) + 1 := by
      have := HL.out
      rw [IntWalk.i64_in] <;> omega
    obtain ⟨c0, c1, c2, c3, c4, c5⟩ := cells6 X4.out
    by_cases hlt : x < cs.length
    · have HN := Lib.hid (rnext_any r c ad cs.length k cur lk ins x wr hlt (by have := HL.out; omega))
      have hi0 : (0 : Int) ≤ (x : Int) := by omega
      have hi1 : (x : Int) < (cs.length : Int) := by omega
      go_wp2_with fail
      with_reducible refine HN.out.mono ?_
      rintro e we ⟨rfl, hb⟩
      have O7 := Lib.hid (OwnCels.below O4.out hb)
      have L7 := Lib.hid (blk L4.out hb)
      have X7 := Lib.hid (blk X4.out hb)
      have Y7 := Lib.hid (blk Y4.out hb)
      have Z7 := Lib.hid (blk Z4.out hb)
      have K7 := kept_hid K4 hb
      have I7 := Lib.hid (I4.out.below hb)
      clear hb O4 L4 X4 Y4 Z4 K4 I4 c0 c1 c2 c3 c4 c5 HN
      obtain ⟨c0, c1, c2, c3, c4, c5⟩ := cells6 X7.out
      obtain ⟨l0, l1, l2, l3, l4, l5⟩ := cells6 L7.out
      obtain ⟨f0, f1, f2, f3, f4, f5⟩ := free6 Z7.out
      obtain ⟨z0, z1, z2, z3, z4, z5⟩ := cells6 Z7.out
      have SF := Lib.hid (over6 we (w.heap.size + 2) _ _ _ _ _ _ _ (.int .i64 r) (.int .i64 c) (.slice (some ⟨g, 0, none⟩) cs.length vc) (.int .i64 cur) (.bool lk) (.bool ins) Z7.out)
      have HIX := Lib.hid (on_lt HP.out (x : Int) 1)
      obtain ⟨xf, xp, xn, xs, xm, xc, ex⟩ := c_eta (cs.getD x noC)
      obtain ⟨yf, yp, yn, ys, ym, yc, ey⟩ := c_eta (cs.getD (on cs.length x 1) noC)
      obtain ⟨b1, o1, rfl, g0, g1, g2, g3, g4, g5⟩ := I7.out.cells hlt ex
      obtain ⟨b2, o2, hbo, p0, p1, p2, p3, p4, p5⟩ := I7.out.cells HIX.out ey
      injection hbo with hbo
      injection hbo with hb1 hb2
      subst hb1
      subst hb2
      have HE := Lib.hid (opener_of ex ey)
      have HTA := Lib.hid fun h3 => tabTo_at hax hlt h3 HF.out
      clear ex ey
      generalize on cs.length (x : Int) 1 = ix at *
      have hj0 : (0 : Int) ≤ (ix : Int) := by omega
      have hj1 : (ix : Int) < (cs.length : Int) := by have := HIX.out; omega
      cases xf <;> cases xp <;> cases yf
      case true.false.false =>
        have HT := Lib.hid (HTA.out HE.out)
        clear HTA HE HF
        go_wp2_with fail
        clear l0 l1 l2 l3 l4 l5 c0 c1 c2 c3 c4 c5 z0 z1 z2 z3 z4 z5 f0 f1 f2 f3 f4 f5 g0 g1 g2 g3 g4 g5 p0 p1 p2 p3 p4 p5
        generalize (((((we.setCell _ _).setCell _ _).setCell _ _).setCell _ _).setCell _ _).setCell _ _ = w9 at *
        exact bodyPost_ret (v := .tuple #[.agg #[.int .i64 r, .int .i64 c, .slice (some ⟨g, 0, none⟩) cs.length vc, .int .i64 cur, .bool lk, .bool ins], .int .i64 (ix : Int)]) (results_cell_row_tmp rfl _ _ _ (w.heap.size + 2) _ rfl (run_loadVar_row _ (w.heap.size + 2) 24 24 _ (0, 0) _ SF.out.1 Tryz.underlying24 rfl (by kernel_rfl)) (.int .i64 (ix : Int)) rfl) rfl ⟨some ⟨g, 0, none⟩, vc, by simp [pone, HT.out], by simpa [pone] using OwnCels.away O7.out SF.out.2 (by have := HG1.out; simp [Value.ownBlock]; omega), below_grown K7.out SF.out.2 (by omega)⟩
      all_goals
        have HF2 := Lib.hid (show ∀ j, a ≤ j → j < x + 1 → opener cs j = false from fun j h1 h2 => by
          rcases Nat.lt_or_ge j x with h3 | h3
          · exact HF.out j h1 h3
          · obtain rfl : j = x := by omega
            exact HE.out)
        clear HTA HE HF SF l0 l1 l2 l3 l4 l5 z0 z1 z2 z3 z4 z5 f0 f1 f2 f3 f4 f5
        go_wp2_with fail
        go_roundg (cs.length + 1 - (x + 1))
        case measure => omega
        case rel => exact ⟨x + 1, by omega, by omega, rfl, rfl, HF2, O7, L7, X7, Y7, Z7, K7, I7⟩
    · obtain rfl : x = cs.length := by omega
      have hn0 : ¬ (cs.length : Int) < (cs.length : Int) := by omega
      have HT := Lib.hid (tabTo_no fun i h1 h2 => HF.out i h1 h2)
      obtain ⟨l0, l1, l2, l3, l4, l5⟩ := cells6 L4.out
      obtain ⟨f0, f1, f2, f3, f4, f5⟩ := free6 Z4.out
      obtain ⟨z0, z1, z2, z3, z4, z5⟩ := cells6 Z4.out
      have SF := Lib.hid (over6 wr (w.heap.size + 2) _ _ _ _ _ _ _ (.int .i64 r) (.int .i64 c) (.slice (some ⟨g, 0, none⟩) cs.length vc) (.int .i64 cur) (.bool lk) (.bool ins) Z4.out)
      clear hlt HF
      go_wp2_with fail
      clear z0 z1 z2 z3 z4 z5 c0 c1 c2 c3 c4 c5 f0 f1 f2 f3 f4 f5 l0 l1 l2 l3 l4 l5
      generalize (((((wr.setCell _ _).setCell _ _).setCell _ _).setCell _ _).setCell _ _).setCell _ _ = w9 at *
      exact bodyPost_ret (v := .tuple #[.agg #[.int .i64 r, .int .i64 c, .slice (some ⟨g, 0, none⟩) cs.length vc, .int .i64 cur, .bool lk, .bool ins], .int .i64 0]) (results_cell_row_tmp rfl _ _ _ (w.heap.size + 2) _ rfl (run_loadVar_row _ (w.heap.size + 2) 24 24 _ (0, 0) _ SF.out.1 Tryz.underlying24 rfl (by kernel_rfl)) (.int .i64 0) rfl) rfl ⟨some ⟨g, 0, none⟩, vc, by simp [pone, HT.out], by simpa [pone] using OwnCels.away O4.out SF.out.2 (by have := HG1.out; simp [Value.ownBlock]; omega), below_grown K4.out SF.out.2 (by omega)⟩
set_option maxRecDepth 100000 in
set_option maxHeartbeats 8000000 in
theorem rone_6 (s : S) (ad : Option Addr) (k a : Nat) (ta : Option Addr) (tn tc : Nat) (t : List Nat) (p n : Bool) (q : Int) (m : Bool) (b : Nat) (ch : Nat) (w : World) (h : CelsIn w (.slice ad s.cs.length k) s.cs) (hl : s.cs.length < 10000) (ha : a < s.cs.length) (hb : b < s.cs.length) (hch : ch < 256) :
    Calls Tryz.prog 95 #[.agg #[.int .i64 s.rows, .int .i64 s.cols, .slice ad s.cs.length k, .int .i64 s.cur, .bool s.lk, .bool s.ins], .int .i64 (a : Int), .agg #[.int .i64 6, .slice ta tn tc, .bool p, .bool n, .int .i64 q, .bool m, .int .i64 b, .int .u8 (ch : Int)]] w fun e w' => Done w w' (pone s a ⟨6, t, p, n, q, m, b, ch⟩) e := by
  obtain ⟨r, c, cs, cur, lk, ins⟩ := s
  simp only at *
  have HB := Lib.hid (kept_trans (kept_trans (al_any w (.cells #[.int .i64 r, .int .i64 c, .slice ad cs.length k, .int .i64 cur, .bool lk, .bool ins] 24)) (al_any _ (.cells #[.int .i64 6, .slice ta tn tc, .bool p, .bool n, .int .i64 q, .bool m, .int .i64 b, .int .u8 (ch : Int)] 130))) (al_any _ (.cells #[.int .i64 0, .int .i64 0, .slice none 0 0, .int .i64 0, .bool false, .bool false] 24)))
  have HX := Lib.hid (heap_alloc3 w (.cells #[.int .i64 r, .int .i64 c, .slice ad cs.length k, .int .i64 cur, .bool lk, .bool ins] 24) (.cells #[.int .i64 6, .slice ta tn tc, .bool p, .bool n, .int .i64 q, .bool m, .int .i64 b, .int .u8 (ch : Int)] 130) (.cells #[.int .i64 0, .int .i64 0, .slice none 0 0, .int .i64 0, .bool false, .bool false] 24)).1
  have HY := Lib.hid (heap_alloc3 w (.cells #[.int .i64 r, .int .i64 c, .slice ad cs.length k, .int .i64 cur, .bool lk, .bool ins] 24) (.cells #[.int .i64 6, .slice ta tn tc, .bool p, .bool n, .int .i64 q, .bool m, .int .i64 b, .int .u8 (ch : Int)] 130) (.cells #[.int .i64 0, .int .i64 0, .slice none 0 0, .int .i64 0, .bool false, .bool false] 24)).2.1
  have HZ := Lib.hid (heap_alloc3 w (.cells #[.int .i64 r, .int .i64 c, .slice ad cs.length k, .int .i64 cur, .bool lk, .bool ins] 24) (.cells #[.int .i64 6, .slice ta tn tc, .bool p, .bool n, .int .i64 q, .bool m, .int .i64 b, .int .u8 (ch : Int)] 130) (.cells #[.int .i64 0, .int .i64 0, .slice none 0 0, .int .i64 0, .bool false, .bool false] 24)).2.2
  have HI := Lib.hid (h.below HB.out)
  have HC := Lib.hid fun W hb => rcopy_any ⟨r, c, cs, cur, lk, ins⟩ ad k W (HI.out.below hb) (by simp only; omega)
  simp only at HC
  have HBL := Lib.hid hb
  have HL := Lib.hid hl
  have HA := Lib.hid ha
  have HP := Lib.hid (show 0 < cs.length from Nat.lt_of_le_of_lt (Nat.zero_le _) ha)
  have hlb : (cs.length : Int) < 10000 := by omega
  clear h hl ha hb
  go_enter Tryz.func95, Tryz.ntmps95
  go_upto_region 1 with (fail)
  generalize ((w.alloc _).alloc _).alloc _ = w1 at *
  obtain ⟨c0, c1, c2, c3, c4, c5⟩ := cells6 HX.out
  go_wp2_with fail
  with_reducible refine (HC.out _ (Below.refl _ _)).mono ?_
  rintro e w2 ⟨va, vc, rfl, ho, hb⟩
  clear c0 c1 c2 c3 c4 c5
  obtain ⟨g, vd, e1, hg1, hg2, _⟩ := OwnCels.at ho HP.out
  injection e1 with e1 e2 e3
  subst e1
  subst e3
  clear e2
  have hz0 := there_lt HZ.out
  have HA2 := al_any w2 (.cells #[.int .i64 r, .int .i64 c, .slice (some ⟨g, 0, none⟩) cs.length vc, .int .i64 cur, .bool lk, .bool ins] 24)
  have hlt2 : w1.heap.size ≤ w2.heap.size := hb.size
  have L3 := Lib.hid (heap_alloc_new w2 (.cells #[.int .i64 r, .int .i64 c, .slice (some ⟨g, 0, none⟩) cs.length vc, .int .i64 cur, .bool lk, .bool ins] 24))
  have X3 := Lib.hid (blk HX.out (kept_trans hb HA2))
  have Y3 := Lib.hid (blk HY.out (kept_trans hb HA2))
  have Z3 := Lib.hid (blk HZ.out (kept_trans hb HA2))
  have O3 := Lib.hid ((OwnCels.below ho HA2).mono HB.out.size)
  have K3 := Lib.hid (kept_trans HB.out (kept_trans hb HA2))
  have I3 := Lib.hid (HI.out.below (kept_trans hb HA2))
  clear HA2 ho hb HX HY HZ HC HB HI
  go_upto_region 2 with (fail)
  generalize w2.alloc _ = w3 at *
  have HG1 := Lib.hid (show w.heap.size + 2 < g from by omega)
  have HG2 := Lib.hid hg2
  clear hg1 hg2 hz0 hlt2
  generalize w2.heap.size = G at *
  obtain ⟨d0, d1, d2, d3, d4, d5, d6, d7⟩ := cells8 Y3.out
  obtain ⟨x0, x1, x2, x3, x4, x5⟩ := cells6 X3.out
  have HS := Lib.hid (rspan_any r c ad cs.length k cur lk ins a b w3 HA.out HBL.out (by have := HL.out; omega))
  have HGW := Lib.hid (there_lt L3.out)
  go_wp2_with fail
  with_reducible refine HS.out.mono ?_
  rintro e w4 ⟨v, rfl, hv, hb⟩
  clear x0 x1 x2 x3 x4 x5 d0 d1 d2 d3 d4 d5 d6 d7 HS
  have HSP := Lib.hid (fun i (h : i < spanLen cs.length a b) => span_getD (z := cs.length) (a := (a : Int)) (b := (b : Int)) h)
  have HSN := Lib.hid (span_length cs.length a b)
  have HSZ := Lib.hid (spanLen_pos (z := cs.length) HP.out (a : Int) (b : Int))
  have HSL := Lib.hid (show ∀ i, i < (span cs.length a b).length → (span cs.length a b).getD i 0 < cs.length from fun i hi => by
    rw [HSN.out] at hi
    rw [HSP.out i hi]; exact on_lt HP.out _ _)
  have HSM := Lib.hid (show 0 < (span cs.length a b).length ∧ (span cs.length a b).length ≤ cs.length from by rw [HSN.out]; exact HSZ.out)
  clear HSP HSN HSZ
  generalize hsp : span cs.length (a : Int) (b : Int) = sp at *
  replace hsp := Lib.hid hsp
  obtain ⟨av, vsp, rfl⟩ := hv.form
  obtain ⟨u, rfl, hu1, hu2, _, _⟩ := OwnInts.cell hv HSM.out.1
  have HU := Lib.hid (show G < u from by have := HGW.out; omega)
  have V4 := Lib.hid hv
  have O4 := Lib.hid (OwnCels.below O3.out hb)
  have L4 := Lib.hid (blk L3.out hb)
  have X4 := Lib.hid (blk X3.out hb)
  have Y4 := Lib.hid (blk Y3.out hb)
  have Z4 := Lib.hid (blk Z3.out hb)
  have K4 := kept_hid K3 hb
  have I4 := Lib.hid (I3.out.below hb)
  have hs1 : (0 : Int) < (sp.length : Int) := by have := HSM.out.1; omega
  have hs2 : (sp.length : Int) < 10000 := by have := HSM.out.2; omega
  clear hb hv O3 L3 X3 Y3 Z3 K3 I3 hu1 hu2
  go_wp2_with fail
  go_loopg [13] (sp.length + 1) (fun mm ii wr => ∃ x : Nat, x ≤ sp.length ∧ mm = sp.length + 1 - x ∧ ii = .int .i64 x ∧ Hid (OwnCels wr w.heap.size (.slice (some ⟨g, 0, none⟩) cs.length vc) (reps cs ch (sp.take x))) ∧ Hid (wr.heap[G]? = some (.cells #[.int .i64 r, .int .i64 c, .slice (some ⟨g, 0, none⟩) cs.length vc, .int .i64 cur, .bool lk, .bool ins] 24 (0, 0))) ∧ Hid (wr.heap[w.heap.size]? = some (.cells #[.int .i64 r, .int .i64 c, .slice ad cs.length k, .int .i64 cur, .bool lk, .bool ins] 24 (0, 0))) ∧ Hid (wr.heap[w.heap.size + 1]? = some (.cells #[.int .i64 6, .slice ta tn tc, .bool p, .bool n, .int .i64 q, .bool m, .int .i64 b, .int .u8 (ch : Int)] 130 (0, 0))) ∧ Hid (wr.heap[w.heap.size + 2]? = some (.cells #[.int .i64 0, .int .i64 0, .slice none 0 0, .int .i64 0, .bool false, .bool false] 24 (0, 0))) ∧ Hid (Below w.heap.size w wr) ∧ Hid (OwnInts wr w3.heap.size (.slice (some ⟨u, 0, none⟩) sp.length vsp) sp))
  case atStart => exact ⟨0, Nat.zero_le _, rfl, rfl, O4, L4, X4, Y4, Z4, K4, V4⟩
  case round =>
    obtain ⟨x, hx, rfl, rfl, O5, L5, X5, Y5, Z5, K5, V5⟩ := hrel
    clear O4 L4 X4 Y4 Z4 K4 V4 I4
    have ew : IntKind.i64.wrap ((x : Int) + 1) = (x : Int) + 1 := by
      rw [IntWalk.i64_in] <;> omega
    obtain ⟨d0, d1, d2, d3, d4, d5, d6, d7⟩ := cells8 Y5.out
    obtain ⟨c0, c1, c2, c3, c4, c5⟩ := cells6 L5.out
    by_cases hlt : x < sp.length
    · have HQ := Lib.hid (reps_take cs ch sp hlt)
      have HN1 := Lib.hid (reps_length cs ch (sp.take x))
      obtain ⟨_, e1, hu3, hu4, du, _⟩ := OwnInts.cell V5.out hlt
      injection e1 with e1
      injection e1 with e1
      subst e1
      rw [Nat.zero_add] at du
      have HPL := Lib.hid (HSL.out x hlt)
      generalize reps cs ch (sp.take x) = ds at *
      generalize hpl : sp.getD x 0 = pl at *
      replace hpl := Lib.hid hpl
      have hi0 : (0 : Int) ≤ (x : Int) := by omega
      have hi1 : (x : Int) < (sp.length : Int) := by omega
      have hj0 : (0 : Int) ≤ (pl : Int) := by omega
      have hj1 : (pl : Int) < (cs.length : Int) := by have := HPL.out; omega
      have HLD := Lib.hid (show pl < ds.length from by rw [HN1.out]; exact HPL.out)
      obtain ⟨yf, yp, yn, ys, ym, yc, ey⟩ := c_eta ((ds).getD pl noC)
      obtain ⟨⟨p0, p1, p2, p3, p4, p5⟩, fz⟩ := OwnCels.spot O5.out HLD.out ey
      obtain ⟨q0, q1, q2, q3, q4, q5⟩ : wr.frozen? ⟨g, pl * 6, none⟩ = false ∧ wr.frozen? ⟨g, pl * 6 + 1, none⟩ = false ∧ wr.frozen? ⟨g, pl * 6 + 2, none⟩ = false ∧ wr.frozen? ⟨g, pl * 6 + 3, none⟩ = false ∧ wr.frozen? ⟨g, pl * 6 + 4, none⟩ = false ∧ wr.frozen? ⟨g, pl * 6 + 5, none⟩ = false := ⟨fz _, fz _, fz _, fz _, fz _, fz _⟩
      have SO := OwnCels.set O5.out HLD.out ⟨false, false, false, 0, false, ch⟩
      have O6 := Lib.hid SO.1
      have L6 := Lib.hid (blk_g L5.out SO.2 (by intro e; injection e with e; have := HG2.out; omega))
      have X6 := Lib.hid (blk_g X5.out SO.2 (by intro e; injection e with e; have := HG1.out; omega))
      have Y6 := Lib.hid (blk_g Y5.out SO.2 (by intro e; injection e with e; have := HG1.out; omega))
      have Z6 := Lib.hid (blk_g Z5.out SO.2 (by intro e; injection e with e; have := HG1.out; omega))
      have K6 := Lib.hid (below_grown K5.out SO.2 (by have := HG1.out; omega))
      have V6 := Lib.hid (World.ownsRow.kept V5.out SO.2 (.inr (by have := HG2.out; have := HU.out; simp [Value.ownBlock]; omega)))
      clear SO fz ey
      go_upto_region 30 with (fail)
      go_region
      clear c0 c1 c2 c3 c4 c5 d0 d1 d2 d3 d4 d5 d6 d7 du p0 p1 p2 p3 p4 p5 q0 q1 q2 q3 q4 q5 O5 L5 X5 Y5 Z5 K5 V5
      generalize (((((wr.setCell _ _).setCell _ _).setCell _ _).setCell _ _).setCell _ _).setCell _ _ = wt at *
      have HD := (Below.refl wt.heap.size wt).drew
      have O7 := Lib.hid (OwnCels.below O6.out HD)
      have L7 := Lib.hid (blk L6.out HD)
      have X7 := Lib.hid (blk X6.out HD)
      have Y7 := Lib.hid (blk Y6.out HD)
      have Z7 := Lib.hid (blk Z6.out HD)
      have K7 := kept_hid K6 HD
      have V7 := Lib.hid (OwnInts.below V6.out HD)
      clear HD O6 L6 X6 Y6 Z6 K6 V6
      generalize wt.drew = wd at *
      go_wp2_with fail
      go_roundg (sp.length + 1 - (x + 1))
      case measure => omega
      case rel => exact ⟨x + 1, by omega, rfl, rfl, by rw [HQ.out]; exact O7, L7, X7, Y7, Z7, K7, V7⟩
    · obtain rfl : x = sp.length := by omega
      have hn0 : ¬ (sp.length : Int) < (sp.length : Int) := by omega
      rw [List.take_length] at *
      have HN1 := Lib.hid (reps_length cs ch sp)
      obtain ⟨f0, f1, f2, f3, f4, f5⟩ := free6 Z5.out
      obtain ⟨z0, z1, z2, z3, z4, z5⟩ := cells6 Z5.out
      have SF := Lib.hid (over6 wr (w.heap.size + 2) _ _ _ _ _ _ _ (.int .i64 r) (.int .i64 c) (.slice (some ⟨g, 0, none⟩) cs.length vc) (.int .i64 cur) (.bool lk) (.bool ins) Z5.out)
      clear hlt
      go_upto_region 33 with (fail)
      go_region
      go_wp2_with fail
      clear z0 z1 z2 z3 z4 z5 c0 c1 c2 c3 c4 c5 f0 f1 f2 f3 f4 f5 d0 d1 d2 d3 d4 d5 d6 d7
      generalize (((((wr.setCell _ _).setCell _ _).setCell _ _).setCell _ _).setCell _ _).setCell _ _ = w9 at *
      exact bodyPost_ret (v := .tuple #[.agg #[.int .i64 r, .int .i64 c, .slice (some ⟨g, 0, none⟩) cs.length vc, .int .i64 cur, .bool lk, .bool ins], .int .i64 (b : Int)]) (results_cell_row_tmp rfl _ _ _ (w.heap.size + 2) _ rfl (run_loadVar_row _ (w.heap.size + 2) 24 24 _ (0, 0) _ (show w9.drew.heap[w.heap.size + 2]? = _ from SF.out.1) Tryz.underlying24 rfl (by kernel_rfl)) (.int .i64 (b : Int)) rfl) rfl ⟨some ⟨g, 0, none⟩, vc, by simp [pone, hsp.out, HN1.out], by simpa [pone, hsp.out, HN1.out] using OwnCels.below (OwnCels.away O5.out SF.out.2 (by have := HG1.out; simp [Value.ownBlock]; omega)) (Below.refl _ _).drew, (below_grown K5.out SF.out.2 (by omega)).drew⟩
set_option maxRecDepth 100000 in
set_option maxHeartbeats 8000000 in
theorem rone_7 (s : S) (ad : Option Addr) (k a : Nat) (ta : Option Addr) (tn tc : Nat) (t : List Nat) (p n : Bool) (q : Int) (m : Bool) (b : Nat) (ch : Nat) (w : World) (h : CelsIn w (.slice ad s.cs.length k) s.cs) (hl : s.cs.length < 10000) (ha : a < s.cs.length) (hb : b < s.cs.length) :
    Calls Tryz.prog 95 #[.agg #[.int .i64 s.rows, .int .i64 s.cols, .slice ad s.cs.length k, .int .i64 s.cur, .bool s.lk, .bool s.ins], .int .i64 (a : Int), .agg #[.int .i64 7, .slice ta tn tc, .bool p, .bool n, .int .i64 q, .bool m, .int .i64 b, .int .u8 (ch : Int)]] w fun e w' => Done w w' (pone s a ⟨7, t, p, n, q, m, b, ch⟩) e := by
  obtain ⟨r, c, cs, cur, lk, ins⟩ := s
  simp only at *
  have HB := Lib.hid (kept_trans (kept_trans (al_any w (.cells #[.int .i64 r, .int .i64 c, .slice ad cs.length k, .int .i64 cur, .bool lk, .bool ins] 24)) (al_any _ (.cells #[.int .i64 7, .slice ta tn tc, .bool p, .bool n, .int .i64 q, .bool m, .int .i64 b, .int .u8 (ch : Int)] 130))) (al_any _ (.cells #[.int .i64 0, .int .i64 0, .slice none 0 0, .int .i64 0, .bool false, .bool false] 24)))
  have HX := Lib.hid (heap_alloc3 w (.cells #[.int .i64 r, .int .i64 c, .slice ad cs.length k, .int .i64 cur, .bool lk, .bool ins] 24) (.cells #[.int .i64 7, .slice ta tn tc, .bool p, .bool n, .int .i64 q, .bool m, .int .i64 b, .int .u8 (ch : Int)] 130) (.cells #[.int .i64 0, .int .i64 0, .slice none 0 0, .int .i64 0, .bool false, .bool false] 24)).1
  have HY := Lib.hid (heap_alloc3 w (.cells #[.int .i64 r, .int .i64 c, .slice ad cs.length k, .int .i64 cur, .bool lk, .bool ins] 24) (.cells #[.int .i64 7, .slice ta tn tc, .bool p, .bool n, .int .i64 q, .bool m, .int .i64 b, .int .u8 (ch : Int)] 130) (.cells #[.int .i64 0, .int .i64 0, .slice none 0 0, .int .i64 0, .bool false, .bool false] 24)).2.1
  have HZ := Lib.hid (heap_alloc3 w (.cells #[.int .i64 r, .int .i64 c, .slice ad cs.length k, .int .i64 cur, .bool lk, .bool ins] 24) (.cells #[.int .i64 7, .slice ta tn tc, .bool p, .bool n, .int .i64 q, .bool m, .int .i64 b, .int .u8 (ch : Int)] 130) (.cells #[.int .i64 0, .int .i64 0, .slice none 0 0, .int .i64 0, .bool false, .bool false] 24)).2.2
  have HI := Lib.hid (h.below HB.out)
  have HC := Lib.hid fun W hb => rcopy_any ⟨r, c, cs, cur, lk, ins⟩ ad k W (HI.out.below hb) (by simp only; omega)
  simp only at HC
  have HI0 := Lib.hid h
  have HBL := Lib.hid hb
  have HL := Lib.hid hl
  have HA := Lib.hid ha
  have HP := Lib.hid (show 0 < cs.length from Nat.lt_of_le_of_lt (Nat.zero_le _) ha)
  have hlb : (cs.length : Int) < 10000 := by omega
  clear h hl ha hb
  go_enter Tryz.func95, Tryz.ntmps95
  go_upto_region 1 with (fail)
  generalize ((w.alloc _).alloc _).alloc _ = w1 at *
  obtain ⟨c0, c1, c2, c3, c4, c5⟩ := cells6 HX.out
  go_wp2_with fail
  with_reducible refine (HC.out _ (Below.refl _ _)).mono ?_
  rintro e w2 ⟨va, vc, rfl, ho, hb⟩
  clear c0 c1 c2 c3 c4 c5
  obtain ⟨g, vd, e1, hg1, hg2, _⟩ := OwnCels.at ho HP.out
  injection e1 with e1 e2 e3
  subst e1
  subst e3
  clear e2
  have hz0 := there_lt HZ.out
  have HA2 := al_any w2 (.cells #[.int .i64 r, .int .i64 c, .slice (some ⟨g, 0, none⟩) cs.length vc, .int .i64 cur, .bool lk, .bool ins] 24)
  have hlt2 : w1.heap.size ≤ w2.heap.size := hb.size
  have L3 := Lib.hid (heap_alloc_new w2 (.cells #[.int .i64 r, .int .i64 c, .slice (some ⟨g, 0, none⟩) cs.length vc, .int .i64 cur, .bool lk, .bool ins] 24))
  have X3 := Lib.hid (blk HX.out (kept_trans hb HA2))
  have Y3 := Lib.hid (blk HY.out (kept_trans hb HA2))
  have Z3 := Lib.hid (blk HZ.out (kept_trans hb HA2))
  have O3 := Lib.hid ((OwnCels.below ho HA2).mono HB.out.size)
  have K3 := Lib.hid (kept_trans HB.out (kept_trans hb HA2))
  have I3 := Lib.hid (HI.out.below (kept_trans hb HA2))
  clear HA2 ho hb HX HY HZ HC HB HI
  go_upto_region 2 with (fail)
  generalize w2.alloc _ = w3 at *
  have HG1 := Lib.hid (show w.heap.size + 2 < g from by omega)
  have HG2 := Lib.hid hg2
  clear hg1 hg2 hz0 hlt2
  generalize w2.heap.size = G at *
  obtain ⟨d0, d1, d2, d3, d4, d5, d6, d7⟩ := cells8 Y3.out
  obtain ⟨x0, x1, x2, x3, x4, x5⟩ := cells6 X3.out
  have HS := Lib.hid (rspan_any r c ad cs.length k cur lk ins a b w3 HA.out HBL.out (by have := HL.out; omega))
  have HGW := Lib.hid (there_lt L3.out)
  go_wp2_with fail
  with_reducible refine HS.out.mono ?_
  rintro e w4 ⟨v, rfl, hv, hb⟩
  clear x0 x1 x2 x3 x4 x5 d0 d1 d2 d3 d4 d5 d6 d7 HS
  have HSP := Lib.hid (fun i (h : i < spanLen cs.length a b) => span_getD (z := cs.length) (a := (a : Int)) (b := (b : Int)) h)
  have HSN := Lib.hid (span_length cs.length a b)
  have HSZ := Lib.hid (spanLen_pos (z := cs.length) HP.out (a : Int) (b : Int))
  have HSL := Lib.hid (show ∀ i, i < (span cs.length a b).length → (span cs.length a b).getD i 0 < cs.length from fun i hi => by
    rw [HSN.out] at hi
    rw [HSP.out i hi]; exact on_lt HP.out _ _)
  have HSM := Lib.hid (show 0 < (span cs.length a b).length ∧ (span cs.length a b).length ≤ cs.length from by rw [HSN.out]; exact HSZ.out)
  clear HSP HSN HSZ
  generalize hsp : span cs.length (a : Int) (b : Int) = sp at *
  replace hsp := Lib.hid hsp
  obtain ⟨av, vsp, rfl⟩ := hv.form
  obtain ⟨u, rfl, hu1, hu2, _, _⟩ := OwnInts.cell hv HSM.out.1
  have HU := Lib.hid (show G < u from by have := HGW.out; omega)
  have V4 := Lib.hid hv
  have O4 := Lib.hid (OwnCels.below O3.out hb)
  have L4 := Lib.hid (blk L3.out hb)
  have X4 := Lib.hid (blk X3.out hb)
  have Y4 := Lib.hid (blk Y3.out hb)
  have Z4 := Lib.hid (blk Z3.out hb)
  have K4 := kept_hid K3 hb
  have I4 := Lib.hid (I3.out.below hb)
  have hs1 : (0 : Int) < (sp.length : Int) := by have := HSM.out.1; omega
  have hs2 : (sp.length : Int) < 10000 := by have := HSM.out.2; omega
  clear hb hv O3 L3 X3 Y3 Z3 K3 I3 hu1 hu2
  go_wp2_with fail
  go_loopg [13] (sp.length + 1) (fun mm ii wr => ∃ x : Nat, x ≤ sp.length ∧ mm = sp.length + 1 - x ∧ ii = .int .i64 x ∧ Hid (OwnCels wr w.heap.size (.slice (some ⟨g, 0, none⟩) cs.length vc) (wipes cs cs (sp.take x))) ∧ Hid (wr.heap[G]? = some (.cells #[.int .i64 r, .int .i64 c, .slice (some ⟨g, 0, none⟩) cs.length vc, .int .i64 cur, .bool lk, .bool ins] 24 (0, 0))) ∧ Hid (wr.heap[w.heap.size]? = some (.cells #[.int .i64 r, .int .i64 c, .slice ad cs.length k, .int .i64 cur, .bool lk, .bool ins] 24 (0, 0))) ∧ Hid (wr.heap[w.heap.size + 1]? = some (.cells #[.int .i64 7, .slice ta tn tc, .bool p, .bool n, .int .i64 q, .bool m, .int .i64 b, .int .u8 (ch : Int)] 130 (0, 0))) ∧ Hid (wr.heap[w.heap.size + 2]? = some (.cells #[.int .i64 0, .int .i64 0, .slice none 0 0, .int .i64 0, .bool false, .bool false] 24 (0, 0))) ∧ Hid (Below w.heap.size w wr) ∧ Hid (OwnInts wr w3.heap.size (.slice (some ⟨u, 0, none⟩) sp.length vsp) sp) ∧ Hid (CelsIn wr (.slice ad cs.length k) cs))
  case atStart => exact ⟨0, Nat.zero_le _, rfl, rfl, O4, L4, X4, Y4, Z4, K4, V4, I4⟩
  case round =>
    obtain ⟨x, hx, rfl, rfl, O5, L5, X5, Y5, Z5, K5, V5, I5⟩ := hrel
    clear O4 L4 X4 Y4 Z4 K4 V4 I4
    have ew : IntKind.i64.wrap ((x : Int) + 1) = (x : Int) + 1 := by
      rw [IntWalk.i64_in] <;> omega
    obtain ⟨d0, d1, d2, d3, d4, d5, d6, d7⟩ := cells8 Y5.out
    obtain ⟨c0, c1, c2, c3, c4, c5⟩ := cells6 L5.out
    by_cases hlt : x < sp.length
    · have HQ := Lib.hid (wipes_take cs cs sp hlt)
      have HN1 := Lib.hid (wipes_length cs cs (sp.take x))
      obtain ⟨_, e1, hu3, hu4, du, _⟩ := OwnInts.cell V5.out hlt
      injection e1 with e1
      injection e1 with e1
      subst e1
      rw [Nat.zero_add] at du
      have HPL := Lib.hid (HSL.out x hlt)
      generalize wipes cs cs (sp.take x) = ds at *
      generalize hpl : sp.getD x 0 = pl at *
      replace hpl := Lib.hid hpl
      have hi0 : (0 : Int) ≤ (x : Int) := by omega
      have hi1 : (x : Int) < (sp.length : Int) := by omega
      have hj0 : (0 : Int) ≤ (pl : Int) := by omega
      have hj1 : (pl : Int) < (cs.length : Int) := by have := HPL.out; omega
      have HLD := Lib.hid (show pl < ds.length from by rw [HN1.out]; exact HPL.out)
      have HO := Lib.hid (ropen_any ⟨r, c, cs, cur, lk, ins⟩ ad k pl wr.drew (I5.out.below (Below.refl _ _).drew) HP.out (by have := HL.out; simp only; omega) HPL.out)
      simp only at HO
      obtain ⟨x0, x1, x2, x3, x4, x5⟩ := cells6 X5.out
      go_upto_region 31 with (fail)
      go_still_tail 5, (by kernel_rfl)
      change wpList _ _ _ _ _ wr.drew
      go_wp2_with fail
      with_reducible refine HO.out.mono ?_
      rintro e we ⟨rfl, hb⟩
      replace hb := kept_trans ((Below.refl wr.heap.size wr).drew) hb
      have O6 := Lib.hid (OwnCels.below O5.out hb)
      have L6 := Lib.hid (blk L5.out hb)
      have X6 := Lib.hid (blk X5.out hb)
      have Y6 := Lib.hid (blk Y5.out hb)
      have Z6 := Lib.hid (blk Z5.out hb)
      have K6 := kept_hid K5 hb
      have V6 := Lib.hid (OwnInts.below V5.out hb)
      have I6 := Lib.hid (I5.out.below hb)
      clear hb HO O5 L5 X5 Y5 Z5 K5 V5 I5 x0 x1 x2 x3 x4 x5 c0 c1 c2 c3 c4 c5 d0 d1 d2 d3 d4 d5 d6 d7 du hu3 hu4
      cases hop : open_ cs pl with
      | false =>
        have HQ2 := Lib.hid (show wipes cs cs (sp.take (x + 1)) = ds from by rw [HQ.out]; simp [wipe1, hop])
        clear hop HQ
        go_wp2_with fail
        go_roundg (sp.length + 1 - (x + 1))
        case measure => omega
        case rel => exact ⟨x + 1, by omega, rfl, rfl, by rw [HQ2.out]; exact O6, L6, X6, Y6, Z6, K6, V6, I6⟩
      | true =>
        have HQ2 := Lib.hid (show wipes cs cs (sp.take (x + 1)) = ds.set pl { ds.getD pl noC with c := 0 } from by rw [HQ.out]; simp [wipe1, hop])
        clear hop HQ
        obtain ⟨_, e1, hu3, hu4, du, _⟩ := OwnInts.cell V6.out hlt
        injection e1 with e1
        injection e1 with e1
        subst e1
        rw [Nat.zero_add, hpl.out] at du
        obtain ⟨c0, c1, c2, c3, c4, c5⟩ := cells6 L6.out
        obtain ⟨yf, yp, yn, ys, ym, yc, ey⟩ := c_eta (ds.getD pl noC)
        obtain ⟨⟨_, _, _, _, _, p5⟩, fz⟩ := OwnCels.spot O6.out HLD.out ey
        have q5 := fz (pl * 6 + 5)
        have SO := OwnCels.setc O6.out HLD.out 0
        rw [show ((0 : Nat) : Int) = 0 from rfl] at SO
        have O7 := Lib.hid SO.1
        have V7 := Lib.hid (World.ownsRow.kept V6.out SO.2 (.inr (by have := HG2.out; have := HU.out; simp [Value.ownBlock]; omega)))
        have L7 := Lib.hid (blk_g L6.out SO.2 (by intro e; injection e with e; have := HG2.out; omega))
        have X7 := Lib.hid (blk_g X6.out SO.2 (by intro e; injection e with e; have := HG1.out; omega))
        have Y7 := Lib.hid (blk_g Y6.out SO.2 (by intro e; injection e with e; have := HG1.out; omega))
        have Z7 := Lib.hid (blk_g Z6.out SO.2 (by intro e; injection e with e; have := HG1.out; omega))
        have K7 := Lib.hid (below_grown K6.out SO.2 (by have := HG1.out; omega))
        clear SO fz ey
        have I7 := Lib.hid (HI0.out.below K7.out)
        go_upto_region 32 with (fail)
        go_region
        clear c0 c1 c2 c3 c4 c5 du hu3 hu4 p5 q5 O6 L6 X6 Y6 Z6 K6 V6 I6
        generalize we.setCell _ _ = wt at *
        have HD := (Below.refl wt.heap.size wt).drew
        have O8 := Lib.hid (OwnCels.below O7.out HD)
        have L8 := Lib.hid (blk L7.out HD)
        have X8 := Lib.hid (blk X7.out HD)
        have Y8 := Lib.hid (blk Y7.out HD)
        have Z8 := Lib.hid (blk Z7.out HD)
        have K8 := kept_hid K7 HD
        have V8 := Lib.hid (OwnInts.below V7.out HD)
        have I8 := Lib.hid (I7.out.below HD)
        clear HD O7 L7 X7 Y7 Z7 K7 V7 I7
        generalize wt.drew = wd at *
        go_wp2_with fail
        go_roundg (sp.length + 1 - (x + 1))
        case measure => omega
        case rel => exact ⟨x + 1, by omega, rfl, rfl, by rw [HQ2.out]; exact O8, L8, X8, Y8, Z8, K8, V8, I8⟩
    · obtain rfl : x = sp.length := by omega
      have hn0 : ¬ (sp.length : Int) < (sp.length : Int) := by omega
      rw [List.take_length] at *
      have HN1 := Lib.hid (wipes_length cs cs sp)
      obtain ⟨f0, f1, f2, f3, f4, f5⟩ := free6 Z5.out
      obtain ⟨z0, z1, z2, z3, z4, z5⟩ := cells6 Z5.out
      have SF := Lib.hid (over6 wr (w.heap.size + 2) _ _ _ _ _ _ _ (.int .i64 r) (.int .i64 c) (.slice (some ⟨g, 0, none⟩) cs.length vc) (.int .i64 cur) (.bool lk) (.bool ins) Z5.out)
      clear hlt
      go_upto_region 33 with (fail)
      go_region
      go_wp2_with fail
      clear z0 z1 z2 z3 z4 z5 c0 c1 c2 c3 c4 c5 f0 f1 f2 f3 f4 f5 d0 d1 d2 d3 d4 d5 d6 d7
      generalize (((((wr.setCell _ _).setCell _ _).setCell _ _).setCell _ _).setCell _ _).setCell _ _ = w9 at *
      exact bodyPost_ret (v := .tuple #[.agg #[.int .i64 r, .int .i64 c, .slice (some ⟨g, 0, none⟩) cs.length vc, .int .i64 cur, .bool lk, .bool ins], .int .i64 (b : Int)]) (results_cell_row_tmp rfl _ _ _ (w.heap.size + 2) _ rfl (run_loadVar_row _ (w.heap.size + 2) 24 24 _ (0, 0) _ (show w9.drew.heap[w.heap.size + 2]? = _ from SF.out.1) Tryz.underlying24 rfl (by kernel_rfl)) (.int .i64 (b : Int)) rfl) rfl ⟨some ⟨g, 0, none⟩, vc, by simp [pone, hsp.out, HN1.out], by simpa [pone, hsp.out, HN1.out] using OwnCels.below (OwnCels.away O5.out SF.out.2 (by have := HG1.out; simp [Value.ownBlock]; omega)) (Below.refl _ _).drew, (below_grown K5.out SF.out.2 (by omega)).drew⟩
theorem rone_any (s : S) (ad : Option Addr) (k a : Nat) (o : Go.Proofs.YtpgbnnnfeaodmaaGreatDoor.Ord.O) (ta : Option Addr) (tn tc : Nat) (w : World) (h : CelsIn w (.slice ad s.cs.length k) s.cs) (hl : s.cs.length < 10000) (ha : a < s.cs.length) (hw : Go.Proofs.YtpgbnnnfeaodmaaGreatDoor.Ord.wrong o s.cs.length = 0) (hB : BytesIn w (.slice ta tn tc) o.t) (h8 : ∀ x ∈ o.t, x < 256) (htl : o.t.length < 1000000) (hc : o.c < 256) :
    Calls Tryz.prog 95 #[.agg #[.int .i64 s.rows, .int .i64 s.cols, .slice ad s.cs.length k, .int .i64 s.cur, .bool s.lk, .bool s.ins], .int .i64 (a : Int), .agg #[.int .i64 o.k, .slice ta tn tc, .bool o.p, .bool o.n, .int .i64 o.s, .bool o.m, .int .i64 o.a, .int .u8 (o.c : Int)]] w fun e w' => Done w w' (pone s a o) e := by
  rcases Go.Proofs.YtpgbnnnfeaodmaaGreatDoor.Ord.right_cases hw with ⟨t, rfl, h0, _⟩ | ⟨p, n, m, q, rfl, _⟩ | ⟨b, rfl, hb⟩ | rfl | rfl | ⟨b, c, rfl, hb, _⟩ | ⟨b, rfl, hb⟩
  · exact rone_1 s ad k a ta tn tc t false false 0 false 0 0 w h hl ha hB h8 htl h0
  · exact rone_2 s ad k a ta tn tc [] p n q m 0 0 w h hl ha
  · exact rone_3 s ad k a ta tn tc [] false false 0 false b 0 w h hl ha
  · exact rone_4 s ad k a ta tn tc [] false false 0 false 0 0 w h hl ha
  · exact rone_5 s ad k a ta tn tc [] false false 0 false 0 0 w h hl ha
  · exact rone_6 s ad k a ta tn tc [] false false 0 false b c w h hl ha hb hc
  · exact rone_7 s ad k a ta tn tc [] false false 0 false b 0 w h hl ha hb
end Pnt
end Go.Proofs.YtpgbnnnfeaodmaaGreatDoor
/- The document's All of layer 12. -/
namespace Go.Proofs.YtpgbnnnfeaodmaaGreatDoor
open Go.RowKit Sha Six Apd Cut Err Att Grd Fld
set_option linter.unusedVariables false
namespace Pnt
def Shown (w w' : World) (r : S × Nat) (e : Ending) : Prop := ∃ va vc, e = .returned (.tuple #[.agg #[.int .i64 r.1.rows, .int .i64 r.1.cols, .slice va r.1.cs.length vc, .int .i64 r.1.cur, .bool r.1.lk, .bool r.1.ins], .int .i64 (r.2 : Int)]) ∧ CelsIn w' (.slice va r.1.cs.length vc) r.1.cs ∧ Below w.heap.size w w'
set_option maxRecDepth 100000 in
set_option maxHeartbeats 8000000 in
theorem rall_any (s : S) (ad : Option Addr) (k a : Nat) (al : Option Addr) (nl cl : Nat) (os : List Go.Proofs.YtpgbnnnfeaodmaaGreatDoor.Ord.O) (w : World) (h : CelsIn w (.slice ad s.cs.length k) s.cs) (hl : s.cs.length < 10000) (ha : a < s.cs.length) (hO : Str.OrdsIn w 0 (.slice al nl cl) os) (h8 : Str.Sound os) (hol : os.length < 100000) (hw : ∀ o ∈ os, Go.Proofs.YtpgbnnnfeaodmaaGreatDoor.Ord.wrong o s.cs.length = 0) :
    Calls Tryz.prog 76 #[.agg #[.int .i64 s.rows, .int .i64 s.cols, .slice ad s.cs.length k, .int .i64 s.cur, .bool s.lk, .bool s.ins], .int .i64 (a : Int), .slice al nl cl] w fun e w' => Shown w w' (pall (s, a) os) e := by
  obtain rfl := hO.len
  have HB := Lib.hid (kept_trans (al_any w (.cells #[.int .i64 s.rows, .int .i64 s.cols, .slice ad s.cs.length k, .int .i64 s.cur, .bool s.lk, .bool s.ins] 24)) (al_any _ (.cells #[.int .i64 0, .int .i64 0, .slice none 0 0, .int .i64 0, .bool false, .bool false] 24)))
  have HX := Lib.hid (heap_alloc2_old w (.cells #[.int .i64 s.rows, .int .i64 s.cols, .slice ad s.cs.length k, .int .i64 s.cur, .bool s.lk, .bool s.ins] 24) (.cells #[.int .i64 0, .int .i64 0, .slice none 0 0, .int .i64 0, .bool false, .bool false] 24))
  have HY := Lib.hid (heap_alloc2_new w (.cells #[.int .i64 s.rows, .int .i64 s.cols, .slice ad s.cs.length k, .int .i64 s.cur, .bool s.lk, .bool s.ins] 24) (.cells #[.int .i64 0, .int .i64 0, .slice none 0 0, .int .i64 0, .bool false, .bool false] 24))
  have HI := Lib.hid (h.below HB.out)
  have HNE := Lib.hid (show ∀ y, ad = some y → y.block ≠ w.heap.size + 1 from fun y hy => by
    obtain ⟨f, p, n, q, m, ch, ec⟩ := c_eta (s.cs.getD a noC)
    obtain ⟨b1, o1, e1, g0, _⟩ := h.cells ha ec
    have := Str.cell_lt g0
    rw [hy] at e1
    injection e1 with e1
    rw [e1]; simp only; omega)
  have HO := Lib.hid hO
  have H8 := Lib.hid h8
  have HL := Lib.hid hl
  have HA := Lib.hid ha
  have HOL := Lib.hid hol
  have HW := Lib.hid hw
  clear h hO h8 hl ha hol hw
  go_enter Tryz.func76, Tryz.ntmps76
  go_upto_region 1 with (fail)
  generalize (w.alloc _).alloc _ = w1 at *
  go_wp2_with fail
  go_loopg [1, 8] (os.length + 1) (fun mm vv ii wr => ∃ x : Nat, x ≤ os.length ∧ mm = os.length + 1 - x ∧ ii = .int .i64 x ∧ vv = .int .i64 (((pall (s, a) (os.take x)).2 : Nat) : Int) ∧ ∃ ad' k', Hid (wr.heap[w.heap.size]? = some (.cells #[.int .i64 (pall (s, a) (os.take x)).1.rows, .int .i64 (pall (s, a) (os.take x)).1.cols, .slice ad' (pall (s, a) (os.take x)).1.cs.length k', .int .i64 (pall (s, a) (os.take x)).1.cur, .bool (pall (s, a) (os.take x)).1.lk, .bool (pall (s, a) (os.take x)).1.ins] 24 (0, 0))) ∧ Hid (∀ y, ad' = some y → y.block ≠ w.heap.size + 1) ∧ Hid (CelsIn wr (.slice ad' (pall (s, a) (os.take x)).1.cs.length k') (pall (s, a) (os.take x)).1.cs) ∧ Hid (wr.heap[w.heap.size + 1]? = some (.cells #[.int .i64 0, .int .i64 0, .slice none 0 0, .int .i64 0, .bool false, .bool false] 24 (0, 0))) ∧ Hid (Below w.heap.size w wr))
  case atStart => exact ⟨0, Nat.zero_le _, rfl, rfl, rfl, ad, k, HX, HNE, HI, HY, HB⟩
  case round =>
    obtain ⟨x, hx, rfl, rfl, rfl, ad', k', X4, N4, I4, Z4, K4⟩ := hrel
    clear HX HI HY HB HNE
    have ew : IntKind.i64.wrap ((x : Int) + 1) = (x : Int) + 1 := by
      have := HOL.out
      rw [IntWalk.i64_in] <;> omega
    have HLN := Lib.hid (pall_length (s, a) (os.take x))
    have HLT := Lib.hid (pall_lt (os.take x) (s, a) HA.out fun o ho => HW.out o (List.mem_of_mem_take ho))
    by_cases hlt : x < os.length
    · have HS := Lib.hid (pall_take (s, a) os hlt)
      have hwo : Go.Proofs.YtpgbnnnfeaodmaaGreatDoor.Ord.wrong (os.getD x Go.Proofs.YtpgbnnnfeaodmaaGreatDoor.Ord.none_) s.cs.length = 0 := by
        rw [List.getD_eq_getElem?_getD, List.getElem?_eq_getElem hlt]; exact HW.out _ (List.getElem_mem hlt)
      obtain ⟨h8t, htl, hc8⟩ := Str.sound_at H8.out x
      generalize pall (s, a) (os.take x) = st at *
      obtain ⟨⟨r, c, ds, cur, lk, ins⟩, pl⟩ := st
      simp only at X4 I4 HLN HLT HS
      obtain ⟨kk, tt, op, on_, oq, om, oa, oc, eo⟩ := Str.o_eta (os.getD x Go.Proofs.YtpgbnnnfeaodmaaGreatDoor.Ord.none_)
      have HOX := (HO.out.below K4.out).cells hlt eo
      rw [eo] at HS hwo h8t htl hc8
      simp only at h8t htl hc8
      obtain ⟨bo, oo, ta, tn, tc, rfl, o0, o1, o2, o3, o4, o5, o6, o7, hBt, hnt⟩ := HOX
      have HO' := Lib.hid fun W (hb : Below wr.heap.size wr W) (hi : CelsIn W (.slice ad' ds.length k') ds) => rone_any ⟨r, c, ds, cur, lk, ins⟩ ad' k' pl ⟨kk, tt, op, on_, oq, om, oa, oc⟩ ta tn tc W hi (by simp only; rw [HLN.out]; exact HL.out) (by simp only; rw [HLN.out]; exact HLT.out) (by simp only; rw [HLN.out]; exact hwo) (bytes_below hBt hb) h8t htl hc8
      have HPN := Lib.hid (pone_rest ⟨r, c, ds, cur, lk, ins⟩ pl ⟨kk, tt, op, on_, oq, om, oa, oc⟩)
      generalize pone ⟨r, c, ds, cur, lk, ins⟩ pl ⟨kk, tt, op, on_, oq, om, oa, oc⟩ = st' at *
      obtain ⟨⟨r', c', ds', cur', lk', ins'⟩, pl'⟩ := st'
      simp only [Done] at HO' HS HPN
      have hi0 : (0 : Int) ≤ (x : Int) := by omega
      have hi1 : (x : Int) < (os.length : Int) := by omega
      obtain ⟨c0, c1, c2, c3, c4, c5⟩ := cells6 X4.out
      have hz4 := Lib.hid (there_lt X4.out)
      clear hwo h8t htl hc8 eo hBt hnt
      have HD1 := Lib.hid ((Below.refl wr.heap.size wr).drew)
      have HD2 := Lib.hid (show Below wr.heap.size wr (wr.alloc (.cells #[.int .i64 0, .int .i64 0, .slice none 0 0, .int .i64 0, .bool false, .bool false] 24)).drew from (al_any wr (.cells #[.int .i64 0, .int .i64 0, .slice none 0 0, .int .i64 0, .bool false, .bool false] 24)).drew)
      go_upto_region 4 with (fail)
      have HNB := Lib.hid (show (wr.alloc (.cells #[.int .i64 0, .int .i64 0, .slice none 0 0, .int .i64 0, .bool false, .bool false] 24)).drew.heap[wr.heap.size]? = some (.cells #[.int .i64 0, .int .i64 0, .slice none 0 0, .int .i64 0, .bool false, .bool false] 24 (0, 0)) from heap_alloc_new wr (.cells #[.int .i64 0, .int .i64 0, .slice none 0 0, .int .i64 0, .bool false, .bool false] 24))
      have HNC := Lib.hid (fun W (hW : Below (wr.alloc (.cells #[.int .i64 0, .int .i64 0, .slice none 0 0, .int .i64 0, .bool false, .bool false] 24)).drew.heap.size (wr.alloc (.cells #[.int .i64 0, .int .i64 0, .slice none 0 0, .int .i64 0, .bool false, .bool false] 24)).drew W) => cells6 (blk HNB.out hW))
      have HNF := Lib.hid (fun W (hW : Below (wr.alloc (.cells #[.int .i64 0, .int .i64 0, .slice none 0 0, .int .i64 0, .bool false, .bool false] 24)).drew.heap.size (wr.alloc (.cells #[.int .i64 0, .int .i64 0, .slice none 0 0, .int .i64 0, .bool false, .bool false] 24)).drew W) => free6 (blk HNB.out hW))
      have HNH := Lib.hid (fun W (hW : Below (wr.alloc (.cells #[.int .i64 0, .int .i64 0, .slice none 0 0, .int .i64 0, .bool false, .bool false] 24)).drew.heap.size (wr.alloc (.cells #[.int .i64 0, .int .i64 0, .slice none 0 0, .int .i64 0, .bool false, .bool false] 24)).drew W) => blk HNB.out hW)
      have HSX := Lib.hid (show ∀ W, Below wr.heap.size wr W → Below wr.heap.size wr W ∧ (W.cell? ⟨w.heap.size, 0, none⟩ = some (.int .i64 r) ∧ W.cell? ⟨w.heap.size, 1, none⟩ = some (.int .i64 c) ∧ W.cell? ⟨w.heap.size, 2, none⟩ = some (.slice ad' ds.length k') ∧ W.cell? ⟨w.heap.size, 3, none⟩ = some (.int .i64 cur) ∧ W.cell? ⟨w.heap.size, 4, none⟩ = some (.bool lk) ∧ W.cell? ⟨w.heap.size, 5, none⟩ = some (.bool ins)) ∧ (W.cell? ⟨bo, oo + x * 8, none⟩ = some (.int .i64 kk) ∧ W.cell? ⟨bo, oo + x * 8 + 1, none⟩ = some (.slice ta tn tc) ∧ W.cell? ⟨bo, oo + x * 8 + 2, none⟩ = some (.bool op) ∧ W.cell? ⟨bo, oo + x * 8 + 3, none⟩ = some (.bool on_) ∧ W.cell? ⟨bo, oo + x * 8 + 4, none⟩ = some (.int .i64 oq) ∧ W.cell? ⟨bo, oo + x * 8 + 5, none⟩ = some (.bool om) ∧ W.cell? ⟨bo, oo + x * 8 + 6, none⟩ = some (.int .i64 oa) ∧ W.cell? ⟨bo, oo + x * 8 + 7, none⟩ = some (.int .u8 (oc : Int))) from fun W hW => ⟨hW, cells6 (blk X4.out hW), (hW.cell (Str.cell_lt o0)).trans o0, (hW.cell (Str.cell_lt o1)).trans o1, (hW.cell (Str.cell_lt o2)).trans o2, (hW.cell (Str.cell_lt o3)).trans o3, (hW.cell (Str.cell_lt o4)).trans o4, (hW.cell (Str.cell_lt o5)).trans o5, (hW.cell (Str.cell_lt o6)).trans o6, (hW.cell (Str.cell_lt o7)).trans o7⟩)
      go_region_held3 (fun W => Below wr.heap.size wr W ∧ (W.cell? ⟨w.heap.size, 0, none⟩ = some (.int .i64 r) ∧ W.cell? ⟨w.heap.size, 1, none⟩ = some (.int .i64 c) ∧ W.cell? ⟨w.heap.size, 2, none⟩ = some (.slice ad' ds.length k') ∧ W.cell? ⟨w.heap.size, 3, none⟩ = some (.int .i64 cur) ∧ W.cell? ⟨w.heap.size, 4, none⟩ = some (.bool lk) ∧ W.cell? ⟨w.heap.size, 5, none⟩ = some (.bool ins)) ∧ (W.cell? ⟨bo, oo + x * 8, none⟩ = some (.int .i64 kk) ∧ W.cell? ⟨bo, oo + x * 8 + 1, none⟩ = some (.slice ta tn tc) ∧ W.cell? ⟨bo, oo + x * 8 + 2, none⟩ = some (.bool op) ∧ W.cell? ⟨bo, oo + x * 8 + 3, none⟩ = some (.bool on_) ∧ W.cell? ⟨bo, oo + x * 8 + 4, none⟩ = some (.int .i64 oq) ∧ W.cell? ⟨bo, oo + x * 8 + 5, none⟩ = some (.bool om) ∧ W.cell? ⟨bo, oo + x * 8 + 6, none⟩ = some (.int .i64 oa) ∧ W.cell? ⟨bo, oo + x * 8 + 7, none⟩ = some (.int .u8 (oc : Int))))
        ((refine HSX.out _ ?_; first | with_reducible exact HD1.out | with_reducible exact HD2.out | with_reducible exact hbw | with_reducible exact below_grown hbw SFN.2 (Nat.le_refl _) | with_reducible exact kept_trans hbw (al_any _ _)))
        (first | (go_at_call 95; with_reducible refine (HO'.out _ (And.left (by assumption)) (I4.out.below (And.left (by assumption)))).mono ?_; rintro e we ⟨va, vc, rfl, ho, hb⟩; have hbw := kept_trans (And.left (by assumption : Below wr.heap.size wr _ ∧ _)) hb; first | (with_reducible have hb3 : Below (wr.alloc (.cells #[.int .i64 0, .int .i64 0, .slice none 0 0, .int .i64 0, .bool false, .bool false] 24)).drew.heap.size (wr.alloc (.cells #[.int .i64 0, .int .i64 0, .slice none 0 0, .int .i64 0, .bool false, .bool false] 24)).drew we := hb; obtain ⟨z0, z1, z2, z3, z4, z5⟩ := HNC.out _ hb3; obtain ⟨f0, f1, f2, f3, f4, f5⟩ := HNF.out _ hb3; have SFN := over6 we wr.heap.size _ _ _ _ _ _ _ (.int .i64 r') (.int .i64 c') (.slice va ds'.length vc) (.int .i64 cur') (.bool lk') (.bool ins') (HNH.out _ hb3)) | skip))
      all_goals
        (first
          | (have L5 := Lib.hid SFN.1
             have K5 := Lib.hid (below_grown hbw SFN.2 (Nat.le_refl _))
             have C5 := Lib.hid ((OwnCels.away ho SFN.2 (by intro e; have := own_ge ho _ e; simp at this; omega)).mono (b := wr.heap.size) (by simp))
             have HNB2 := Lib.hid (show w.heap.size < wr.heap.size from hz4.out)
             clear z0 z1 z2 z3 z4 z5 f0 f1 f2 f3 f4 f5 SFN hb3
             generalize (((((we.setCell _ _).setCell _ _).setCell _ _).setCell _ _).setCell _ _).setCell _ _ = wz at *)
          | (have L5 := Lib.hid (heap_alloc_new we (.cells #[.int .i64 r', .int .i64 c', .slice va ds'.length vc, .int .i64 cur', .bool lk', .bool ins'] 24))
             have K5 := Lib.hid (kept_trans hbw (al_any we (.cells #[.int .i64 r', .int .i64 c', .slice va ds'.length vc, .int .i64 cur', .bool lk', .bool ins'] 24)))
             have C5 := Lib.hid (OwnCels.mono (b := wr.heap.size) (OwnCels.below ho (al_any we (.cells #[.int .i64 r', .int .i64 c', .slice va ds'.length vc, .int .i64 cur', .bool lk', .bool ins'] 24))) (Nat.le_refl _))
             have HNB2 := Lib.hid (show w.heap.size < we.heap.size from Nat.lt_of_lt_of_le hz4.out hbw.size)
             generalize we.alloc _ = wz at *))
        clear hb hbw ho HSX HO' HNH HNC HNF HNB HD1 HD2
        have X5 := Lib.hid (blk X4.out K5.out)
        have Z5 := Lib.hid (blk Z4.out K5.out)
        have K6 := kept_hid K4 K5.out
        have hz5 := Lib.hid (show w.heap.size + 1 < wr.heap.size from there_lt Z4.out)
        have hs4 := Lib.hid (show w.heap.size ≤ wr.heap.size from K4.out.size)
        obtain ⟨l0, l1, l2, l3, l4, l5⟩ := cells6 L5.out
        obtain ⟨f0, f1, f2, f3, f4, f5⟩ := free6 X5.out
        obtain ⟨c0, c1, c2, c3, c4, c5⟩ := cells6 X5.out
        have SF := over6 wz w.heap.size _ _ _ _ _ _ _ (.int .i64 r') (.int .i64 c') (.slice va ds'.length vc) (.int .i64 cur') (.bool lk') (.bool ins') X5.out
        have X7 := Lib.hid SF.1
        have C7 := Lib.hid (OwnCels.to (OwnCels.away C5.out SF.2 (by intro e; have := own_ge C5.out _ e; have := hz5.out; omega)))
        have N7 := Lib.hid (show ∀ y, va = some y → y.block ≠ w.heap.size + 1 from fun y hy => by
          have := (own_blocks C5.out y hy).1
          have := hz5.out
          omega)
        have Z7 := Lib.hid (blk_g Z5.out SF.2 (by intro e; injection e with e; omega))
        have K7 := Lib.hid (below_grown K6.out SF.2 (Nat.le_refl _))
        clear SF X5 Z5 K6 C5 L5 K5 X4 N4 I4 Z4 K4 o0 o1 o2 o3 o4 o5 o6 o7
        go_upto_region 6 with (fail)
        clear l0 l1 l2 l3 l4 l5 f0 f1 f2 f3 f4 f5 c0 c1 c2 c3 c4 c5
        generalize (((((wz.setCell _ _).setCell _ _).setCell _ _).setCell _ _).setCell _ _).setCell _ _ = wy at *
        go_wp2_with fail
        go_roundg (os.length + 1 - (x + 1))
        case measure => omega
        case rel => exact ⟨x + 1, by omega, rfl, rfl, by rw [HS.out], va, vc, by rw [HS.out]; exact X7, N7, by rw [HS.out]; exact C7, Z7, K7⟩
    · obtain rfl : x = os.length := by omega
      have hn0 : ¬ (os.length : Int) < (os.length : Int) := by omega
      rw [List.take_length] at *
      obtain ⟨c0, c1, c2, c3, c4, c5⟩ := cells6 X4.out
      obtain ⟨f0, f1, f2, f3, f4, f5⟩ := free6 Z4.out
      obtain ⟨z0, z1, z2, z3, z4, z5⟩ := cells6 Z4.out
      obtain ⟨⟨⟨r, c, ds, cur, lk, ins⟩, pl⟩, hst⟩ : ∃ st, pall (s, a) os = st := ⟨_, rfl⟩
      rw [hst] at X4 I4 HLN HLT c0 c1 c2 c3 c4 c5 ⊢
      replace hst := Lib.hid hst
      simp only at X4 I4 HLN HLT c0 c1 c2 c3 c4 c5
      have SF := Lib.hid (over6 wr (w.heap.size + 1) _ _ _ _ _ _ _ (.int .i64 r) (.int .i64 c) (.slice ad' ds.length k') (.int .i64 cur) (.bool lk) (.bool ins) Z4.out)
      clear hlt
      go_wp2_with fail
      clear z0 z1 z2 z3 z4 z5 c0 c1 c2 c3 c4 c5 f0 f1 f2 f3 f4 f5
      generalize (((((wr.setCell _ _).setCell _ _).setCell _ _).setCell _ _).setCell _ _).setCell _ _ = w9 at *
      exact bodyPost_ret (v := .tuple #[.agg #[.int .i64 r, .int .i64 c, .slice ad' ds.length k', .int .i64 cur, .bool lk, .bool ins], .int .i64 (pl : Int)]) (results_cell_row_tmp rfl _ _ _ (w.heap.size + 1) _ rfl (run_loadVar_row _ (w.heap.size + 1) 24 24 _ (0, 0) _ SF.out.1 Tryz.underlying24 rfl (by kernel_rfl)) (.int .i64 (pl : Int)) rfl) rfl (show Shown w w9 (pall (s, a) os) _ from by rw [hst.out]; exact ⟨ad', k', rfl, celsIn_away I4.out SF.out.2 N4.out, below_grown K4.out SF.out.2 (by omega)⟩)
end Pnt
end Go.Proofs.YtpgbnnnfeaodmaaGreatDoor
/- Slices of orders that are cut: the first n, those from n on. -/
namespace Go.Proofs.YtpgbnnnfeaodmaaGreatDoor
open Go.RowKit Sha Six Cut
set_option linter.unusedVariables false
namespace Pnt
end Pnt
end Go.Proofs.YtpgbnnnfeaodmaaGreatDoor
