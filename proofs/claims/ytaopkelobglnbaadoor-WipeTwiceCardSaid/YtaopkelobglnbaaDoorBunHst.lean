/- HstSpec, HstMore, HstGave, HstAt in one text (by tools/bundle.py). -/
import Derived.Test.YtaopkelobglnbaaDoorBunPnt
import Derived.Test.YtaopkelobglnbaaDoorBunFld
import Derived.Test.YtaopkelobglnbaaDoorBunGrd
/- Plain: what host commands do on a screen. -/
namespace Go.Proofs.YtaopkelobglnbaaDoor
set_option linter.unusedVariables false
namespace Hst
open Grd Fld Pnt
open Go.Proofs.YtaopkelobglnbaaDoor.Ord (O wrong none_)
open Go.Proofs.YtaopkelobglnbaaDoor.Str (Cm cwrite known writes ow)
/-- A cell whose attribute isn't modified any more (all: whether protected or not). -/
def unmod (all : Bool) (o : C) : C := if (o.f && (all || !o.p)) = true then { o with m := false } else o
def resetC (all : Bool) (cs : List C) : List C := cs.map (unmod all)
/-- The first q cells so. -/
def resetTo (all : Bool) (cs : List C) (q : Nat) : List C := (cs.take q).map (unmod all) ++ cs.drop q
def hreset (s : S) (all : Bool) : S := { s with cs := resetC all s.cs }
def curOf (cs : List C) : Int := if next cs (cs.length - 1) < 0 then 0 else next cs (cs.length - 1)
def hclean (s : S) : S := ⟨s.rows, s.cols, wipes s.cs (resetC false s.cs) (List.range s.cs.length), curOf s.cs, false, false⟩
def herased (s : S) : S := { s with cs := List.replicate s.cs.length noC, cur := 0 }
def unlocked (u : Bool) (s : S) : S := if u then { s with lk := false, ins := false } else s
def after (r : Bool) (s : S) : S := if r then hreset s true else s
def hwrite (s : S) (r u : Bool) (os : List O) : S := unlocked u (pall (after r s, (after r s).cur.toNat) os).1
/-- A right command done. -/
def hdo (s : S) (o : Cm) : S :=
  if o.cmd = 242 ∨ o.cmd = 246 then s
  else if o.cmd = 111 then hclean s
  else if o.cmd = 245 then hwrite (herased s) o.r o.u o.os
  else hwrite s o.r o.u o.os
theorem resetC_length (all : Bool) (cs : List C) : (resetC all cs).length = cs.length := by simp [resetC]
theorem resetTo_length (all : Bool) (cs : List C) (q : Nat) : (resetTo all cs q).length = cs.length := by simp [resetTo]; omega
theorem resetTo_zero (all : Bool) (cs : List C) : resetTo all cs 0 = cs := by simp [resetTo]
theorem resetTo_all (all : Bool) (cs : List C) : resetTo all cs cs.length = resetC all cs := by simp [resetTo, resetC]
theorem resetC_getD (all : Bool) (cs : List C) (i : Nat) : (resetC all cs).getD i noC = unmod all (cs.getD i noC) := by
  unfold resetC
  simp only [List.getD_eq_getElem?_getD, List.getElem?_map]
  cases cs[i]? with
  | none => cases all <;> rfl
  | some o => rfl
theorem resetTo_getD (all : Bool) (cs : List C) (q i : Nat) (hq : q ≤ cs.length) : (resetTo all cs q).getD i noC = if i < q then unmod all (cs.getD i noC) else cs.getD i noC := by
  unfold resetTo
  simp only [List.getD_eq_getElem?_getD]
  split
  · rename_i h
    rw [List.getElem?_append_left (by simp; omega), List.getElem?_map, List.getElem?_take_of_lt h, List.getElem?_eq_getElem (by omega)]; rfl
  · rename_i h
    rw [List.getElem?_append_right (by simp; omega), List.getElem?_drop, List.length_map, List.length_take, show q + (i - min q cs.length) = i by omega]
/-- One cell more. -/
theorem resetTo_succ (all : Bool) (cs : List C) {q : Nat} (hq : q < cs.length) : resetTo all cs (q + 1) = (resetTo all cs q).set q (unmod all (cs.getD q noC)) := by
  refine c_ext (by rw [List.length_set, resetTo_length, resetTo_length]) fun i hi => ?_
  rw [resetTo_length] at hi
  rw [resetTo_getD _ _ _ _ hq, getD_set, resetTo_length, resetTo_getD _ _ _ _ (by omega)]
  by_cases h : q = i
  · subst h
    simp [hq]
  · by_cases h2 : i < q
    · simp [h, h2, show i < q + 1 by omega]
    · simp [h, h2, show ¬ i < q + 1 by omega]
theorem resetTo_same (all : Bool) (cs : List C) {q : Nat} (hq : q < cs.length) (h : unmod all (cs.getD q noC) = cs.getD q noC) : resetTo all cs (q + 1) = resetTo all cs q := by
  rw [resetTo_succ all cs hq, h]
  refine c_ext (by rw [List.length_set]) fun i hi => ?_
  rw [List.length_set, resetTo_length] at hi
  rw [getD_set, resetTo_length, resetTo_getD _ _ _ _ (by omega)]
  by_cases h2 : q = i
  · subst h2; simp [hq]
  · simp [h2]
theorem unmod_fp (all : Bool) (o : C) : (unmod all o).f = o.f ∧ (unmod all o).p = o.p ∧ (unmod all o).c = o.c := by
  unfold unmod; split <;> simp
theorem unmod_right {all : Bool} {o : C} (h : cright o = true) : cright (unmod all o) = true := by
  obtain ⟨f, p, n, s, m, c⟩ := o
  cases f with
  | false => simpa [unmod, cright] using h
  | true =>
    unfold unmod
    split
    · simpa [cright] using h
    · exact h
theorem resetC_allR {all : Bool} {cs : List C} (h : AllR cs) : AllR (resetC all cs) := by
  intro o ho
  simp only [resetC, List.mem_map] at ho
  obtain ⟨x, hx, rfl⟩ := ho
  exact unmod_right (h x hx)
theorem resetC_sound {all : Bool} {cs : List C} (h : Sound cs) : Sound (resetC all cs) := by
  intro o ho
  simp only [resetC, List.mem_map] at ho
  obtain ⟨x, hx, rfl⟩ := ho
  rw [(unmod_fp all x).2.2]; exact h x hx
theorem wipes_succ (cs0 cs : List C) (q : Nat) : wipes cs0 cs (List.range (q + 1)) = wipe1 cs0 (wipes cs0 cs (List.range q)) q := by
  unfold wipes; rw [List.range_succ, List.foldl_append]; rfl
/-- Cells among the wiped ones. -/
theorem wipes_range (cs0 cs : List C) : ∀ (q : Nat), q ≤ cs.length → ∀ i, (wipes cs0 cs (List.range q)).getD i noC = if i < q ∧ open_ cs0 i = true then { cs.getD i noC with c := 0 } else cs.getD i noC := by
  intro q
  induction q with
  | zero => intro _ i; simp [wipes]
  | succ q ih =>
    intro hq i
    have ih := ih (by omega)
    have e : wipes cs0 cs (List.range (q + 1)) = wipe1 cs0 (wipes cs0 cs (List.range q)) q := by
      unfold wipes; rw [List.range_succ, List.foldl_append]; rfl
    rw [e]
    unfold wipe1
    by_cases ho : open_ cs0 q = true
    · rw [if_pos ho, getD_set, wipes_length]
      by_cases hi : q = i
      · subst hi
        rw [if_pos ⟨rfl, by omega⟩, if_pos ⟨by omega, ho⟩, ih q, if_neg (by omega)]
      · rw [if_neg (by omega), ih i]
        by_cases h2 : i < q
        · simp [h2, show i < q + 1 by omega]
        · simp [h2, show ¬ i < q + 1 by omega]
    · rw [if_neg ho, ih i]
      by_cases hi : q = i
      · subst hi; simp [ho]
      · by_cases h2 : i < q
        · simp [h2, show i < q + 1 by omega]
        · simp [h2, show ¬ i < q + 1 by omega]
theorem hclean_getD (s : S) (i : Nat) (hi : i < s.cs.length) : (hclean s).cs.getD i noC = if open_ s.cs i = true then { unmod false (s.cs.getD i noC) with c := 0 } else unmod false (s.cs.getD i noC) := by
  show (wipes s.cs (resetC false s.cs) (List.range s.cs.length)).getD i noC = _
  rw [wipes_range _ _ _ (by rw [resetC_length]; exact Nat.le_refl _), resetC_getD]
  by_cases h : open_ s.cs i = true <;> simp [h, hi]
theorem hclean_length (s : S) : (hclean s).cs.length = s.cs.length := by
  show (wipes s.cs (resetC false s.cs) (List.range s.cs.length)).length = _
  rw [wipes_length, resetC_length]
theorem alike_clean (s : S) : Fld.Alike (hclean s).cs s.cs := by
  refine ⟨hclean_length s, fun i => ?_⟩
  by_cases hi : i < s.cs.length
  · rw [hclean_getD s i hi]
    obtain ⟨h1, h2, _⟩ := unmod_fp false (s.cs.getD i noC)
    split
    · exact ⟨h1, h2⟩
    · exact ⟨h1, h2⟩
  · have e : ∀ xs : List C, xs.length = s.cs.length → xs.getD i noC = noC := fun xs h => by
      rw [List.getD_eq_getElem?_getD, List.getElem?_eq_none (by omega)]; rfl
    rw [e _ (hclean_length s), e _ rfl]; exact ⟨rfl, rfl⟩
theorem unmod_twice (all : Bool) (o : C) : unmod all (unmod all o) = unmod all o := by
  unfold unmod; split <;> simp_all
theorem unmod_c (all : Bool) (o : C) (c : Nat) : unmod all { o with c := c } = { unmod all o with c := c } := by
  unfold unmod; split <;> simp_all
/-- Clean twice is as once. -/
theorem hclean_twice (s : S) : hclean (hclean s) = hclean s := by
  have hl := hclean_length s
  have e1 : (hclean (hclean s)).cs = (hclean s).cs := by
    refine c_ext (hclean_length _) fun i hi => ?_
    rw [hclean_length] at hi
    rw [hclean_getD _ _ hi, alike_open (alike_clean s)]
    rw [hl] at hi
    rw [hclean_getD s i hi]
    split
    · rw [unmod_c, unmod_twice]
    · rw [unmod_twice]
  have e2 : curOf (hclean s).cs = curOf s.cs := by
    unfold curOf
    rw [hl, alike_next (alike_clean s)]
  show (⟨s.rows, s.cols, (hclean (hclean s)).cs, curOf (hclean s).cs, false, false⟩ : S) = ⟨s.rows, s.cols, (hclean s).cs, curOf s.cs, false, false⟩
  rw [e1, e2]
theorem next_bounds {cs : List C} {a : Nat} (ha : a < cs.length) : -1 ≤ next cs a ∧ next cs a < (cs.length : Int) := by
  rcases next_cases ha with ⟨h, _⟩ | ⟨k, o, _, _, _, _, _, _, h⟩
  · rw [h]; omega
  · rw [h]
    have := on_lt (show 0 < cs.length by omega) (o : Int) 1
    omega
theorem curOf_bounds {cs : List C} (h : 0 < cs.length) : 0 ≤ curOf cs ∧ curOf cs < (cs.length : Int) := by
  unfold curOf
  have := next_bounds (cs := cs) (a := cs.length - 1) (by omega)
  split <;> omega
theorem hclean_allR {s : S} (h : AllR s.cs) : AllR (hclean s).cs := by
  intro o ho
  obtain ⟨i, hi, rfl⟩ := mem_getD ho
  rw [hclean_length] at hi
  rw [hclean_getD s i hi]
  have h1 := unmod_right (all := false) (h _ (getD_mem hi))
  split
  · rename_i hop
    have hf : (unmod false (s.cs.getD i noC)).f = false := by rw [(unmod_fp _ _).1]; exact open_fat hop
    generalize unmod false (s.cs.getD i noC) = x at *
    obtain ⟨f, p, n, q, m, c⟩ := x
    simp only at hf
    subst hf
    simp only [cright, Bool.false_eq_true, if_false, Bool.and_eq_true] at h1 ⊢
    exact ⟨h1.1, char_0⟩
  · exact h1
theorem sright_of {s : S} {rows cols : Int} {cs : List C} (h : sright s = true) (hr : s.rows = rows) (hc : s.cols = cols) (hl : cs.length = s.cs.length) (ha : AllR cs) {cur : Int} (h0 : 0 ≤ cur) (h1 : cur < (s.cs.length : Int)) (lk ins : Bool) : sright ⟨rows, cols, cs, cur, lk, ins⟩ = true := by
  obtain ⟨g1, g2, _, _, _⟩ := sright_parts h
  subst hr hc
  simp only [sright, Bool.and_eq_true, decide_eq_true_eq, List.all_eq_true]
  rw [hl]
  exact ⟨g1, g2, h0, h1, ha⟩
theorem hclean_right {s : S} (h : sright s = true) : sright (hclean s) = true := by
  obtain ⟨_, _, g3, g4, g5⟩ := sright_parts h
  obtain ⟨b1, b2⟩ := curOf_bounds (cs := s.cs) (by omega)
  exact sright_of h rfl rfl (hclean_length s) (hclean_allR g5) b1 b2 _ _
theorem hreset_right {s : S} {all : Bool} (h : sright s = true) : sright (hreset s all) = true := by
  obtain ⟨_, _, g3, g4, g5⟩ := sright_parts h
  exact sright_of h rfl rfl (resetC_length _ _) (resetC_allR g5) g3 g4 _ _
theorem herased_right {s : S} (h : sright s = true) : sright (herased s) = true := by
  obtain ⟨_, _, g3, g4, _⟩ := sright_parts h
  refine sright_of h rfl rfl (by simp) (fun o ho => ?_) (Int.le_refl 0) (by omega) _ _
  rw [(List.mem_replicate.1 ho).2]; decide +kernel
theorem after_right {s : S} {r : Bool} (h : sright s = true) : sright (after r s) = true := by
  unfold after; split
  · exact hreset_right h
  · exact h
theorem after_length (r : Bool) (s : S) : (after r s).cs.length = s.cs.length := by
  unfold after; split
  · exact resetC_length _ _
  · rfl
theorem unlocked_right {s : S} {u : Bool} (h : sright s = true) : sright (unlocked u s) = true := by
  unfold unlocked; split
  · exact h
  · exact h
theorem cur_lt {s : S} (h : sright s = true) : s.cur.toNat < s.cs.length ∧ s.cur = (s.cur.toNat : Int) := by
  obtain ⟨_, _, g3, g4, _⟩ := sright_parts h
  omega
theorem hwrite_right {s : S} {r u : Bool} {os : List O} (h : sright s = true) (hw : ∀ o ∈ os, wrong o s.cs.length = 0) : sright (hwrite s r u os) = true := by
  unfold hwrite
  have h1 := after_right (r := r) h
  refine unlocked_right (pall_right os _ h1 (cur_lt h1).1 ?_)
  show ∀ o ∈ os, wrong o (after r s).cs.length = 0
  rw [after_length]; exact hw
/-- The orders of a right command are right. -/
theorem ow_right {z : Nat} : ∀ (os : List O) (p : Bool) (i : Nat), (ow z p i os).1 = 0 → ∀ o ∈ os, wrong o z = 0 := by
  intro os
  induction os with
  | nil => intro p i _ o ho; cases ho
  | cons x os ih =>
    intro p i h o ho
    unfold ow at h
    split at h
    · rename_i hx; exact absurd h hx
    · rename_i hx
      split at h
      · cases h
      · rcases List.mem_cons.1 ho with rfl | h2
        · omega
        · exact ih _ _ h o h2
theorem cwrite_right {o : Cm} {z : Nat} (h : (cwrite o z).2.1 = 0) : known o.cmd = true ∧ (writes o.cmd = true → ∀ x ∈ o.os, wrong x z = 0) ∧ (writes o.cmd = false → o.a = false ∧ o.u = false ∧ o.r = false ∧ o.os = []) := by
  unfold cwrite at h
  split at h
  · cases h
  rename_i hk
  have hk : known o.cmd = true := by simpa using hk
  refine ⟨hk, fun hw => ?_, fun hw => ?_⟩
  · rw [if_neg (by rw [hw]; decide)] at h
    split at h
    · rename_i h1; exact absurd h h1
    · rename_i h1; exact ow_right o.os false 0 (Decidable.not_not.1 h1)
  · rw [if_pos hw] at h
    split at h
    · cases h
    · rename_i h1
      simp only [Bool.or_eq_true, not_or, Bool.not_eq_true] at h1
      obtain ⟨⟨⟨h2, h3⟩, h4⟩, h5⟩ := h1
      exact ⟨h2, h3, h4, by simpa using h5⟩
theorem known_cases {c : Int} (h : known c = true) : c = 241 ∨ c = 245 ∨ c = 111 ∨ c = 242 ∨ c = 246 := by
  simp only [known, writes, Bool.or_eq_true, beq_iff_eq] at h
  omega
theorem hdo_right {s : S} {o : Cm} (h : sright s = true) (hc : (cwrite o s.cs.length).2.1 = 0) : sright (hdo s o) = true := by
  obtain ⟨h1, h2, h3⟩ := cwrite_right hc
  unfold hdo
  split
  · exact h
  split
  · exact hclean_right h
  split
  · rename_i h4
    refine hwrite_right (herased_right h) ?_
    simpa [herased] using h2 (by rw [h4]; rfl)
  · rename_i h4 h5 h6
    refine hwrite_right h (h2 ?_)
    rcases known_cases h1 with h | h | h | h | h
    · rw [h]; rfl
    all_goals omega
end Hst
end Go.Proofs.YtaopkelobglnbaaDoor
/- Plain: erases hang on little; where Clean leaves the cursor. -/
namespace Go.Proofs.YtaopkelobglnbaaDoor
set_option linter.unusedVariables false
namespace Hst
open Grd Fld Pnt
open Go.Proofs.YtaopkelobglnbaaDoor.Ord (O wrong none_)
open Go.Proofs.YtaopkelobglnbaaDoor.Str (Cm cwrite known writes ow)
def withL (s : S) (l i : Bool) : S := { s with lk := l, ins := i }
theorem pone_withL (s : S) (a : Nat) (o : O) (l i : Bool) : pone (withL s l i) a o = (withL (pone s a o).1 l i, (pone s a o).2) := by
  unfold pone withL
  repeat' split
  all_goals rfl
theorem pall_withL (l i : Bool) (os : List O) : ∀ (st : S × Nat), pall (withL st.1 l i, st.2) os = (withL (pall st os).1 l i, (pall st os).2) := by
  induction os with
  | nil => intro st; rfl
  | cons o os ih =>
    intro st
    show pall (pone1 (withL st.1 l i, st.2) o) os = _
    have e : pone1 (withL st.1 l i, st.2) o = (withL (pone1 st o).1 l i, (pone1 st o).2) := pone_withL _ _ _ _ _
    rw [e, ih]; rfl
theorem hwrite_withL (s : S) (l i r u : Bool) (os : List O) : ∃ l' i', hwrite (withL s l i) r u os = withL (hwrite s r u os) l' i' := by
  have e : after r (withL s l i) = withL (after r s) l i := by unfold after; split <;> rfl
  have e2 : (pall (after r (withL s l i), (after r (withL s l i)).cur.toNat) os).1 = withL (pall (after r s, (after r s).cur.toNat) os).1 l i := by
    rw [e]
    have := pall_withL l i os (after r s, (after r s).cur.toNat)
    rw [show (withL (after r s) l i).cur = (after r s).cur from rfl]
    simp only at this
    rw [this]
  unfold hwrite
  rw [e2]
  unfold unlocked
  split
  · exact ⟨false, false, rfl⟩
  · exact ⟨l, i, rfl⟩
theorem withL_self (s t : S) (l i : Bool) (h : s = withL t l i) : withL t s.lk s.ins = s := by subst h; rfl
/-- An erase behind whatever is as the erase alone, but for Locked and Insert. -/
theorem erase_behind {s t : S} (h1 : t.rows = s.rows) (h2 : t.cols = s.cols) (h3 : t.cs.length = s.cs.length) (r u : Bool) (os : List O) : withL (hwrite (herased s) r u os) (hwrite (herased t) r u os).lk (hwrite (herased t) r u os).ins = hwrite (herased t) r u os := by
  have e : herased t = withL (herased s) t.lk t.ins := by
    obtain ⟨r1, c1, cs1, cu1, l1, i1⟩ := t
    simp only at h1 h2 h3
    subst h1 h2
    simp [herased, withL, h3]
  obtain ⟨l', i', e2⟩ := hwrite_withL (herased s) t.lk t.ins r u os
  rw [← e] at e2
  exact withL_self _ _ _ _ e2
theorem erase_same {s t : S} (h1 : t.rows = s.rows) (h2 : t.cols = s.cols) (h3 : t.cs.length = s.cs.length) : herased (withL t s.lk s.ins) = herased s := by
  simp [herased, withL, h1, h2, h3]
theorem hreset_rest (s : S) (all : Bool) : (hreset s all).rows = s.rows ∧ (hreset s all).cols = s.cols ∧ (hreset s all).cs.length = s.cs.length ∧ (hreset s all).lk = s.lk ∧ (hreset s all).ins = s.ins := ⟨rfl, rfl, resetC_length _ _, rfl, rfl⟩
theorem hwrite_rest (s : S) (r u : Bool) (os : List O) : (hwrite s r u os).rows = s.rows ∧ (hwrite s r u os).cols = s.cols ∧ (hwrite s r u os).cs.length = s.cs.length := by
  obtain ⟨h1, h2, h3, _, _⟩ := pall_rest os (after r s, (after r s).cur.toNat)
  have e : (after r s).rows = s.rows ∧ (after r s).cols = s.cols := by unfold after; split <;> exact ⟨rfl, rfl⟩
  have e3 := after_length r s
  unfold hwrite unlocked
  split
  · exact ⟨h1.trans e.1, h2.trans e.2, h3.trans e3⟩
  · exact ⟨h1.trans e.1, h2.trans e.2, h3.trans e3⟩
theorem hdo_rest (s : S) (o : Cm) : (hdo s o).rows = s.rows ∧ (hdo s o).cols = s.cols ∧ (hdo s o).cs.length = s.cs.length := by
  unfold hdo
  split
  · exact ⟨rfl, rfl, rfl⟩
  split
  · exact ⟨rfl, rfl, hclean_length s⟩
  split
  · obtain ⟨h1, h2, h3⟩ := hwrite_rest (herased s) o.r o.u o.os
    exact ⟨h1, h2, h3.trans (by simp [herased])⟩
  · exact hwrite_rest _ _ _ _
theorem clean_ok (z : Nat) : (Go.Proofs.YtaopkelobglnbaaDoor.Str.cwrite ⟨111, false, false, false, []⟩ z).2.1 = 0 := by simp [Go.Proofs.YtaopkelobglnbaaDoor.Str.cwrite, Go.Proofs.YtaopkelobglnbaaDoor.Str.known, Go.Proofs.YtaopkelobglnbaaDoor.Str.writes]
theorem right_sound {s : S} (h : sright s = true) : Sound s.cs := by
  obtain ⟨_, _, _, _, h5⟩ := sright_parts h
  intro o ho
  have h1 := h5 o ho
  obtain ⟨f, p, n, q, m, c⟩ := o
  cases f with
  | true => simp [cright] at h1; simp only; omega
  | false =>
    simp [cright, Att.char] at h1
    simp only
    omega
/-- Where Clean leaves the cursor. -/
theorem clean_end {s : S} (h : 0 < s.cs.length) : (next s.cs 0 < 0 ∧ curOf s.cs = 0) ∨ (0 ≤ next s.cs 0 ∧ ∃ c : Nat, curOf s.cs = (c : Int) ∧ c < s.cs.length ∧ open_ (hclean s).cs c = true) := by
  rcases next_cases (cs := s.cs) (a := 0) h with ⟨h1, h2⟩ | ⟨k, o, _, _, _, g1, g2, _, g3⟩
  · refine .inl ⟨by rw [h1]; decide, ?_⟩
    rcases next_cases (cs := s.cs) (a := s.cs.length - 1) (by omega) with ⟨h3, _⟩ | ⟨_, o, _, _, _, g1, g2, _, _⟩
    · unfold curOf; rw [h3]; rfl
    · rw [h2 o g1] at g2; cases g2
  · refine .inr ⟨by rw [g3]; omega, ?_⟩
    rcases next_cases (cs := s.cs) (a := s.cs.length - 1) (by omega) with ⟨_, h3⟩ | ⟨_, o', _, _, _, g4, g5, _, g6⟩
    · rw [h3 o g1] at g2; cases g2
    · obtain ⟨_, _, _, hop⟩ := first_cell g4 g5
      refine ⟨on s.cs.length (o' : Int) 1, ?_, on_lt h _ _, ?_⟩
      · unfold curOf; rw [g6, if_neg (by omega)]
      · rw [alike_open (alike_clean s)]; exact hop
/-- What Clean leaves of a cell. -/
theorem clean_cell {s : S} {i : Nat} (hi : i < s.cs.length) : (open_ s.cs i = true ∧ ((hclean s).cs.getD i noC).f = false ∧ ((hclean s).cs.getD i noC).c = 0) ∨ (open_ s.cs i = false ∧ (hclean s).cs.getD i noC = unmod false (s.cs.getD i noC)) := by
  rw [hclean_getD s i hi]
  cases h : open_ s.cs i with
  | true => exact .inl ⟨rfl, by rw [if_pos rfl]; exact ((unmod_fp _ _).1).trans (open_fat h), by rw [if_pos rfl]⟩
  | false => exact .inr ⟨rfl, by rw [if_neg (by decide)]⟩
end Hst
end Go.Proofs.YtaopkelobglnbaaDoor
/- What the calls of package host answer. -/
namespace Go.Proofs.YtaopkelobglnbaaDoor
open Go.RowKit Sha Six Apd Cut Err Att Grd Fld Pnt
set_option linter.unusedVariables false
namespace Hst
/-- A screen whose cells are new memory, no error. -/
def GaveS (w w' : World) (t : S) (e : Ending) : Prop := ∃ va vc, e = .returned (.tuple #[.agg #[.int .i64 t.rows, .int .i64 t.cols, .slice va t.cs.length vc, .int .i64 t.cur, .bool t.lk, .bool t.ins], .nilIface]) ∧ OwnCels w' w.heap.size (.slice va t.cs.length vc) t.cs ∧ Below w.heap.size w w'
/-- The screen as it was handed in, an error of this number and place. -/
def RefusedS (w w' : World) (s : S) (code wh : Int) (e : Ending) : Prop := ∃ va vc ev, e = .returned (.tuple #[.agg #[.int .i64 s.rows, .int .i64 s.cols, .slice va s.cs.length vc, .int .i64 s.cur, .bool s.lk, .bool s.ins], ev]) ∧ CelsIn w' (.slice va s.cs.length vc) s.cs ∧ Err.Told w' ev code wh ∧ Below w.heap.size w w'
/-- A screen alone, its cells new memory. -/
def GaveA (w w' : World) (t : S) (e : Ending) : Prop := ∃ va vc, e = .returned (.agg #[.int .i64 t.rows, .int .i64 t.cols, .slice va t.cs.length vc, .int .i64 t.cur, .bool t.lk, .bool t.ins]) ∧ OwnCels w' w.heap.size (.slice va t.cs.length vc) t.cs ∧ Below w.heap.size w w'
/-- A screen alone, its cells somewhere. -/
def ShownA (w w' : World) (t : S) (e : Ending) : Prop := ∃ va vc, e = .returned (.agg #[.int .i64 t.rows, .int .i64 t.cols, .slice va t.cs.length vc, .int .i64 t.cur, .bool t.lk, .bool t.ins]) ∧ CelsIn w' (.slice va t.cs.length vc) t.cs ∧ Below w.heap.size w w'
end Hst
end Go.Proofs.YtaopkelobglnbaaDoor
/- Five cells of a block; where a screen's cells don't lie. -/
namespace Go.Proofs.YtaopkelobglnbaaDoor
open Go.RowKit Sha Six Apd Cut Err Att Grd Fld Pnt
set_option linter.unusedVariables false
namespace Hst
theorem cells5o {w : World} {B : Nat} {t : TypeId} {a0 a1 a2 a3 a4 : Value} (h : w.heap[B]? = some (.cells #[a0, a1, a2, a3, a4] t (0, 0))) :
    w.cell? ⟨B, 0, none⟩ = some a0 ∧ w.cell? ⟨B, 1, none⟩ = some a1 ∧ w.cell? ⟨B, 2, none⟩ = some a2 ∧ w.cell? ⟨B, 3, none⟩ = some a3 ∧ w.cell? ⟨B, 4, none⟩ = some a4 :=
  ⟨cell_of_row _ _ 0 _ _ _ h, cell_of_row _ _ 1 _ _ _ h, cell_of_row _ _ 2 _ _ _ h, cell_of_row _ _ 3 _ _ _ h, cell_of_row _ _ 4 _ _ _ h⟩
/-- Cells of a screen don't lie in a block that holds a screen's own six values. -/
theorem not_screen {w : World} {ad : Option Addr} {n c b : Nat} {cs : List C} {t : TypeId} {kd : IntKind} {v : Int} {a1 a2 a3 a4 a5 : Value} (h : CelsIn w (.slice ad n c) cs) (h0 : 0 < cs.length) (hb : w.heap[b]? = some (.cells #[.int kd v, a1, a2, a3, a4, a5] t (0, 0))) : ∀ x, ad = some x → x.block ≠ b ∧ x.block < w.heap.size := by
  intro x hx
  obtain ⟨f, p, n', q, m, ch, ec⟩ := c_eta (cs.getD 0 noC)
  obtain ⟨b1, o1, e1, g0, _, _, _, _, g5⟩ := h.cells h0 ec
  rw [hx] at e1
  injection e1 with e1
  subst e1
  refine ⟨fun e => ?_, Str.cell_lt g0⟩
  simp only at e
  subst e
  rw [cell_of_row w b1 (o1 + 0 * 6) _ t (0, 0) hb] at g0
  rw [cell_of_row w b1 (o1 + 0 * 6 + 5) _ t (0, 0) hb] at g5
  rcases Nat.eq_zero_or_pos o1 with h1 | h1
  · subst h1
    simp at g0
  · rw [Array.getElem?_eq_none (by simp; omega)] at g5
    cases g5
end Hst
end Go.Proofs.YtaopkelobglnbaaDoor
