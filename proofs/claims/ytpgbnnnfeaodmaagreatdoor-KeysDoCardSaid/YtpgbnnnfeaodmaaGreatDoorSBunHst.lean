/- HstSpec, HstMore, HstGave, HstAt, HstRef, HstRdo, HstRwr in one text (by tools/bundle.py). -/
import Derived.Test.YtpgbnnnfeaodmaaGreatDoorSBunPnt
import Derived.Test.YtpgbnnnfeaodmaaGreatDoorSBunFld
import Derived.Test.YtpgbnnnfeaodmaaGreatDoorSBunGrd
import Derived.Test.YtpgbnnnfeaodmaaGreatDoorSBunLow
import Derived.StillTailTactics
/- Plain: what host commands do on a screen. -/
namespace Go.Proofs.YtpgbnnnfeaodmaaGreatDoor
set_option linter.unusedVariables false
namespace Hst
open Grd Fld Pnt
open Go.Proofs.YtpgbnnnfeaodmaaGreatDoor.Ord (O wrong none_)
open Go.Proofs.YtpgbnnnfeaodmaaGreatDoor.Str (Cm cwrite known writes ow)
def unmod (all : Bool) (o : C) : C := if (o.f && (all || !o.p)) = true then { o with m := false } else o
def resetC (all : Bool) (cs : List C) : List C := cs.map (unmod all)
def resetTo (all : Bool) (cs : List C) (q : Nat) : List C := (cs.take q).map (unmod all) ++ cs.drop q
def hreset (s : S) (all : Bool) : S := { s with cs := resetC all s.cs }
def curOf (cs : List C) : Int := if next cs (cs.length - 1) < 0 then 0 else next cs (cs.length - 1)
def hclean (s : S) : S := ⟨s.rows, s.cols, wipes s.cs (resetC false s.cs) (List.range s.cs.length), curOf s.cs, false, false⟩
def herased (s : S) : S := { s with cs := List.replicate s.cs.length noC, cur := 0 }
def unlocked (u : Bool) (s : S) : S := if u then { s with lk := false, ins := false } else s
def after (r : Bool) (s : S) : S := if r then hreset s true else s
def hwrite (s : S) (r u : Bool) (os : List O) : S := unlocked u (pall (after r s, (after r s).cur.toNat) os).1
def hdo (s : S) (o : Cm) : S :=
  if o.cmd = 242 ∨ o.cmd = 246 then s
  else if o.cmd = 111 then hclean s
  else if o.cmd = 245 then hwrite (herased s) o.r o.u o.os
  else hwrite s o.r o.u o.os
theorem resetC_length (all : Bool) (cs : List C) : (resetC all cs).length = cs.length := by simp [resetC]
theorem resetTo_length (all : Bool) (cs : List C) (q : Nat) : (resetTo all cs q).length = cs.length := by simp [resetTo]; omega
theorem resetTo_zero (all : Bool) (cs : List C) : resetTo all cs 0 = cs := by simp [resetTo]
theorem resetTo_all (all : Bool) (cs : List C) : resetTo all cs cs.length = resetC all cs := by simp [resetTo, resetC]
theorem resetC_getD (all : Bool) (cs : List C) (i : Nat) : (resetC all cs).getD i noC = unmod all (cs.getD i noC) := by
  unfold resetC
  simp only [List.getD_eq_getElem?_getD, List.getElem?_map]
  cases cs[i]? with
  | none => cases all <;> rfl
  | some o => rfl
theorem resetTo_getD (all : Bool) (cs : List C) (q i : Nat) (hq : q ≤ cs.length) : (resetTo all cs q).getD i noC = if i < q then unmod all (cs.getD i noC) else cs.getD i noC := by
  unfold resetTo
  simp only [List.getD_eq_getElem?_getD]
  split
  · rename_i h
    rw [List.getElem?_append_left (by simp; omega), List.getElem?_map, List.getElem?_take_of_lt h, List.getElem?_eq_getElem (by omega)]; rfl
  · rename_i h
    rw [List.getElem?_append_right (by simp; omega), List.getElem?_drop, List.length_map, List.length_take, show q + (i - min q cs.length) = i by omega]
theorem resetTo_succ (all : Bool) (cs : List C) {q : Nat} (hq : q < cs.length) : resetTo all cs (q + 1) = (resetTo all cs q).set q (unmod all (cs.getD q noC)) := by
  refine c_ext (by rw [List.length_set, resetTo_length, resetTo_length]) fun i hi => ?_
  rw [resetTo_length] at hi
  rw [resetTo_getD _ _ _ _ hq, getD_set, resetTo_length, resetTo_getD _ _ _ _ (by omega)]
  by_cases h : q = i
  · subst h
    simp [hq]
  · by_cases h2 : i < q
    · simp [h, h2, show i < q + 1 by omega]
    · simp [h, h2, show ¬ i < q + 1 by omega]
theorem resetTo_same (all : Bool) (cs : List C) {q : Nat} (hq : q < cs.length) (h : unmod all (cs.getD q noC) = cs.getD q noC) : resetTo all cs (q + 1) = resetTo all cs q := by
  rw [resetTo_succ all cs hq, h]
  refine c_ext (by rw [List.length_set]) fun i hi => ?_
  rw [List.length_set, resetTo_length] at hi
  rw [getD_set, resetTo_length, resetTo_getD _ _ _ _ (by omega)]
  by_cases h2 : q = i
  · subst h2; simp [hq]
  · simp [h2]
theorem unmod_fp (all : Bool) (o : C) : (unmod all o).f = o.f ∧ (unmod all o).p = o.p ∧ (unmod all o).c = o.c := by
  unfold unmod; split <;> simp
theorem unmod_right {all : Bool} {o : C} (h : cright o = true) : cright (unmod all o) = true := by
  obtain ⟨f, p, n, s, m, c⟩ := o
  cases f with
  | false => simpa [unmod, cright] using h
  | true =>
    unfold unmod
    split
    · simpa [cright] using h
    · exact h
theorem resetC_allR {all : Bool} {cs : List C} (h : AllR cs) : AllR (resetC all cs) := by
  intro o ho
  simp only [resetC, List.mem_map] at ho
  obtain ⟨x, hx, rfl⟩ := ho
  exact unmod_right (h x hx)
theorem resetC_sound {all : Bool} {cs : List C} (h : Sound cs) : Sound (resetC all cs) := by
  intro o ho
  simp only [resetC, List.mem_map] at ho
  obtain ⟨x, hx, rfl⟩ := ho
  rw [(unmod_fp all x).2.2]; exact h x hx
theorem wipes_succ (cs0 cs : List C) (q : Nat) : wipes cs0 cs (List.range (q + 1)) = wipe1 cs0 (wipes cs0 cs (List.range q)) q := by
  unfold wipes; rw [List.range_succ, List.foldl_append]; rfl
theorem wipes_range (cs0 cs : List C) : ∀ (q : Nat), q ≤ cs.length → ∀ i, (wipes cs0 cs (List.range q)).getD i noC = if i < q ∧ open_ cs0 i = true then { cs.getD i noC with c := 0 } else cs.getD i noC := by
  intro q
  induction q with
  | zero => intro _ i; simp [wipes]
  | succ q ih =>
    intro hq i
    have ih := ih (by omega)
    have e : wipes cs0 cs (List.range (q + 1)) = wipe1 cs0 (wipes cs0 cs (List.range q)) q := by
      unfold wipes; rw [List.range_succ, List.foldl_append]; rfl
    rw [e]
    unfold wipe1
    by_cases ho : open_ cs0 q = true
    · rw [if_pos ho, getD_set, wipes_length]
      by_cases hi : q = i
      · subst hi
        rw [if_pos ⟨rfl, by omega⟩, if_pos ⟨by omega, ho⟩, ih q, if_neg (by omega)]
      · rw [if_neg (by omega), ih i]
        by_cases h2 : i < q
        · simp [h2, show i < q + 1 by omega]
        · simp [h2, show ¬ i < q + 1 by omega]
    · rw [if_neg ho, ih i]
      by_cases hi : q = i
      · subst hi; simp [ho]
      · by_cases h2 : i < q
        · simp [h2, show i < q + 1 by omega]
        · simp [h2, show ¬ i < q + 1 by omega]
theorem hclean_getD (s : S) (i : Nat) (hi : i < s.cs.length) : (hclean s).cs.getD i noC = if open_ s.cs i = true then { unmod false (s.cs.getD i noC) with c := 0 } else unmod false (s.cs.getD i noC) := by
  show (wipes s.cs (resetC false s.cs) (List.range s.cs.length)).getD i noC = _
  rw [wipes_range _ _ _ (by rw [resetC_length]; exact Nat.le_refl _), resetC_getD]
  by_cases h : open_ s.cs i = true <;> simp [h, hi]
theorem hclean_length (s : S) : (hclean s).cs.length = s.cs.length := by
  show (wipes s.cs (resetC false s.cs) (List.range s.cs.length)).length = _
  rw [wipes_length, resetC_length]
theorem alike_clean (s : S) : Fld.Alike (hclean s).cs s.cs := by
  refine ⟨hclean_length s, fun i => ?_⟩
  by_cases hi : i < s.cs.length
  · rw [hclean_getD s i hi]
    obtain ⟨h1, h2, _⟩ := unmod_fp false (s.cs.getD i noC)
    split
    · exact ⟨h1, h2⟩
    · exact ⟨h1, h2⟩
  · have e : ∀ xs : List C, xs.length = s.cs.length → xs.getD i noC = noC := fun xs h => by
      rw [List.getD_eq_getElem?_getD, List.getElem?_eq_none (by omega)]; rfl
    rw [e _ (hclean_length s), e _ rfl]; exact ⟨rfl, rfl⟩
theorem next_bounds {cs : List C} {a : Nat} (ha : a < cs.length) : -1 ≤ next cs a ∧ next cs a < (cs.length : Int) := by
  rcases next_cases ha with ⟨h, _⟩ | ⟨k, o, _, _, _, _, _, _, h⟩
  · rw [h]; omega
  · rw [h]
    have := on_lt (show 0 < cs.length by omega) (o : Int) 1
    omega
theorem curOf_bounds {cs : List C} (h : 0 < cs.length) : 0 ≤ curOf cs ∧ curOf cs < (cs.length : Int) := by
  unfold curOf
  have := next_bounds (cs := cs) (a := cs.length - 1) (by omega)
  split <;> omega
theorem hclean_allR {s : S} (h : AllR s.cs) : AllR (hclean s).cs := by
  intro o ho
  obtain ⟨i, hi, rfl⟩ := mem_getD ho
  rw [hclean_length] at hi
  rw [hclean_getD s i hi]
  have h1 := unmod_right (all := false) (h _ (getD_mem hi))
  split
  · rename_i hop
    have hf : (unmod false (s.cs.getD i noC)).f = false := by rw [(unmod_fp _ _).1]; exact open_fat hop
    generalize unmod false (s.cs.getD i noC) = x at *
    obtain ⟨f, p, n, q, m, c⟩ := x
    simp only at hf
    subst hf
    simp only [cright, Bool.false_eq_true, if_false, Bool.and_eq_true] at h1 ⊢
    exact ⟨h1.1, char_0⟩
  · exact h1
theorem sright_of {s : S} {rows cols : Int} {cs : List C} (h : sright s = true) (hr : s.rows = rows) (hc : s.cols = cols) (hl : cs.length = s.cs.length) (ha : AllR cs) {cur : Int} (h0 : 0 ≤ cur) (h1 : cur < (s.cs.length : Int)) (lk ins : Bool) : sright ⟨rows, cols, cs, cur, lk, ins⟩ = true := by
  obtain ⟨g1, g2, _, _, _⟩ := sright_parts h
  subst hr hc
  simp only [sright, Bool.and_eq_true, decide_eq_true_eq, List.all_eq_true]
  rw [hl]
  exact ⟨g1, g2, h0, h1, ha⟩
theorem hclean_right {s : S} (h : sright s = true) : sright (hclean s) = true := by
  obtain ⟨_, _, g3, g4, g5⟩ := sright_parts h
  obtain ⟨b1, b2⟩ := curOf_bounds (cs := s.cs) (by omega)
  exact sright_of h rfl rfl (hclean_length s) (hclean_allR g5) b1 b2 _ _
theorem hreset_right {s : S} {all : Bool} (h : sright s = true) : sright (hreset s all) = true := by
  obtain ⟨_, _, g3, g4, g5⟩ := sright_parts h
  exact sright_of h rfl rfl (resetC_length _ _) (resetC_allR g5) g3 g4 _ _
theorem herased_right {s : S} (h : sright s = true) : sright (herased s) = true := by
  obtain ⟨_, _, g3, g4, _⟩ := sright_parts h
  refine sright_of h rfl rfl (by simp) (fun o ho => ?_) (Int.le_refl 0) (by omega) _ _
  rw [(List.mem_replicate.1 ho).2]; decide +kernel
theorem ow_right {z : Nat} : ∀ (os : List O) (p : Bool) (i : Nat), (ow z p i os).1 = 0 → ∀ o ∈ os, wrong o z = 0 := by
  intro os
  induction os with
  | nil => intro p i _ o ho; cases ho
  | cons x os ih =>
    intro p i h o ho
    unfold ow at h
    split at h
    · rename_i hx; exact absurd h hx
    · rename_i hx
      split at h
      · cases h
      · rcases List.mem_cons.1 ho with rfl | h2
        · omega
        · exact ih _ _ h o h2
theorem cwrite_right {o : Cm} {z : Nat} (h : (cwrite o z).2.1 = 0) : known o.cmd = true ∧ (writes o.cmd = true → ∀ x ∈ o.os, wrong x z = 0) ∧ (writes o.cmd = false → o.a = false ∧ o.u = false ∧ o.r = false ∧ o.os = []) := by
  unfold cwrite at h
  split at h
  · cases h
  rename_i hk
  have hk : known o.cmd = true := by simpa using hk
  refine ⟨hk, fun hw => ?_, fun hw => ?_⟩
  · rw [if_neg (by rw [hw]; decide)] at h
    split at h
    · rename_i h1; exact absurd h h1
    · rename_i h1; exact ow_right o.os false 0 (Decidable.not_not.1 h1)
  · rw [if_pos hw] at h
    split at h
    · cases h
    · rename_i h1
      simp only [Bool.or_eq_true, not_or, Bool.not_eq_true] at h1
      obtain ⟨⟨⟨h2, h3⟩, h4⟩, h5⟩ := h1
      exact ⟨h2, h3, h4, by simpa using h5⟩
theorem known_cases {c : Int} (h : known c = true) : c = 241 ∨ c = 245 ∨ c = 111 ∨ c = 242 ∨ c = 246 := by
  simp only [known, writes, Bool.or_eq_true, beq_iff_eq] at h
  omega
end Hst
end Go.Proofs.YtpgbnnnfeaodmaaGreatDoor
/- Plain: erases hang on little; where Clean leaves the cursor. -/
namespace Go.Proofs.YtpgbnnnfeaodmaaGreatDoor
set_option linter.unusedVariables false
namespace Hst
open Grd Fld Pnt
open Go.Proofs.YtpgbnnnfeaodmaaGreatDoor.Ord (O wrong none_)
open Go.Proofs.YtpgbnnnfeaodmaaGreatDoor.Str (Cm cwrite known writes ow)
theorem hreset_rest (s : S) (all : Bool) : (hreset s all).rows = s.rows ∧ (hreset s all).cols = s.cols ∧ (hreset s all).cs.length = s.cs.length ∧ (hreset s all).lk = s.lk ∧ (hreset s all).ins = s.ins := ⟨rfl, rfl, resetC_length _ _, rfl, rfl⟩
theorem clean_ok (z : Nat) : (Go.Proofs.YtpgbnnnfeaodmaaGreatDoor.Str.cwrite ⟨111, false, false, false, []⟩ z).2.1 = 0 := by simp [Go.Proofs.YtpgbnnnfeaodmaaGreatDoor.Str.cwrite, Go.Proofs.YtpgbnnnfeaodmaaGreatDoor.Str.known, Go.Proofs.YtpgbnnnfeaodmaaGreatDoor.Str.writes]
theorem right_sound {s : S} (h : sright s = true) : Sound s.cs := by
  obtain ⟨_, _, _, _, h5⟩ := sright_parts h
  intro o ho
  have h1 := h5 o ho
  obtain ⟨f, p, n, q, m, c⟩ := o
  cases f with
  | true => simp [cright] at h1; simp only; omega
  | false =>
    simp [cright, Att.char] at h1
    simp only
    omega
end Hst
end Go.Proofs.YtpgbnnnfeaodmaaGreatDoor
/- What the calls of package host answer. -/
namespace Go.Proofs.YtpgbnnnfeaodmaaGreatDoor
open Go.RowKit Sha Six Apd Cut Err Att Grd Fld Pnt
set_option linter.unusedVariables false
namespace Hst
def GaveS (w w' : World) (t : S) (e : Ending) : Prop := ∃ va vc, e = .returned (.tuple #[.agg #[.int .i64 t.rows, .int .i64 t.cols, .slice va t.cs.length vc, .int .i64 t.cur, .bool t.lk, .bool t.ins], .nilIface]) ∧ OwnCels w' w.heap.size (.slice va t.cs.length vc) t.cs ∧ Below w.heap.size w w'
def GaveA (w w' : World) (t : S) (e : Ending) : Prop := ∃ va vc, e = .returned (.agg #[.int .i64 t.rows, .int .i64 t.cols, .slice va t.cs.length vc, .int .i64 t.cur, .bool t.lk, .bool t.ins]) ∧ OwnCels w' w.heap.size (.slice va t.cs.length vc) t.cs ∧ Below w.heap.size w w'
def ShownA (w w' : World) (t : S) (e : Ending) : Prop := ∃ va vc, e = .returned (.agg #[.int .i64 t.rows, .int .i64 t.cols, .slice va t.cs.length vc, .int .i64 t.cur, .bool t.lk, .bool t.ins]) ∧ CelsIn w' (.slice va t.cs.length vc) t.cs ∧ Below w.heap.size w w'
end Hst
end Go.Proofs.YtpgbnnnfeaodmaaGreatDoor
/- Five cells of a block; where a screen's cells don't lie. -/
namespace Go.Proofs.YtpgbnnnfeaodmaaGreatDoor
open Go.RowKit Sha Six Apd Cut Err Att Grd Fld Pnt
set_option linter.unusedVariables false
namespace Hst
theorem cells5o {w : World} {B : Nat} {t : TypeId} {a0 a1 a2 a3 a4 : Value} (h : w.heap[B]? = some (.cells #[a0, a1, a2, a3, a4] t (0, 0))) :
    w.cell? ⟨B, 0, none⟩ = some a0 ∧ w.cell? ⟨B, 1, none⟩ = some a1 ∧ w.cell? ⟨B, 2, none⟩ = some a2 ∧ w.cell? ⟨B, 3, none⟩ = some a3 ∧ w.cell? ⟨B, 4, none⟩ = some a4 :=
  ⟨cell_of_row _ _ 0 _ _ _ h, cell_of_row _ _ 1 _ _ _ h, cell_of_row _ _ 2 _ _ _ h, cell_of_row _ _ 3 _ _ _ h, cell_of_row _ _ 4 _ _ _ h⟩
theorem not_screen {w : World} {ad : Option Addr} {n c b : Nat} {cs : List C} {t : TypeId} {kd : IntKind} {v : Int} {a1 a2 a3 a4 a5 : Value} (h : CelsIn w (.slice ad n c) cs) (h0 : 0 < cs.length) (hb : w.heap[b]? = some (.cells #[.int kd v, a1, a2, a3, a4, a5] t (0, 0))) : ∀ x, ad = some x → x.block ≠ b ∧ x.block < w.heap.size := by
  intro x hx
  obtain ⟨f, p, n', q, m, ch, ec⟩ := c_eta (cs.getD 0 noC)
  obtain ⟨b1, o1, e1, g0, _, _, _, _, g5⟩ := h.cells h0 ec
  rw [hx] at e1
  injection e1 with e1
  subst e1
  refine ⟨fun e => ?_, Str.cell_lt g0⟩
  simp only at e
  subst e
  rw [cell_of_row w b1 (o1 + 0 * 6) _ t (0, 0) hb] at g0
  rw [cell_of_row w b1 (o1 + 0 * 6 + 5) _ t (0, 0) hb] at g5
  rcases Nat.eq_zero_or_pos o1 with h1 | h1
  · subst h1
    simp at g0
  · rw [Array.getElem?_eq_none (by simp; omega)] at g5
    cases g5
end Hst
end Go.Proofs.YtpgbnnnfeaodmaaGreatDoor
/- The document's Reset of layer 13. Written by tools/gen_hst_ref.py. -/
namespace Go.Proofs.YtpgbnnnfeaodmaaGreatDoor
open Go.RowKit Sha Six Apd Cut Err Att Grd Fld Pnt
set_option linter.unusedVariables false
namespace Hst
set_option maxRecDepth 100000 in
set_option maxHeartbeats 8000000 in
theorem rreset_any (s : S) (ad : Option Addr) (k : Nat) (all : Bool) (w : World) (h : CelsIn w (.slice ad s.cs.length k) s.cs) (hl : s.cs.length < 10000) (hz : 0 < s.cs.length) :
    Calls Tryz.prog 75 #[.agg #[.int .i64 s.rows, .int .i64 s.cols, .slice ad s.cs.length k, .int .i64 s.cur, .bool s.lk, .bool s.ins], .bool all] w fun e w' => GaveA w w' (hreset s all) e := by
  obtain ⟨r, c, cs, cur, lk, ins⟩ := s
  simp only at *
  have HB := Lib.hid (kept_trans (al_any w (.cells #[.int .i64 r, .int .i64 c, .slice ad cs.length k, .int .i64 cur, .bool lk, .bool ins] 24)) (al_any _ (.cells #[.int .i64 0, .int .i64 0, .slice none 0 0, .int .i64 0, .bool false, .bool false] 24)))
  have HX := Lib.hid (heap_alloc2_old w (.cells #[.int .i64 r, .int .i64 c, .slice ad cs.length k, .int .i64 cur, .bool lk, .bool ins] 24) (.cells #[.int .i64 0, .int .i64 0, .slice none 0 0, .int .i64 0, .bool false, .bool false] 24))
  have HZ := Lib.hid (heap_alloc2_new w (.cells #[.int .i64 r, .int .i64 c, .slice ad cs.length k, .int .i64 cur, .bool lk, .bool ins] 24) (.cells #[.int .i64 0, .int .i64 0, .slice none 0 0, .int .i64 0, .bool false, .bool false] 24))
  have HI0 := Lib.hid h
  have HI := Lib.hid (h.below HB.out)
  have HC := Lib.hid fun W hb => rcopy_any ⟨r, c, cs, cur, lk, ins⟩ ad k W (HI.out.below hb) (by simp only; omega)
  simp only at HC
  have HL := Lib.hid hl
  have HP := Lib.hid hz
  clear h hl hz
  go_enter Tryz.func75, Tryz.ntmps75
  go_upto_region 1 with (fail)
  generalize (w.alloc _).alloc _ = w1 at *
  obtain ⟨c0, c1, c2, c3, c4, c5⟩ := cells6 HX.out
  go_wp2_with fail
  with_reducible refine (HC.out _ (Below.refl _ _)).mono ?_
  rintro e w2 ⟨va, vc, rfl, ho, hb⟩
  clear c0 c1 c2 c3 c4 c5
  obtain ⟨g, vd, e1, hg1, hg2, _⟩ := OwnCels.at ho HP.out
  injection e1 with e1 e2 e3
  subst e1
  subst e3
  clear e2
  have hz0 := there_lt HZ.out
  have HA2 := al_any w2 (.cells #[.int .i64 r, .int .i64 c, .slice (some ⟨g, 0, none⟩) cs.length vc, .int .i64 cur, .bool lk, .bool ins] 24)
  have L3 := Lib.hid (heap_alloc_new w2 (.cells #[.int .i64 r, .int .i64 c, .slice (some ⟨g, 0, none⟩) cs.length vc, .int .i64 cur, .bool lk, .bool ins] 24))
  have X3 := Lib.hid (blk HX.out (kept_trans hb HA2))
  have Z3 := Lib.hid (blk HZ.out (kept_trans hb HA2))
  have O3 := Lib.hid ((OwnCels.below ho HA2).mono HB.out.size)
  have K3 := Lib.hid (kept_trans HB.out (kept_trans hb HA2))
  have hsz := hb.size
  clear HA2 ho hb HX HZ HC HB HI
  go_upto_region 3 with (fail)
  generalize w2.alloc _ = w3 at *
  have HG1 := Lib.hid (show w.heap.size + 1 < g from by omega)
  have HG2 := Lib.hid hg2
  clear hg1 hg2 hz0 hsz
  generalize w2.heap.size = G at *
  go_wp2_with fail
  rw [← resetTo_zero all cs] at O3
  go_loopg [6] (cs.length + 1) (fun mm ii wr => ∃ q : Nat, q ≤ cs.length ∧ mm = cs.length + 1 - q ∧ ii = .int .i64 q ∧ Hid (OwnCels wr w.heap.size (.slice (some ⟨g, 0, none⟩) cs.length vc) (resetTo all cs q)) ∧ Hid (wr.heap[G]? = some (.cells #[.int .i64 r, .int .i64 c, .slice (some ⟨g, 0, none⟩) cs.length vc, .int .i64 cur, .bool lk, .bool ins] 24 (0, 0))) ∧ Hid (wr.heap[w.heap.size]? = some (.cells #[.int .i64 r, .int .i64 c, .slice ad cs.length k, .int .i64 cur, .bool lk, .bool ins] 24 (0, 0))) ∧ Hid (wr.heap[w.heap.size + 1]? = some (.cells #[.int .i64 0, .int .i64 0, .slice none 0 0, .int .i64 0, .bool false, .bool false] 24 (0, 0))) ∧ Hid (Below w.heap.size w wr))
  case atStart => exact ⟨0, Nat.zero_le _, rfl, rfl, O3, L3, X3, Z3, K3⟩
  case round =>
    obtain ⟨q, hq, rfl, rfl, O4, L4, X4, Z4, K4⟩ := hrel
    clear O3 L3 X3 Z3 K3
    have ew : IntKind.i64.wrap ((q : Int) + 1) = (q : Int) + 1 := by
      have := HL.out
      rw [IntWalk.i64_in] <;> omega
    obtain ⟨c0, c1, c2, c3, c4, c5⟩ := cells6 L4.out
    by_cases hlt : q < cs.length
    · obtain ⟨d0, d1, d2, d3, d4, d5⟩ := cells6 X4.out
      have HSA := Lib.hid (resetTo_same all cs hlt)
      have HSU := Lib.hid (resetTo_succ all cs hlt)
      have HGD := Lib.hid (resetTo_getD all cs q q (Nat.le_of_lt hlt))
      have HLD := Lib.hid (show q < (resetTo all cs q).length from by rw [resetTo_length]; exact hlt)
      obtain ⟨yf, yp, yn, ys, ym, yc, ey⟩ := c_eta (cs.getD q noC)
      obtain ⟨b1, o1, rfl, g0, g1, g2, g3, g4, g5⟩ := (HI0.out.below K4.out).cells hlt ey
      rw [ey] at HSA HSU HGD
      rw [if_neg (Nat.lt_irrefl q)] at HGD
      have hi0 : (0 : Int) ≤ (q : Int) := by omega
      have hi1 : (q : Int) < (cs.length : Int) := by omega
      obtain ⟨⟨_, _, _, _, p4, _⟩, fz⟩ := OwnCels.spot O4.out HLD.out HGD.out
      have q4 := fz (q * 6 + 4)
      have p4' : wr.cell? ⟨g, q * 6 + 1 + 3, none⟩ = some (.bool ym) := p4
      have q4' : wr.frozen? ⟨g, q * 6 + 1 + 3, none⟩ = false := q4
      have SO := setm O4.out HLD.out false
      rw [HGD.out] at SO
      have O5 := Lib.hid SO.1
      have L5 := Lib.hid (blk_g L4.out SO.2 (by intro e; injection e with e; have := HG2.out; omega))
      have X5 := Lib.hid (blk_g X4.out SO.2 (by intro e; injection e with e; have := HG1.out; omega))
      have Z5 := Lib.hid (blk_g Z4.out SO.2 (by intro e; injection e with e; have := HG1.out; omega))
      have K5 := Lib.hid (below_grown K4.out SO.2 (by have := HG1.out; omega))
      clear SO fz ey
      cases yf <;> cases all <;> cases yp
      all_goals first
        | (have HS2 := Lib.hid (HSA.out (by simp [unmod]))
           clear O5 L5 X5 Z5 K5 HSA HSU HGD
           go_wp2_with fail
           go_roundg (cs.length + 1 - (q + 1))
           case measure => omega
           case rel => exact ⟨q + 1, by omega, rfl, by first | rfl | go_num, by rw [HS2.out]; exact O4, L4, X4, Z4, K4⟩)
        | (have HS2 := Lib.hid HSU.out
           simp only [unmod, Bool.true_and, Bool.or_true, Bool.true_or, Bool.not_false, if_true] at HS2
           clear HSA HSU HGD O4 L4 X4 Z4 K4
           go_upto_region 4 with (fail)
           clear c0 c1 c2 c3 c4 c5 d0 d1 d2 d3 d4 d5 g0 g1 g2 g3 g4 g5 p4 q4 p4' q4'
           generalize wr.setCell _ _ = wt at *
           go_wp2_with fail
           go_roundg (cs.length + 1 - (q + 1))
           case measure => omega
           case rel => exact ⟨q + 1, by omega, rfl, by first | rfl | go_num, by rw [HS2.out]; exact O5, L5, X5, Z5, K5⟩)
    · obtain rfl : q = cs.length := by omega
      have hn0 : ¬ (cs.length : Int) < (cs.length : Int) := by omega
      rw [resetTo_all] at O4
      obtain ⟨f0, f1, f2, f3, f4, f5⟩ := free6 Z4.out
      obtain ⟨z0, z1, z2, z3, z4, z5⟩ := cells6 Z4.out
      have SF := Lib.hid (over6 wr (w.heap.size + 1) _ _ _ _ _ _ _ (.int .i64 r) (.int .i64 c) (.slice (some ⟨g, 0, none⟩) cs.length vc) (.int .i64 cur) (.bool lk) (.bool ins) Z4.out)
      clear hlt
      go_wp2_with fail
      clear z0 z1 z2 z3 z4 z5 c0 c1 c2 c3 c4 c5 f0 f1 f2 f3 f4 f5
      generalize (((((wr.setCell _ _).setCell _ _).setCell _ _).setCell _ _).setCell _ _).setCell _ _ = w9 at *
      exact bodyPost_ret (v := .agg #[.int .i64 r, .int .i64 c, .slice (some ⟨g, 0, none⟩) cs.length vc, .int .i64 cur, .bool lk, .bool ins]) (results_cell_row rfl _ _ (w.heap.size + 1) 24 _ (0, 0) _ rfl SF.out.1 Tryz.underlying24 rfl (by kernel_rfl)) rfl ⟨some ⟨g, 0, none⟩, vc, by simp [hreset, resetC_length], by simpa [hreset, resetC_length] using OwnCels.away O4.out SF.out.2 (by have := HG1.out; simp [Value.ownBlock]; omega), below_grown K4.out SF.out.2 (by omega)⟩
end Hst
end Go.Proofs.YtpgbnnnfeaodmaaGreatDoor
/- The document's Do of layer 13. Written by tools/gen_hst_ref.py. -/
namespace Go.Proofs.YtpgbnnnfeaodmaaGreatDoor
open Go.RowKit Sha Six Apd Cut Err Att Grd Fld Pnt
set_option linter.unusedVariables false
namespace Hst
set_option maxRecDepth 100000 in
set_option maxHeartbeats 8000000 in
theorem rdo_242 (s : S) (ad : Option Addr) (k : Nat) (fa fu fr : Bool) (al : Option Addr) (nl cl : Nat) (w : World) (h : CelsIn w (.slice ad s.cs.length k) s.cs) (hl : s.cs.length < 10000) (hz : 0 < s.cs.length) :
    Calls Tryz.prog 50 #[.agg #[.int .i64 s.rows, .int .i64 s.cols, .slice ad s.cs.length k, .int .i64 s.cur, .bool s.lk, .bool s.ins], .agg #[.int .i64 242, .bool fa, .bool fu, .bool fr, .slice al nl cl]] w fun e w' => ShownA w w' (s) e := by
  obtain ⟨r, c, cs, cur, lk, ins⟩ := s
  simp only at *
  have HB := Lib.hid (kept_trans (kept_trans (al_any w (.cells #[.int .i64 r, .int .i64 c, .slice ad cs.length k, .int .i64 cur, .bool lk, .bool ins] 24)) (al_any _ (.cells #[.int .i64 242, .bool fa, .bool fu, .bool fr, .slice al nl cl] 82))) (al_any _ (.cells #[.int .i64 0, .int .i64 0, .slice none 0 0, .int .i64 0, .bool false, .bool false] 24)))
  have HX := Lib.hid (heap_alloc3 w (.cells #[.int .i64 r, .int .i64 c, .slice ad cs.length k, .int .i64 cur, .bool lk, .bool ins] 24) (.cells #[.int .i64 242, .bool fa, .bool fu, .bool fr, .slice al nl cl] 82) (.cells #[.int .i64 0, .int .i64 0, .slice none 0 0, .int .i64 0, .bool false, .bool false] 24)).1
  have HY := Lib.hid (heap_alloc3 w (.cells #[.int .i64 r, .int .i64 c, .slice ad cs.length k, .int .i64 cur, .bool lk, .bool ins] 24) (.cells #[.int .i64 242, .bool fa, .bool fu, .bool fr, .slice al nl cl] 82) (.cells #[.int .i64 0, .int .i64 0, .slice none 0 0, .int .i64 0, .bool false, .bool false] 24)).2.1
  have HZ := Lib.hid (heap_alloc3 w (.cells #[.int .i64 r, .int .i64 c, .slice ad cs.length k, .int .i64 cur, .bool lk, .bool ins] 24) (.cells #[.int .i64 242, .bool fa, .bool fu, .bool fr, .slice al nl cl] 82) (.cells #[.int .i64 0, .int .i64 0, .slice none 0 0, .int .i64 0, .bool false, .bool false] 24)).2.2
  have HI0 := Lib.hid h
  have HI := Lib.hid (h.below HB.out)
  have HC := Lib.hid fun W hb => rcopy_any ⟨r, c, cs, cur, lk, ins⟩ ad k W (HI.out.below hb) (by simp only; omega)
  simp only at HC
  have HL := Lib.hid hl
  have HP := Lib.hid hz
  have hlb : (cs.length : Int) < 10000 := by omega
  clear h hl hz
  go_enter Tryz.func50, Tryz.ntmps50
  go_upto_region 1 with (fail)
  generalize ((w.alloc _).alloc _).alloc _ = w1 at *
  obtain ⟨c0, c1, c2, c3, c4, c5⟩ := cells6 HX.out
  go_wp2_with fail
  with_reducible refine (HC.out _ (Below.refl _ _)).mono ?_
  rintro e w2 ⟨va, vc, rfl, ho, hb⟩
  clear c0 c1 c2 c3 c4 c5
  obtain ⟨g, vd, e1, hg1, hg2, _⟩ := OwnCels.at ho HP.out
  injection e1 with e1 e2 e3
  subst e1
  subst e3
  clear e2
  have hz0 := there_lt HZ.out
  have HA2 := al_any w2 (.cells #[.int .i64 r, .int .i64 c, .slice (some ⟨g, 0, none⟩) cs.length vc, .int .i64 cur, .bool lk, .bool ins] 24)
  have L3 := Lib.hid (heap_alloc_new w2 (.cells #[.int .i64 r, .int .i64 c, .slice (some ⟨g, 0, none⟩) cs.length vc, .int .i64 cur, .bool lk, .bool ins] 24))
  have X3 := Lib.hid (blk HX.out (kept_trans hb HA2))
  have Y3 := Lib.hid (blk HY.out (kept_trans hb HA2))
  have Z3 := Lib.hid (blk HZ.out (kept_trans hb HA2))
  have O3 := Lib.hid ((OwnCels.below ho HA2).mono HB.out.size)
  have K3 := Lib.hid (kept_trans HB.out (kept_trans hb HA2))
  have hsz := hb.size
  clear HA2 ho hb HX HY HZ HC HB HI
  go_upto_region 2 with (fail)
  generalize w2.alloc _ = w3 at *
  have HG1 := Lib.hid (show w.heap.size + 2 < g from by omega)
  have HG2 := Lib.hid hg2
  clear hg1 hg2 hz0 hsz
  generalize w2.heap.size = G at *
  obtain ⟨d0, d1, d2, d3, d4⟩ := cells5o Y3.out
  obtain ⟨c0, c1, c2, c3, c4, c5⟩ := cells6 L3.out
  obtain ⟨f0, f1, f2, f3, f4, f5⟩ := free6 Z3.out
  obtain ⟨z0, z1, z2, z3, z4, z5⟩ := cells6 Z3.out
  have SF := Lib.hid (over6 w3 (w.heap.size + 2) _ _ _ _ _ _ _ (.int .i64 r) (.int .i64 c) (.slice (some ⟨g, 0, none⟩) cs.length vc) (.int .i64 cur) (.bool lk) (.bool ins) Z3.out)
  go_wp2_with fail
  clear z0 z1 z2 z3 z4 z5 c0 c1 c2 c3 c4 c5 f0 f1 f2 f3 f4 f5 d0 d1 d2 d3 d4
  generalize (((((w3.setCell _ _).setCell _ _).setCell _ _).setCell _ _).setCell _ _).setCell _ _ = w9 at *
  exact bodyPost_ret (v := .agg #[.int .i64 r, .int .i64 c, .slice (some ⟨g, 0, none⟩) cs.length vc, .int .i64 cur, .bool lk, .bool ins]) (results_cell_row rfl _ _ (w.heap.size + 2) 24 _ (0, 0) _ rfl SF.out.1 Tryz.underlying24 rfl (by kernel_rfl)) rfl ⟨some ⟨g, 0, none⟩, vc, rfl, OwnCels.to (OwnCels.away O3.out SF.out.2 (by have := HG1.out; simp [Value.ownBlock]; omega)), below_grown K3.out SF.out.2 (by omega)⟩
set_option maxRecDepth 100000 in
set_option maxHeartbeats 8000000 in
theorem rdo_246 (s : S) (ad : Option Addr) (k : Nat) (fa fu fr : Bool) (al : Option Addr) (nl cl : Nat) (w : World) (h : CelsIn w (.slice ad s.cs.length k) s.cs) (hl : s.cs.length < 10000) (hz : 0 < s.cs.length) :
    Calls Tryz.prog 50 #[.agg #[.int .i64 s.rows, .int .i64 s.cols, .slice ad s.cs.length k, .int .i64 s.cur, .bool s.lk, .bool s.ins], .agg #[.int .i64 246, .bool fa, .bool fu, .bool fr, .slice al nl cl]] w fun e w' => ShownA w w' (s) e := by
  obtain ⟨r, c, cs, cur, lk, ins⟩ := s
  simp only at *
  have HB := Lib.hid (kept_trans (kept_trans (al_any w (.cells #[.int .i64 r, .int .i64 c, .slice ad cs.length k, .int .i64 cur, .bool lk, .bool ins] 24)) (al_any _ (.cells #[.int .i64 246, .bool fa, .bool fu, .bool fr, .slice al nl cl] 82))) (al_any _ (.cells #[.int .i64 0, .int .i64 0, .slice none 0 0, .int .i64 0, .bool false, .bool false] 24)))
  have HX := Lib.hid (heap_alloc3 w (.cells #[.int .i64 r, .int .i64 c, .slice ad cs.length k, .int .i64 cur, .bool lk, .bool ins] 24) (.cells #[.int .i64 246, .bool fa, .bool fu, .bool fr, .slice al nl cl] 82) (.cells #[.int .i64 0, .int .i64 0, .slice none 0 0, .int .i64 0, .bool false, .bool false] 24)).1
  have HY := Lib.hid (heap_alloc3 w (.cells #[.int .i64 r, .int .i64 c, .slice ad cs.length k, .int .i64 cur, .bool lk, .bool ins] 24) (.cells #[.int .i64 246, .bool fa, .bool fu, .bool fr, .slice al nl cl] 82) (.cells #[.int .i64 0, .int .i64 0, .slice none 0 0, .int .i64 0, .bool false, .bool false] 24)).2.1
  have HZ := Lib.hid (heap_alloc3 w (.cells #[.int .i64 r, .int .i64 c, .slice ad cs.length k, .int .i64 cur, .bool lk, .bool ins] 24) (.cells #[.int .i64 246, .bool fa, .bool fu, .bool fr, .slice al nl cl] 82) (.cells #[.int .i64 0, .int .i64 0, .slice none 0 0, .int .i64 0, .bool false, .bool false] 24)).2.2
  have HI0 := Lib.hid h
  have HI := Lib.hid (h.below HB.out)
  have HC := Lib.hid fun W hb => rcopy_any ⟨r, c, cs, cur, lk, ins⟩ ad k W (HI.out.below hb) (by simp only; omega)
  simp only at HC
  have HL := Lib.hid hl
  have HP := Lib.hid hz
  have hlb : (cs.length : Int) < 10000 := by omega
  clear h hl hz
  go_enter Tryz.func50, Tryz.ntmps50
  go_upto_region 1 with (fail)
  generalize ((w.alloc _).alloc _).alloc _ = w1 at *
  obtain ⟨c0, c1, c2, c3, c4, c5⟩ := cells6 HX.out
  go_wp2_with fail
  with_reducible refine (HC.out _ (Below.refl _ _)).mono ?_
  rintro e w2 ⟨va, vc, rfl, ho, hb⟩
  clear c0 c1 c2 c3 c4 c5
  obtain ⟨g, vd, e1, hg1, hg2, _⟩ := OwnCels.at ho HP.out
  injection e1 with e1 e2 e3
  subst e1
  subst e3
  clear e2
  have hz0 := there_lt HZ.out
  have HA2 := al_any w2 (.cells #[.int .i64 r, .int .i64 c, .slice (some ⟨g, 0, none⟩) cs.length vc, .int .i64 cur, .bool lk, .bool ins] 24)
  have L3 := Lib.hid (heap_alloc_new w2 (.cells #[.int .i64 r, .int .i64 c, .slice (some ⟨g, 0, none⟩) cs.length vc, .int .i64 cur, .bool lk, .bool ins] 24))
  have X3 := Lib.hid (blk HX.out (kept_trans hb HA2))
  have Y3 := Lib.hid (blk HY.out (kept_trans hb HA2))
  have Z3 := Lib.hid (blk HZ.out (kept_trans hb HA2))
  have O3 := Lib.hid ((OwnCels.below ho HA2).mono HB.out.size)
  have K3 := Lib.hid (kept_trans HB.out (kept_trans hb HA2))
  have hsz := hb.size
  clear HA2 ho hb HX HY HZ HC HB HI
  go_upto_region 2 with (fail)
  generalize w2.alloc _ = w3 at *
  have HG1 := Lib.hid (show w.heap.size + 2 < g from by omega)
  have HG2 := Lib.hid hg2
  clear hg1 hg2 hz0 hsz
  generalize w2.heap.size = G at *
  obtain ⟨d0, d1, d2, d3, d4⟩ := cells5o Y3.out
  obtain ⟨c0, c1, c2, c3, c4, c5⟩ := cells6 L3.out
  obtain ⟨f0, f1, f2, f3, f4, f5⟩ := free6 Z3.out
  obtain ⟨z0, z1, z2, z3, z4, z5⟩ := cells6 Z3.out
  have SF := Lib.hid (over6 w3 (w.heap.size + 2) _ _ _ _ _ _ _ (.int .i64 r) (.int .i64 c) (.slice (some ⟨g, 0, none⟩) cs.length vc) (.int .i64 cur) (.bool lk) (.bool ins) Z3.out)
  go_wp2_with fail
  clear z0 z1 z2 z3 z4 z5 c0 c1 c2 c3 c4 c5 f0 f1 f2 f3 f4 f5 d0 d1 d2 d3 d4
  generalize (((((w3.setCell _ _).setCell _ _).setCell _ _).setCell _ _).setCell _ _).setCell _ _ = w9 at *
  exact bodyPost_ret (v := .agg #[.int .i64 r, .int .i64 c, .slice (some ⟨g, 0, none⟩) cs.length vc, .int .i64 cur, .bool lk, .bool ins]) (results_cell_row rfl _ _ (w.heap.size + 2) 24 _ (0, 0) _ rfl SF.out.1 Tryz.underlying24 rfl (by kernel_rfl)) rfl ⟨some ⟨g, 0, none⟩, vc, rfl, OwnCels.to (OwnCels.away O3.out SF.out.2 (by have := HG1.out; simp [Value.ownBlock]; omega)), below_grown K3.out SF.out.2 (by omega)⟩
set_option maxRecDepth 100000 in
set_option maxHeartbeats 8000000 in
theorem rdo_111 (s : S) (ad : Option Addr) (k : Nat)  (al : Option Addr) (nl cl : Nat) (w : World) (h : CelsIn w (.slice ad s.cs.length k) s.cs) (hl : s.cs.length < 10000) (hz : 0 < s.cs.length) :
    Calls Tryz.prog 50 #[.agg #[.int .i64 s.rows, .int .i64 s.cols, .slice ad s.cs.length k, .int .i64 s.cur, .bool s.lk, .bool s.ins], .agg #[.int .i64 111, .bool false, .bool false, .bool false, .slice al nl cl]] w fun e w' => ShownA w w' (hclean s) e := by
  obtain ⟨r, c, cs, cur, lk, ins⟩ := s
  simp only at *
  have HB := Lib.hid (kept_trans (kept_trans (al_any w (.cells #[.int .i64 r, .int .i64 c, .slice ad cs.length k, .int .i64 cur, .bool lk, .bool ins] 24)) (al_any _ (.cells #[.int .i64 111, .bool false, .bool false, .bool false, .slice al nl cl] 82))) (al_any _ (.cells #[.int .i64 0, .int .i64 0, .slice none 0 0, .int .i64 0, .bool false, .bool false] 24)))
  have HX := Lib.hid (heap_alloc3 w (.cells #[.int .i64 r, .int .i64 c, .slice ad cs.length k, .int .i64 cur, .bool lk, .bool ins] 24) (.cells #[.int .i64 111, .bool false, .bool false, .bool false, .slice al nl cl] 82) (.cells #[.int .i64 0, .int .i64 0, .slice none 0 0, .int .i64 0, .bool false, .bool false] 24)).1
  have HY := Lib.hid (heap_alloc3 w (.cells #[.int .i64 r, .int .i64 c, .slice ad cs.length k, .int .i64 cur, .bool lk, .bool ins] 24) (.cells #[.int .i64 111, .bool false, .bool false, .bool false, .slice al nl cl] 82) (.cells #[.int .i64 0, .int .i64 0, .slice none 0 0, .int .i64 0, .bool false, .bool false] 24)).2.1
  have HZ := Lib.hid (heap_alloc3 w (.cells #[.int .i64 r, .int .i64 c, .slice ad cs.length k, .int .i64 cur, .bool lk, .bool ins] 24) (.cells #[.int .i64 111, .bool false, .bool false, .bool false, .slice al nl cl] 82) (.cells #[.int .i64 0, .int .i64 0, .slice none 0 0, .int .i64 0, .bool false, .bool false] 24)).2.2
  have HI0 := Lib.hid h
  have HI := Lib.hid (h.below HB.out)
  have HC := Lib.hid fun W hb => rcopy_any ⟨r, c, cs, cur, lk, ins⟩ ad k W (HI.out.below hb) (by simp only; omega)
  simp only at HC
  have HL := Lib.hid hl
  have HP := Lib.hid hz
  have hlb : (cs.length : Int) < 10000 := by omega
  clear h hl hz
  go_enter Tryz.func50, Tryz.ntmps50
  go_upto_region 1 with (fail)
  generalize ((w.alloc _).alloc _).alloc _ = w1 at *
  obtain ⟨c0, c1, c2, c3, c4, c5⟩ := cells6 HX.out
  go_wp2_with fail
  with_reducible refine (HC.out _ (Below.refl _ _)).mono ?_
  rintro e w2 ⟨va, vc, rfl, ho, hb⟩
  clear c0 c1 c2 c3 c4 c5
  obtain ⟨g, vd, e1, hg1, hg2, _⟩ := OwnCels.at ho HP.out
  injection e1 with e1 e2 e3
  subst e1
  subst e3
  clear e2
  have hz0 := there_lt HZ.out
  have HA2 := al_any w2 (.cells #[.int .i64 r, .int .i64 c, .slice (some ⟨g, 0, none⟩) cs.length vc, .int .i64 cur, .bool lk, .bool ins] 24)
  have L3 := Lib.hid (heap_alloc_new w2 (.cells #[.int .i64 r, .int .i64 c, .slice (some ⟨g, 0, none⟩) cs.length vc, .int .i64 cur, .bool lk, .bool ins] 24))
  have X3 := Lib.hid (blk HX.out (kept_trans hb HA2))
  have Y3 := Lib.hid (blk HY.out (kept_trans hb HA2))
  have Z3 := Lib.hid (blk HZ.out (kept_trans hb HA2))
  have O3 := Lib.hid ((OwnCels.below ho HA2).mono HB.out.size)
  have K3 := Lib.hid (kept_trans HB.out (kept_trans hb HA2))
  have hsz := hb.size
  clear HA2 ho hb HX HY HZ HC HB HI
  go_upto_region 2 with (fail)
  generalize w2.alloc _ = w3 at *
  have HG1 := Lib.hid (show w.heap.size + 2 < g from by omega)
  have HG2 := Lib.hid hg2
  clear hg1 hg2 hz0 hsz
  generalize w2.heap.size = G at *
  obtain ⟨d0, d1, d2, d3, d4⟩ := cells5o Y3.out
  go_upto_region 5 with (fail)
  clear d0 d1 d2 d3 d4
  have HRS := Lib.hid (rreset_any ⟨r, c, cs, cur, lk, ins⟩ (some ⟨g, 0, none⟩) vc false w3 (by simpa using O3.out.to) (by have := HL.out; simp; omega) (by have := HP.out; simp; omega))
  simp only [GaveA, hreset, resetC_length] at HRS
  obtain ⟨c0, c1, c2, c3, c4, c5⟩ := cells6 L3.out
  go_wp2_with fail
  with_reducible refine HRS.out.mono ?_
  rintro e w4 ⟨va, vc2, rfl, ho, hb⟩
  clear HRS c0 c1 c2 c3 c4 c5
  have hpo : 0 < (resetC false (cs)).length := by rw [resetC_length]; simpa using HP.out
  obtain ⟨g2, vd, e1, hg1, hg2, _⟩ := OwnCels.at ho hpo
  injection e1 with e1 e2 e3
  subst e1
  subst e3
  clear e2 hpo
  have HG3 := Lib.hid (show G < g2 from by have := there_lt L3.out; omega)
  have L4 := blk L3.out hb
  have X4 := Lib.hid (blk X3.out hb)
  have Y4 := Lib.hid (blk Y3.out hb)
  have Z4 := Lib.hid (blk Z3.out hb)
  have K4 := kept_hid K3 hb
  have hkl := K3.out.size
  obtain ⟨f0, f1, f2, f3, f4, f5⟩ := free6 L4
  obtain ⟨c0, c1, c2, c3, c4, c5⟩ := cells6 L4
  have SO := over6 w4 G _ _ _ _ _ _ _ (.int .i64 r) (.int .i64 c) (.slice (some ⟨g2, 0, none⟩) cs.length vc2) (.int .i64 cur) (.bool lk) (.bool ins) L4
  have L5 := Lib.hid SO.1
  have X5 := Lib.hid (blk_g X4.out SO.2 (by intro e; injection e with e; have := HG2.out; have := HG1.out; omega))
  have Y5 := Lib.hid (blk_g Y4.out SO.2 (by intro e; injection e with e; have := HG2.out; have := HG1.out; omega))
  have Z5 := Lib.hid (blk_g Z4.out SO.2 (by intro e; injection e with e; have := HG2.out; have := HG1.out; omega))
  have O5 := Lib.hid (OwnCels.mono (b := w.heap.size) (OwnCels.away ho SO.2 (by have := HG3.out; simp [Value.ownBlock]; omega)) hkl)
  have K5 := Lib.hid (below_grown K4.out SO.2 (by have := HG1.out; have := HG2.out; omega))
  clear SO ho hb hg1 hg2 hkl L4 X4 Y4 Z4 K4 L3 O3 X3 Y3 Z3 K3
  go_upto_region 7 with (fail)
  clear c0 c1 c2 c3 c4 c5 f0 f1 f2 f3 f4 f5
  generalize (((((w4.setCell _ _).setCell _ _).setCell _ _).setCell _ _).setCell _ _).setCell _ _ = w5 at *
  have HW0 := Lib.hid (show resetC false cs = wipes cs (resetC false cs) (List.range 0) from rfl)
  rw [HW0.out] at O5
  go_wp2_with fail
  go_loopg [6] (cs.length + 1) (fun mm ii wr => ∃ q : Nat, q ≤ cs.length ∧ mm = cs.length + 1 - q ∧ ii = .int .i64 q ∧ Hid (OwnCels wr w.heap.size (.slice (some ⟨g2, 0, none⟩) cs.length vc2) (wipes cs (resetC false cs) (List.range q))) ∧ Hid (wr.heap[G]? = some (.cells #[.int .i64 r, .int .i64 c, .slice (some ⟨g2, 0, none⟩) cs.length vc2, .int .i64 cur, .bool lk, .bool ins] 24 (0, 0))) ∧ Hid (wr.heap[w.heap.size]? = some (.cells #[.int .i64 r, .int .i64 c, .slice ad cs.length k, .int .i64 cur, .bool lk, .bool ins] 24 (0, 0))) ∧ Hid (wr.heap[w.heap.size + 1]? = some (.cells #[.int .i64 111, .bool false, .bool false, .bool false, .slice al nl cl] 82 (0, 0))) ∧ Hid (wr.heap[w.heap.size + 2]? = some (.cells #[.int .i64 0, .int .i64 0, .slice none 0 0, .int .i64 0, .bool false, .bool false] 24 (0, 0))) ∧ Hid (Below w.heap.size w wr))
  case atStart => exact ⟨0, Nat.zero_le _, rfl, rfl, O5, L5, X5, Y5, Z5, K5⟩
  case round =>
    obtain ⟨q, hq, rfl, rfl, O6, L6, X6, Y6, Z6, K6⟩ := hrel
    clear O5 L5 X5 Y5 Z5 K5
    have ew : IntKind.i64.wrap ((q : Int) + 1) = (q : Int) + 1 := by
      have := HL.out
      rw [IntWalk.i64_in] <;> omega
    obtain ⟨c0, c1, c2, c3, c4, c5⟩ := cells6 X6.out
    by_cases hlt : q < cs.length
    · have HO := Lib.hid (ropen_any ⟨r, c, cs, cur, lk, ins⟩ ad k q wr (HI0.out.below K6.out) HP.out (by have := HL.out; simp only; omega) hlt)
      simp only at HO
      have HQ := Lib.hid (wipes_succ cs (resetC false cs) q)
      have HLD := Lib.hid (show q < (wipes cs (resetC false cs) (List.range q)).length from by rw [wipes_length, resetC_length]; exact hlt)
      generalize wipes cs (resetC false cs) (List.range q) = ds at *
      go_wp2_with fail
      with_reducible refine HO.out.mono ?_
      rintro e we ⟨rfl, hb⟩
      have O7 := Lib.hid (OwnCels.below O6.out hb)
      have L7 := Lib.hid (blk L6.out hb)
      have X7 := Lib.hid (blk X6.out hb)
      have Y7 := Lib.hid (blk Y6.out hb)
      have Z7 := Lib.hid (blk Z6.out hb)
      have K7 := kept_hid K6 hb
      clear hb HO O6 L6 X6 Y6 Z6 K6 c0 c1 c2 c3 c4 c5
      cases hop : open_ cs q with
      | false =>
        have HQ2 := Lib.hid (show wipes cs (resetC false cs) (List.range (q + 1)) = ds from by rw [HQ.out]; simp [wipe1, hop])
        clear hop HQ
        go_wp2_with fail
        go_roundg (cs.length + 1 - (q + 1))
        case measure => omega
        case rel => exact ⟨q + 1, by omega, rfl, by first | rfl | go_num, by rw [HQ2.out]; exact O7, L7, X7, Y7, Z7, K7⟩
      | true =>
        have HQ2 := Lib.hid (show wipes cs (resetC false cs) (List.range (q + 1)) = ds.set q { ds.getD q noC with c := 0 } from by rw [HQ.out]; simp [wipe1, hop])
        clear hop HQ
        have hi0 : (0 : Int) ≤ (q : Int) := by omega
        have hi1 : (q : Int) < (cs.length : Int) := by omega
        obtain ⟨c0, c1, c2, c3, c4, c5⟩ := cells6 L7.out
        obtain ⟨yf, yp, yn, ys, ym, yc, ey⟩ := c_eta (ds.getD q noC)
        obtain ⟨⟨_, _, _, _, _, p5⟩, fz⟩ := OwnCels.spot O7.out HLD.out ey
        have q5 := fz (q * 6 + 5)
        have SO := OwnCels.setc O7.out HLD.out 0
        rw [show ((0 : Nat) : Int) = 0 from rfl] at SO
        have O8 := Lib.hid SO.1
        have L8 := Lib.hid (blk_g L7.out SO.2 (by intro e; injection e with e; have := HG3.out; omega))
        have X8 := Lib.hid (blk_g X7.out SO.2 (by intro e; injection e with e; have := HG3.out; have := HG2.out; have := HG1.out; omega))
        have Y8 := Lib.hid (blk_g Y7.out SO.2 (by intro e; injection e with e; have := HG3.out; have := HG2.out; have := HG1.out; omega))
        have Z8 := Lib.hid (blk_g Z7.out SO.2 (by intro e; injection e with e; have := HG3.out; have := HG2.out; have := HG1.out; omega))
        have K8 := Lib.hid (below_grown K7.out SO.2 (by have := HG3.out; have := HG2.out; have := HG1.out; omega))
        clear SO fz ey O7 L7 X7 Y7 Z7 K7
        go_upto_region 8 with (fail)
        clear c0 c1 c2 c3 c4 c5 p5 q5
        generalize we.setCell _ _ = wt at *
        go_wp2_with fail
        go_roundg (cs.length + 1 - (q + 1))
        case measure => omega
        case rel => exact ⟨q + 1, by omega, rfl, by first | rfl | go_num, by rw [HQ2.out]; exact O8, L8, X8, Y8, Z8, K8⟩
    · obtain rfl : q = cs.length := by omega
      have hn0 : ¬ (cs.length : Int) < (cs.length : Int) := by omega
      clear hlt c0 c1 c2 c3 c4 c5
      obtain ⟨x0, x1, x2, x3, x4, x5⟩ := cells6 X6.out
      obtain ⟨c0, c1, c2, c3, c4, c5⟩ := cells6 L6.out
      obtain ⟨f0, f1, f2, f3, f4, f5⟩ := free6 L6.out
      have SO := gsetCell wr G 4 (.bool false)
      have L7 := Lib.hid (heap_setCell_same wr G 4 _ 24 (.bool false) L6.out)
      have O7 := Lib.hid (OwnCels.away O6.out SO (by have := HG3.out; simp [Value.ownBlock]; omega))
      have X7 := Lib.hid (blk_g X6.out SO (by intro e; injection e with e; have := HG2.out; have := HG1.out; omega))
      have Y7 := Lib.hid (blk_g Y6.out SO (by intro e; injection e with e; have := HG2.out; have := HG1.out; omega))
      have Z7 := Lib.hid (blk_g Z6.out SO (by intro e; injection e with e; have := HG2.out; have := HG1.out; omega))
      have K7 := Lib.hid (below_grown K6.out SO (by have := HG2.out; have := HG1.out; omega))
      clear SO O6 X6 Y6 Z6 K6
      obtain ⟨c0', c1', c2', c3', c4', c5'⟩ := cells6 L7.out
      obtain ⟨f0', f1', f2', f3', f4', f5'⟩ := free6 L7.out
      have SO := gsetCell (wr.setCell ⟨G, 4, none⟩ (.bool false)) G 5 (.bool false)
      have L8 := Lib.hid (heap_setCell_same (wr.setCell ⟨G, 4, none⟩ (.bool false)) G 5 _ 24 (.bool false) L7.out)
      have O8 := Lib.hid (OwnCels.away O7.out SO (by have := HG3.out; simp [Value.ownBlock]; omega))
      have X8 := Lib.hid (blk_g X7.out SO (by intro e; injection e with e; have := HG2.out; have := HG1.out; omega))
      have Y8 := Lib.hid (blk_g Y7.out SO (by intro e; injection e with e; have := HG2.out; have := HG1.out; omega))
      have Z8 := Lib.hid (blk_g Z7.out SO (by intro e; injection e with e; have := HG2.out; have := HG1.out; omega))
      have K8 := Lib.hid (below_grown K7.out SO (by have := HG2.out; have := HG1.out; omega))
      clear SO O7 X7 Y7 Z7 K7
      go_upto_region 13 with (fail)
      clear c0 c1 c2 c3 c4 c5 f0 f1 f2 f3 f4 f5 c0' c1' c2' c3' c4' c5' f0' f1' f2' f3' f4' f5' x0 x1 x2 x3 x4 x5
      generalize (wr.setCell _ _).setCell _ _ = w8 at *
      have HN := Lib.hid (rnextf_any ⟨r, c, cs, cur, lk, ins⟩ ad k (cs.length - 1) w8 (HI0.out.below K8.out) HP.out (by have := HL.out; simp only; omega) (by have := HP.out; simp only; omega))
      simp only at HN
      have hsub : ((cs.length - 1 : Nat) : Int) = (cs.length : Int) - 1 := by have := HP.out; omega
      rw [hsub] at HN
      obtain ⟨x0, x1, x2, x3, x4, x5⟩ := cells6 X8.out
      have hwr : wrap64 ((cs.length : Int) - 1) = (cs.length : Int) - 1 := by have := HP.out; have := HL.out; unfold wrap64; omega
      have hcu : curOf cs = if next cs (cs.length - 1) < 0 then 0 else next cs (cs.length - 1) := rfl
      have HCU := Lib.hid hcu
      have hnb := next_bounds (cs := cs) (a := cs.length - 1) (by have := HP.out; omega)
      clear hcu hsub
      generalize next cs (cs.length - 1) = nv at *
      have HNB := Lib.hid hnb
      clear hnb
      go_wp2_with fail
      with_reducible refine HN.out.mono ?_
      rintro e w9 ⟨rfl, hb⟩
      clear x0 x1 x2 x3 x4 x5 hwr HN
      have O9 := Lib.hid (OwnCels.below O8.out hb)
      have L9 := Lib.hid (blk L8.out hb)
      have X9 := Lib.hid (blk X8.out hb)
      have Y9 := Lib.hid (blk Y8.out hb)
      have Z9 := Lib.hid (blk Z8.out hb)
      have K9 := kept_hid K8 hb
      clear hb O8 L8 X8 Y8 Z8 K8
      obtain ⟨c0, c1, c2, c3, c4, c5⟩ := cells6 L9.out
      obtain ⟨f0, f1, f2, f3, f4, f5⟩ := free6 L9.out
      have SO := gsetCell w9 G 3 (.int .i64 nv)
      have L10 := Lib.hid (heap_setCell_same w9 G 3 _ 24 (.int .i64 nv) L9.out)
      have O10 := Lib.hid (OwnCels.away O9.out SO (by have := HG3.out; simp [Value.ownBlock]; omega))
      have X10 := Lib.hid (blk_g X9.out SO (by intro e; injection e with e; have := HG2.out; have := HG1.out; omega))
      have Y10 := Lib.hid (blk_g Y9.out SO (by intro e; injection e with e; have := HG2.out; have := HG1.out; omega))
      have Z10 := Lib.hid (blk_g Z9.out SO (by intro e; injection e with e; have := HG2.out; have := HG1.out; omega))
      have K10 := Lib.hid (below_grown K9.out SO (by have := HG2.out; have := HG1.out; omega))
      clear SO O9 X9 Y9 Z9 K9
      go_upto_region 14 with (fail)
      clear c0 c1 c2 c3 c4 c5 f0 f1 f2 f3 f4 f5
      generalize w9.setCell _ _ = w10 at *
      by_cases hneg : nv < 0
      · have HC0 := HCU.out
        rw [if_pos hneg] at HC0
        have hng : decide (nv < 0) = true := decide_eq_true hneg
        clear hneg
        obtain ⟨c0, c1, c2, c3, c4, c5⟩ := cells6 L10.out
        obtain ⟨f0, f1, f2, f3, f4, f5⟩ := free6 L10.out
        have SO := gsetCell w10 G 3 (.int .i64 0)
        have L11 := Lib.hid (heap_setCell_same w10 G 3 _ 24 (.int .i64 0) L10.out)
        have O11 := Lib.hid (OwnCels.away O10.out SO (by have := HG3.out; simp [Value.ownBlock]; omega))
        have X11 := Lib.hid (blk_g X10.out SO (by intro e; injection e with e; have := HG2.out; have := HG1.out; omega))
        have Y11 := Lib.hid (blk_g Y10.out SO (by intro e; injection e with e; have := HG2.out; have := HG1.out; omega))
        have Z11 := Lib.hid (blk_g Z10.out SO (by intro e; injection e with e; have := HG2.out; have := HG1.out; omega))
        have K11 := Lib.hid (below_grown K10.out SO (by have := HG2.out; have := HG1.out; omega))
        clear SO O10 X10 Y10 Z10 K10
        go_upto_region 16 with (fail)
        clear c0 c1 c2 c3 c4 c5 f0 f1 f2 f3 f4 f5 hng
        generalize w10.setCell _ _ = w11 at *
        obtain ⟨c0, c1, c2, c3, c4, c5⟩ := cells6 L11.out
        obtain ⟨f0, f1, f2, f3, f4, f5⟩ := free6 Z11.out
        obtain ⟨z0, z1, z2, z3, z4, z5⟩ := cells6 Z11.out
        have SF := Lib.hid (over6 w11 (w.heap.size + 2) _ _ _ _ _ _ _ (.int .i64 r) (.int .i64 c) (.slice (some ⟨g2, 0, none⟩) cs.length vc2) (.int .i64 0) (.bool false) (.bool false) Z11.out)
        go_wp2_with fail
        clear z0 z1 z2 z3 z4 z5 c0 c1 c2 c3 c4 c5 f0 f1 f2 f3 f4 f5
        generalize (((((w11.setCell _ _).setCell _ _).setCell _ _).setCell _ _).setCell _ _).setCell _ _ = wz at *
        exact bodyPost_ret (v := .agg #[.int .i64 r, .int .i64 c, .slice (some ⟨g2, 0, none⟩) cs.length vc2, .int .i64 0, .bool false, .bool false]) (results_cell_row rfl _ _ (w.heap.size + 2) 24 _ (0, 0) _ rfl SF.out.1 Tryz.underlying24 rfl (by kernel_rfl)) rfl ⟨some ⟨g2, 0, none⟩, vc2, by simp [hclean, wipes_length, resetC_length, HC0], by simpa [hclean, wipes_length, resetC_length] using OwnCels.to (OwnCels.away O11.out SF.out.2 (by have := HG3.out; have := HG2.out; have := HG1.out; simp [Value.ownBlock]; omega)), below_grown K11.out SF.out.2 (by omega)⟩
      · have HC0 := HCU.out
        rw [if_neg hneg] at HC0
        have hng : decide (nv < 0) = false := decide_eq_false hneg
        clear hneg
        obtain ⟨c0, c1, c2, c3, c4, c5⟩ := cells6 L10.out
        go_upto_region 16 with (fail)
        clear c0 c1 c2 c3 c4 c5 hng
        obtain ⟨c0, c1, c2, c3, c4, c5⟩ := cells6 L10.out
        obtain ⟨f0, f1, f2, f3, f4, f5⟩ := free6 Z10.out
        obtain ⟨z0, z1, z2, z3, z4, z5⟩ := cells6 Z10.out
        have SF := Lib.hid (over6 w10 (w.heap.size + 2) _ _ _ _ _ _ _ (.int .i64 r) (.int .i64 c) (.slice (some ⟨g2, 0, none⟩) cs.length vc2) (.int .i64 nv) (.bool false) (.bool false) Z10.out)
        go_wp2_with fail
        clear z0 z1 z2 z3 z4 z5 c0 c1 c2 c3 c4 c5 f0 f1 f2 f3 f4 f5
        generalize (((((w10.setCell _ _).setCell _ _).setCell _ _).setCell _ _).setCell _ _).setCell _ _ = wz at *
        exact bodyPost_ret (v := .agg #[.int .i64 r, .int .i64 c, .slice (some ⟨g2, 0, none⟩) cs.length vc2, .int .i64 nv, .bool false, .bool false]) (results_cell_row rfl _ _ (w.heap.size + 2) 24 _ (0, 0) _ rfl SF.out.1 Tryz.underlying24 rfl (by kernel_rfl)) rfl ⟨some ⟨g2, 0, none⟩, vc2, by simp [hclean, wipes_length, resetC_length, HC0], by simpa [hclean, wipes_length, resetC_length] using OwnCels.to (OwnCels.away O10.out SF.out.2 (by have := HG3.out; have := HG2.out; have := HG1.out; simp [Value.ownBlock]; omega)), below_grown K10.out SF.out.2 (by omega)⟩
end Hst
end Go.Proofs.YtpgbnnnfeaodmaaGreatDoor
/- The document's Do of layer 13: writes and erases. Written by tools/gen_hst_ref.py. -/
namespace Go.Proofs.YtpgbnnnfeaodmaaGreatDoor
open Go.RowKit Sha Six Apd Cut Err Att Grd Fld Pnt
set_option linter.unusedVariables false
namespace Hst
set_option maxRecDepth 100000 in
set_option maxHeartbeats 8000000 in
theorem rdo_write_false (s : S) (ad : Option Addr) (k : Nat) (fa fu : Bool) (os : List Go.Proofs.YtpgbnnnfeaodmaaGreatDoor.Ord.O) (al : Option Addr) (nl cl : Nat) (w : World) (h : CelsIn w (.slice ad s.cs.length k) s.cs) (hl : s.cs.length < 10000) (hz : 0 < s.cs.length) (hO : Str.OrdsIn w 0 (.slice al nl cl) os) (ho8 : Str.Sound os) (hol : os.length < 10000) (hw : ∀ o ∈ os, Go.Proofs.YtpgbnnnfeaodmaaGreatDoor.Ord.wrong o s.cs.length = 0) (hcu : 0 ≤ s.cur ∧ s.cur < (s.cs.length : Int)) :
    Calls Tryz.prog 50 #[.agg #[.int .i64 s.rows, .int .i64 s.cols, .slice ad s.cs.length k, .int .i64 s.cur, .bool s.lk, .bool s.ins], .agg #[.int .i64 241, .bool fa, .bool fu, .bool false, .slice al nl cl]] w fun e w' => ShownA w w' (hwrite (s) false fu os) e := by
  obtain ⟨r, c, cs, cur, lk, ins⟩ := s
  simp only at *
  obtain ⟨hc0, hc1⟩ := hcu
  obtain ⟨cn, rfl⟩ := Int.eq_ofNat_of_zero_le hc0
  have HCN := Lib.hid (show cn < cs.length from by omega)
  clear hc0 hc1
  have HB := Lib.hid (kept_trans (kept_trans (al_any w (.cells #[.int .i64 r, .int .i64 c, .slice ad cs.length k, .int .i64 (cn : Int), .bool lk, .bool ins] 24)) (al_any _ (.cells #[.int .i64 241, .bool fa, .bool fu, .bool false, .slice al nl cl] 82))) (al_any _ (.cells #[.int .i64 0, .int .i64 0, .slice none 0 0, .int .i64 0, .bool false, .bool false] 24)))
  have HX := Lib.hid (heap_alloc3 w (.cells #[.int .i64 r, .int .i64 c, .slice ad cs.length k, .int .i64 (cn : Int), .bool lk, .bool ins] 24) (.cells #[.int .i64 241, .bool fa, .bool fu, .bool false, .slice al nl cl] 82) (.cells #[.int .i64 0, .int .i64 0, .slice none 0 0, .int .i64 0, .bool false, .bool false] 24)).1
  have HY := Lib.hid (heap_alloc3 w (.cells #[.int .i64 r, .int .i64 c, .slice ad cs.length k, .int .i64 (cn : Int), .bool lk, .bool ins] 24) (.cells #[.int .i64 241, .bool fa, .bool fu, .bool false, .slice al nl cl] 82) (.cells #[.int .i64 0, .int .i64 0, .slice none 0 0, .int .i64 0, .bool false, .bool false] 24)).2.1
  have HZ := Lib.hid (heap_alloc3 w (.cells #[.int .i64 r, .int .i64 c, .slice ad cs.length k, .int .i64 (cn : Int), .bool lk, .bool ins] 24) (.cells #[.int .i64 241, .bool fa, .bool fu, .bool false, .slice al nl cl] 82) (.cells #[.int .i64 0, .int .i64 0, .slice none 0 0, .int .i64 0, .bool false, .bool false] 24)).2.2
  have HI0 := Lib.hid h
  have HI := Lib.hid (h.below HB.out)
  have HC := Lib.hid fun W hb => rcopy_any ⟨r, c, cs, (cn : Int), lk, ins⟩ ad k W (HI.out.below hb) (by simp only; omega)
  simp only at HC
  have HL := Lib.hid hl
  have HP := Lib.hid hz
  have hlb : (cs.length : Int) < 10000 := by omega
  have HO := Lib.hid hO
  have HO8 := Lib.hid ho8
  have HOL := Lib.hid hol
  have HW := Lib.hid hw
  clear hO ho8 hol hw
  clear h hl hz
  go_enter Tryz.func50, Tryz.ntmps50
  go_upto_region 1 with (fail)
  generalize ((w.alloc _).alloc _).alloc _ = w1 at *
  obtain ⟨c0, c1, c2, c3, c4, c5⟩ := cells6 HX.out
  go_wp2_with fail
  with_reducible refine (HC.out _ (Below.refl _ _)).mono ?_
  rintro e w2 ⟨va, vc, rfl, ho, hb⟩
  clear c0 c1 c2 c3 c4 c5
  obtain ⟨g, vd, e1, hg1, hg2, _⟩ := OwnCels.at ho HP.out
  injection e1 with e1 e2 e3
  subst e1
  subst e3
  clear e2
  have hz0 := there_lt HZ.out
  have HA2 := al_any w2 (.cells #[.int .i64 r, .int .i64 c, .slice (some ⟨g, 0, none⟩) cs.length vc, .int .i64 (cn : Int), .bool lk, .bool ins] 24)
  have L3 := Lib.hid (heap_alloc_new w2 (.cells #[.int .i64 r, .int .i64 c, .slice (some ⟨g, 0, none⟩) cs.length vc, .int .i64 (cn : Int), .bool lk, .bool ins] 24))
  have X3 := Lib.hid (blk HX.out (kept_trans hb HA2))
  have Y3 := Lib.hid (blk HY.out (kept_trans hb HA2))
  have Z3 := Lib.hid (blk HZ.out (kept_trans hb HA2))
  have O3 := Lib.hid ((OwnCels.below ho HA2).mono HB.out.size)
  have K3 := Lib.hid (kept_trans HB.out (kept_trans hb HA2))
  have hsz := hb.size
  clear HA2 ho hb HX HY HZ HC HB HI
  go_upto_region 2 with (fail)
  generalize w2.alloc _ = w3 at *
  have HG1 := Lib.hid (show w.heap.size + 2 < g from by omega)
  have HG2 := Lib.hid hg2
  clear hg1 hg2 hz0 hsz
  generalize w2.heap.size = G at *
  obtain ⟨d0, d1, d2, d3, d4⟩ := cells5o Y3.out
  have HG3 := Lib.hid HG2.out
  go_upto_region 20 with (fail)
  clear d0 d1 d2 d3 d4
  obtain ⟨d0, d1, d2, d3, d4⟩ := cells5o Y3.out
  have hll : (cs).length = cs.length := by simp []
  have HAL := Lib.hid (rall_any ⟨r, c, cs, (cn : Int), lk, ins⟩ (some ⟨g, 0, none⟩) vc cn al nl cl os w3 (by simp only; rw [hll]; have := O3.out.to; exact this) (by simp only; rw [hll]; exact HL.out) (by simp only; rw [hll]; exact HCN.out) (HO.out.below K3.out) HO8.out (by have := HOL.out; omega) (by simp only; rw [hll]; exact HW.out))
  have HPR := Lib.hid (pall_rest os (⟨r, c, cs, (cn : Int), lk, ins⟩, cn))
  simp only [Shown] at HAL HPR
  have HEQ := Lib.hid (show hwrite ⟨r, c, cs, (cn : Int), lk, ins⟩ false fu os = unlocked fu (pall (⟨r, c, cs, (cn : Int), lk, ins⟩, cn) os).1 from by simp [hwrite, after])
  rw [hll] at HAL HPR
  generalize pall (⟨r, c, cs, (cn : Int), lk, ins⟩, cn) os = st at *
  obtain ⟨⟨r1, c1, cs1, cu1, lk1, in1⟩, pl⟩ := st
  simp only at HAL HPR HEQ
  skip
  obtain ⟨c0, c1', c2, c3, c4, c5⟩ := cells6 L3.out
  go_wp2_with fail
  with_reducible refine HAL.out.mono ?_
  rintro e wa ⟨va3, vc3, rfl, ho, hb⟩
  clear HAL c0 c1' c2 c3 c4 c5 d0 d1 d2 d3 d4
  have HA := al_any wa (.cells #[.int .i64 r1, .int .i64 c1, .slice va3 cs1.length vc3, .int .i64 cu1, .bool lk1, .bool in1] 24)
  have T7 := Lib.hid (heap_alloc_new wa (.cells #[.int .i64 r1, .int .i64 c1, .slice va3 cs1.length vc3, .int .i64 cu1, .bool lk1, .bool in1] 24))
  have hcl : cs1.length = cs.length := HPR.out.2.2.1
  have HNS := Lib.hid (not_screen ho (by rw [hcl]; exact HP.out) (blk Z3.out hb))
  have hZW := there_lt (blk Z3.out hb)
  have Y7 := Lib.hid (blk Y3.out (kept_trans hb HA))
  have Z7 := Lib.hid (blk Z3.out (kept_trans hb HA))
  have K7 := kept_hid K3 (kept_trans hb HA)
  have C7 := Lib.hid (ho.below HA)
  have HDR := Lib.hid (show w.heap.size + 2 < wa.heap.size from hZW)
  clear HA ho hb hZW hcl Y3 Z3 K3 X3 L3 O3
  go_upto_region 23 with (fail)
  generalize wa.heap.size = D at *
  generalize wa.alloc _ = wb at *
  obtain ⟨d0, d1, d2, d3, d4⟩ := cells5o Y7.out
  cases fu with
  | false =>
    obtain ⟨c0, c1', c2, c3, c4, c5⟩ := cells6 T7.out
    obtain ⟨f0, f1, f2, f3, f4, f5⟩ := free6 Z7.out
    obtain ⟨z0, z1, z2, z3, z4, z5⟩ := cells6 Z7.out
    have SF := Lib.hid (over6 wb (w.heap.size + 2) _ _ _ _ _ _ _ (.int .i64 r1) (.int .i64 c1) (.slice va3 cs1.length vc3) (.int .i64 cu1) (.bool lk1) (.bool in1) Z7.out)
    go_wp2_with fail
    clear z0 z1 z2 z3 z4 z5 c0 c1' c2 c3 c4 c5 f0 f1 f2 f3 f4 f5 d0 d1 d2 d3 d4
    generalize (((((wb.setCell _ _).setCell _ _).setCell _ _).setCell _ _).setCell _ _).setCell _ _ = wz at *
    exact bodyPost_ret (v := .agg #[.int .i64 r1, .int .i64 c1, .slice va3 cs1.length vc3, .int .i64 cu1, .bool lk1, .bool in1]) (results_cell_row rfl _ _ (w.heap.size + 2) 24 _ (0, 0) _ rfl SF.out.1 Tryz.underlying24 rfl (by kernel_rfl)) rfl (show ShownA w wz _ _ from by rw [HEQ.out]; exact ⟨va3, vc3, by simp [unlocked], by simpa [unlocked] using celsIn_away C7.out SF.out.2 (fun y hy => (HNS.out y hy).1), below_grown K7.out SF.out.2 (by omega)⟩)
  | true =>
    obtain ⟨c0, c1', c2, c3, c4, c5⟩ := cells6 T7.out
    obtain ⟨f0, f1, f2, f3, f4, f5⟩ := free6 T7.out
    have SO := gsetCell wb D 4 (.bool false)
    have T8 := Lib.hid (heap_setCell_same wb D 4 _ 24 (.bool false) T7.out)
    have Z8 := Lib.hid (blk_g Z7.out SO (by intro e; injection e with e; have := HDR.out; omega))
    have C8 := Lib.hid (celsIn_away C7.out SO (fun y hy e => by have := (HNS.out y hy).2; omega))
    have K8 := Lib.hid (below_grown K7.out SO (by have := HDR.out; omega))
    clear SO
    obtain ⟨e0, e1, e2, e3, e4, e5⟩ := cells6 T8.out
    obtain ⟨h0, h1, h2, h3, h4, h5⟩ := free6 T8.out
    have SO := gsetCell (wb.setCell ⟨D, 4, none⟩ (.bool false)) D 5 (.bool false)
    have T9 := Lib.hid (heap_setCell_same (wb.setCell ⟨D, 4, none⟩ (.bool false)) D 5 _ 24 (.bool false) T8.out)
    have Z9 := Lib.hid (blk_g Z8.out SO (by intro e; injection e with e; have := HDR.out; omega))
    have C9 := Lib.hid (celsIn_away C8.out SO (fun y hy e => by have := (HNS.out y hy).2; omega))
    have K9 := Lib.hid (below_grown K8.out SO (by have := HDR.out; omega))
    clear SO T7 Z7 C7 K7 T8 Z8 C8 K8
    go_upto_region 26 with (fail)
    clear c0 c1' c2 c3 c4 c5 f0 f1 f2 f3 f4 f5 e0 e1 e2 e3 e4 e5 h0 h1 h2 h3 h4 h5 d0 d1 d2 d3 d4
    generalize (wb.setCell _ _).setCell _ _ = wc at *
    obtain ⟨c0, c1', c2, c3, c4, c5⟩ := cells6 T9.out
    obtain ⟨f0, f1, f2, f3, f4, f5⟩ := free6 Z9.out
    obtain ⟨z0, z1, z2, z3, z4, z5⟩ := cells6 Z9.out
    have SF := Lib.hid (over6 wc (w.heap.size + 2) _ _ _ _ _ _ _ (.int .i64 r1) (.int .i64 c1) (.slice va3 cs1.length vc3) (.int .i64 cu1) (.bool false) (.bool false) Z9.out)
    go_wp2_with fail
    clear z0 z1 z2 z3 z4 z5 c0 c1' c2 c3 c4 c5 f0 f1 f2 f3 f4 f5
    generalize (((((wc.setCell _ _).setCell _ _).setCell _ _).setCell _ _).setCell _ _).setCell _ _ = wz at *
    exact bodyPost_ret (v := .agg #[.int .i64 r1, .int .i64 c1, .slice va3 cs1.length vc3, .int .i64 cu1, .bool false, .bool false]) (results_cell_row rfl _ _ (w.heap.size + 2) 24 _ (0, 0) _ rfl SF.out.1 Tryz.underlying24 rfl (by kernel_rfl)) rfl (show ShownA w wz _ _ from by rw [HEQ.out]; exact ⟨va3, vc3, by simp [unlocked], by simpa [unlocked] using celsIn_away C9.out SF.out.2 (fun y hy => (HNS.out y hy).1), below_grown K9.out SF.out.2 (by omega)⟩)
set_option maxRecDepth 100000 in
set_option maxHeartbeats 8000000 in
theorem rdo_write_true (s : S) (ad : Option Addr) (k : Nat) (fa fu : Bool) (os : List Go.Proofs.YtpgbnnnfeaodmaaGreatDoor.Ord.O) (al : Option Addr) (nl cl : Nat) (w : World) (h : CelsIn w (.slice ad s.cs.length k) s.cs) (hl : s.cs.length < 10000) (hz : 0 < s.cs.length) (hO : Str.OrdsIn w 0 (.slice al nl cl) os) (ho8 : Str.Sound os) (hol : os.length < 10000) (hw : ∀ o ∈ os, Go.Proofs.YtpgbnnnfeaodmaaGreatDoor.Ord.wrong o s.cs.length = 0) (hcu : 0 ≤ s.cur ∧ s.cur < (s.cs.length : Int)) :
    Calls Tryz.prog 50 #[.agg #[.int .i64 s.rows, .int .i64 s.cols, .slice ad s.cs.length k, .int .i64 s.cur, .bool s.lk, .bool s.ins], .agg #[.int .i64 241, .bool fa, .bool fu, .bool true, .slice al nl cl]] w fun e w' => ShownA w w' (hwrite (s) true fu os) e := by
  obtain ⟨r, c, cs, cur, lk, ins⟩ := s
  simp only at *
  obtain ⟨hc0, hc1⟩ := hcu
  obtain ⟨cn, rfl⟩ := Int.eq_ofNat_of_zero_le hc0
  have HCN := Lib.hid (show cn < cs.length from by omega)
  clear hc0 hc1
  have HB := Lib.hid (kept_trans (kept_trans (al_any w (.cells #[.int .i64 r, .int .i64 c, .slice ad cs.length k, .int .i64 (cn : Int), .bool lk, .bool ins] 24)) (al_any _ (.cells #[.int .i64 241, .bool fa, .bool fu, .bool true, .slice al nl cl] 82))) (al_any _ (.cells #[.int .i64 0, .int .i64 0, .slice none 0 0, .int .i64 0, .bool false, .bool false] 24)))
  have HX := Lib.hid (heap_alloc3 w (.cells #[.int .i64 r, .int .i64 c, .slice ad cs.length k, .int .i64 (cn : Int), .bool lk, .bool ins] 24) (.cells #[.int .i64 241, .bool fa, .bool fu, .bool true, .slice al nl cl] 82) (.cells #[.int .i64 0, .int .i64 0, .slice none 0 0, .int .i64 0, .bool false, .bool false] 24)).1
  have HY := Lib.hid (heap_alloc3 w (.cells #[.int .i64 r, .int .i64 c, .slice ad cs.length k, .int .i64 (cn : Int), .bool lk, .bool ins] 24) (.cells #[.int .i64 241, .bool fa, .bool fu, .bool true, .slice al nl cl] 82) (.cells #[.int .i64 0, .int .i64 0, .slice none 0 0, .int .i64 0, .bool false, .bool false] 24)).2.1
  have HZ := Lib.hid (heap_alloc3 w (.cells #[.int .i64 r, .int .i64 c, .slice ad cs.length k, .int .i64 (cn : Int), .bool lk, .bool ins] 24) (.cells #[.int .i64 241, .bool fa, .bool fu, .bool true, .slice al nl cl] 82) (.cells #[.int .i64 0, .int .i64 0, .slice none 0 0, .int .i64 0, .bool false, .bool false] 24)).2.2
  have HI0 := Lib.hid h
  have HI := Lib.hid (h.below HB.out)
  have HC := Lib.hid fun W hb => rcopy_any ⟨r, c, cs, (cn : Int), lk, ins⟩ ad k W (HI.out.below hb) (by simp only; omega)
  simp only at HC
  have HL := Lib.hid hl
  have HP := Lib.hid hz
  have hlb : (cs.length : Int) < 10000 := by omega
  have HO := Lib.hid hO
  have HO8 := Lib.hid ho8
  have HOL := Lib.hid hol
  have HW := Lib.hid hw
  clear hO ho8 hol hw
  clear h hl hz
  go_enter Tryz.func50, Tryz.ntmps50
  go_upto_region 1 with (fail)
  generalize ((w.alloc _).alloc _).alloc _ = w1 at *
  obtain ⟨c0, c1, c2, c3, c4, c5⟩ := cells6 HX.out
  go_wp2_with fail
  with_reducible refine (HC.out _ (Below.refl _ _)).mono ?_
  rintro e w2 ⟨va, vc, rfl, ho, hb⟩
  clear c0 c1 c2 c3 c4 c5
  obtain ⟨g, vd, e1, hg1, hg2, _⟩ := OwnCels.at ho HP.out
  injection e1 with e1 e2 e3
  subst e1
  subst e3
  clear e2
  have hz0 := there_lt HZ.out
  have HA2 := al_any w2 (.cells #[.int .i64 r, .int .i64 c, .slice (some ⟨g, 0, none⟩) cs.length vc, .int .i64 (cn : Int), .bool lk, .bool ins] 24)
  have L3 := Lib.hid (heap_alloc_new w2 (.cells #[.int .i64 r, .int .i64 c, .slice (some ⟨g, 0, none⟩) cs.length vc, .int .i64 (cn : Int), .bool lk, .bool ins] 24))
  have X3 := Lib.hid (blk HX.out (kept_trans hb HA2))
  have Y3 := Lib.hid (blk HY.out (kept_trans hb HA2))
  have Z3 := Lib.hid (blk HZ.out (kept_trans hb HA2))
  have O3 := Lib.hid ((OwnCels.below ho HA2).mono HB.out.size)
  have K3 := Lib.hid (kept_trans HB.out (kept_trans hb HA2))
  have hsz := hb.size
  clear HA2 ho hb HX HY HZ HC HB HI
  go_upto_region 2 with (fail)
  generalize w2.alloc _ = w3 at *
  have HG1 := Lib.hid (show w.heap.size + 2 < g from by omega)
  have HG2 := Lib.hid hg2
  clear hg1 hg2 hz0 hsz
  generalize w2.heap.size = G at *
  obtain ⟨d0, d1, d2, d3, d4⟩ := cells5o Y3.out
  have HG3 := Lib.hid HG2.out
  go_upto_region 20 with (fail)
  clear d0 d1 d2 d3 d4
  obtain ⟨d0, d1, d2, d3, d4⟩ := cells5o Y3.out
  go_upto_region 21 with (fail)
  clear d0 d1 d2 d3 d4
  have HRS := Lib.hid (rreset_any ⟨r, c, cs, (cn : Int), lk, ins⟩ (some ⟨g, 0, none⟩) vc true w3 (by simpa using O3.out.to) (by have := HL.out; simp; omega) (by have := HP.out; simp; omega))
  simp only [GaveA, hreset, resetC_length] at HRS
  obtain ⟨c0, c1, c2, c3, c4, c5⟩ := cells6 L3.out
  go_wp2_with fail
  with_reducible refine HRS.out.mono ?_
  rintro e w4 ⟨va, vc2, rfl, ho, hb⟩
  clear HRS c0 c1 c2 c3 c4 c5
  have hpo : 0 < (resetC true (cs)).length := by rw [resetC_length]; simpa using HP.out
  obtain ⟨g2, vd, e1, hg1, hg2, _⟩ := OwnCels.at ho hpo
  injection e1 with e1 e2 e3
  subst e1
  subst e3
  clear e2 hpo
  have HG4 := Lib.hid (show G < g2 from by have := there_lt L3.out; omega)
  have L4 := blk L3.out hb
  have X4 := Lib.hid (blk X3.out hb)
  have Y4 := Lib.hid (blk Y3.out hb)
  have Z4 := Lib.hid (blk Z3.out hb)
  have K4 := kept_hid K3 hb
  have hkl := K3.out.size
  obtain ⟨f0, f1, f2, f3, f4, f5⟩ := free6 L4
  obtain ⟨c0, c1, c2, c3, c4, c5⟩ := cells6 L4
  have SO := over6 w4 G _ _ _ _ _ _ _ (.int .i64 r) (.int .i64 c) (.slice (some ⟨g2, 0, none⟩) cs.length vc2) (.int .i64 (cn : Int)) (.bool lk) (.bool ins) L4
  have L5 := Lib.hid SO.1
  have X5 := Lib.hid (blk_g X4.out SO.2 (by intro e; injection e with e; have := HG2.out; have := HG1.out; omega))
  have Y5 := Lib.hid (blk_g Y4.out SO.2 (by intro e; injection e with e; have := HG2.out; have := HG1.out; omega))
  have Z5 := Lib.hid (blk_g Z4.out SO.2 (by intro e; injection e with e; have := HG2.out; have := HG1.out; omega))
  have O5 := Lib.hid (OwnCels.mono (b := w.heap.size) (OwnCels.away ho SO.2 (by have := HG4.out; simp [Value.ownBlock]; omega)) hkl)
  have K5 := Lib.hid (below_grown K4.out SO.2 (by have := HG1.out; have := HG2.out; omega))
  clear SO ho hb hg1 hg2 hkl L4 X4 Y4 Z4 K4 L3 O3 X3 Y3 Z3 K3
  go_upto_region 22 with (fail)
  clear c0 c1 c2 c3 c4 c5 f0 f1 f2 f3 f4 f5
  generalize (((((w4.setCell _ _).setCell _ _).setCell _ _).setCell _ _).setCell _ _).setCell _ _ = w5 at *
  obtain ⟨d0, d1, d2, d3, d4⟩ := cells5o Y5.out
  have hll : ((resetC true cs)).length = cs.length := by simp [resetC_length]
  have HAL := Lib.hid (rall_any ⟨r, c, (resetC true cs), (cn : Int), lk, ins⟩ (some ⟨g2, 0, none⟩) vc2 cn al nl cl os w5 (by simp only; rw [hll]; have := O5.out.to; exact this) (by simp only; rw [hll]; exact HL.out) (by simp only; rw [hll]; exact HCN.out) (HO.out.below K5.out) HO8.out (by have := HOL.out; omega) (by simp only; rw [hll]; exact HW.out))
  have HPR := Lib.hid (pall_rest os (⟨r, c, (resetC true cs), (cn : Int), lk, ins⟩, cn))
  simp only [Shown] at HAL HPR
  have HEQ := Lib.hid (show hwrite ⟨r, c, cs, (cn : Int), lk, ins⟩ true fu os = unlocked fu (pall (⟨r, c, (resetC true cs), (cn : Int), lk, ins⟩, cn) os).1 from by simp [hwrite, after, hreset])
  rw [hll] at HAL HPR
  generalize pall (⟨r, c, (resetC true cs), (cn : Int), lk, ins⟩, cn) os = st at *
  obtain ⟨⟨r1, c1, cs1, cu1, lk1, in1⟩, pl⟩ := st
  simp only at HAL HPR HEQ
  skip
  obtain ⟨c0, c1', c2, c3, c4, c5⟩ := cells6 L5.out
  go_wp2_with fail
  with_reducible refine HAL.out.mono ?_
  rintro e wa ⟨va3, vc3, rfl, ho, hb⟩
  clear HAL c0 c1' c2 c3 c4 c5 d0 d1 d2 d3 d4
  have HA := al_any wa (.cells #[.int .i64 r1, .int .i64 c1, .slice va3 cs1.length vc3, .int .i64 cu1, .bool lk1, .bool in1] 24)
  have T7 := Lib.hid (heap_alloc_new wa (.cells #[.int .i64 r1, .int .i64 c1, .slice va3 cs1.length vc3, .int .i64 cu1, .bool lk1, .bool in1] 24))
  have hcl : cs1.length = cs.length := HPR.out.2.2.1
  have HNS := Lib.hid (not_screen ho (by rw [hcl]; exact HP.out) (blk Z5.out hb))
  have hZW := there_lt (blk Z5.out hb)
  have Y7 := Lib.hid (blk Y5.out (kept_trans hb HA))
  have Z7 := Lib.hid (blk Z5.out (kept_trans hb HA))
  have K7 := kept_hid K5 (kept_trans hb HA)
  have C7 := Lib.hid (ho.below HA)
  have HDR := Lib.hid (show w.heap.size + 2 < wa.heap.size from hZW)
  clear HA ho hb hZW hcl Y5 Z5 K5 X5 L5 O5
  go_upto_region 23 with (fail)
  generalize wa.heap.size = D at *
  generalize wa.alloc _ = wb at *
  obtain ⟨d0, d1, d2, d3, d4⟩ := cells5o Y7.out
  cases fu with
  | false =>
    obtain ⟨c0, c1', c2, c3, c4, c5⟩ := cells6 T7.out
    obtain ⟨f0, f1, f2, f3, f4, f5⟩ := free6 Z7.out
    obtain ⟨z0, z1, z2, z3, z4, z5⟩ := cells6 Z7.out
    have SF := Lib.hid (over6 wb (w.heap.size + 2) _ _ _ _ _ _ _ (.int .i64 r1) (.int .i64 c1) (.slice va3 cs1.length vc3) (.int .i64 cu1) (.bool lk1) (.bool in1) Z7.out)
    go_wp2_with fail
    clear z0 z1 z2 z3 z4 z5 c0 c1' c2 c3 c4 c5 f0 f1 f2 f3 f4 f5 d0 d1 d2 d3 d4
    generalize (((((wb.setCell _ _).setCell _ _).setCell _ _).setCell _ _).setCell _ _).setCell _ _ = wz at *
    exact bodyPost_ret (v := .agg #[.int .i64 r1, .int .i64 c1, .slice va3 cs1.length vc3, .int .i64 cu1, .bool lk1, .bool in1]) (results_cell_row rfl _ _ (w.heap.size + 2) 24 _ (0, 0) _ rfl SF.out.1 Tryz.underlying24 rfl (by kernel_rfl)) rfl (show ShownA w wz _ _ from by rw [HEQ.out]; exact ⟨va3, vc3, by simp [unlocked], by simpa [unlocked] using celsIn_away C7.out SF.out.2 (fun y hy => (HNS.out y hy).1), below_grown K7.out SF.out.2 (by omega)⟩)
  | true =>
    obtain ⟨c0, c1', c2, c3, c4, c5⟩ := cells6 T7.out
    obtain ⟨f0, f1, f2, f3, f4, f5⟩ := free6 T7.out
    have SO := gsetCell wb D 4 (.bool false)
    have T8 := Lib.hid (heap_setCell_same wb D 4 _ 24 (.bool false) T7.out)
    have Z8 := Lib.hid (blk_g Z7.out SO (by intro e; injection e with e; have := HDR.out; omega))
    have C8 := Lib.hid (celsIn_away C7.out SO (fun y hy e => by have := (HNS.out y hy).2; omega))
    have K8 := Lib.hid (below_grown K7.out SO (by have := HDR.out; omega))
    clear SO
    obtain ⟨e0, e1, e2, e3, e4, e5⟩ := cells6 T8.out
    obtain ⟨h0, h1, h2, h3, h4, h5⟩ := free6 T8.out
    have SO := gsetCell (wb.setCell ⟨D, 4, none⟩ (.bool false)) D 5 (.bool false)
    have T9 := Lib.hid (heap_setCell_same (wb.setCell ⟨D, 4, none⟩ (.bool false)) D 5 _ 24 (.bool false) T8.out)
    have Z9 := Lib.hid (blk_g Z8.out SO (by intro e; injection e with e; have := HDR.out; omega))
    have C9 := Lib.hid (celsIn_away C8.out SO (fun y hy e => by have := (HNS.out y hy).2; omega))
    have K9 := Lib.hid (below_grown K8.out SO (by have := HDR.out; omega))
    clear SO T7 Z7 C7 K7 T8 Z8 C8 K8
    go_upto_region 26 with (fail)
    clear c0 c1' c2 c3 c4 c5 f0 f1 f2 f3 f4 f5 e0 e1 e2 e3 e4 e5 h0 h1 h2 h3 h4 h5 d0 d1 d2 d3 d4
    generalize (wb.setCell _ _).setCell _ _ = wc at *
    obtain ⟨c0, c1', c2, c3, c4, c5⟩ := cells6 T9.out
    obtain ⟨f0, f1, f2, f3, f4, f5⟩ := free6 Z9.out
    obtain ⟨z0, z1, z2, z3, z4, z5⟩ := cells6 Z9.out
    have SF := Lib.hid (over6 wc (w.heap.size + 2) _ _ _ _ _ _ _ (.int .i64 r1) (.int .i64 c1) (.slice va3 cs1.length vc3) (.int .i64 cu1) (.bool false) (.bool false) Z9.out)
    go_wp2_with fail
    clear z0 z1 z2 z3 z4 z5 c0 c1' c2 c3 c4 c5 f0 f1 f2 f3 f4 f5
    generalize (((((wc.setCell _ _).setCell _ _).setCell _ _).setCell _ _).setCell _ _).setCell _ _ = wz at *
    exact bodyPost_ret (v := .agg #[.int .i64 r1, .int .i64 c1, .slice va3 cs1.length vc3, .int .i64 cu1, .bool false, .bool false]) (results_cell_row rfl _ _ (w.heap.size + 2) 24 _ (0, 0) _ rfl SF.out.1 Tryz.underlying24 rfl (by kernel_rfl)) rfl (show ShownA w wz _ _ from by rw [HEQ.out]; exact ⟨va3, vc3, by simp [unlocked], by simpa [unlocked] using celsIn_away C9.out SF.out.2 (fun y hy => (HNS.out y hy).1), below_grown K9.out SF.out.2 (by omega)⟩)
set_option maxRecDepth 100000 in
set_option maxHeartbeats 8000000 in
theorem rdo_erase_false (s : S) (ad : Option Addr) (k : Nat) (fa fu : Bool) (os : List Go.Proofs.YtpgbnnnfeaodmaaGreatDoor.Ord.O) (al : Option Addr) (nl cl : Nat) (w : World) (h : CelsIn w (.slice ad s.cs.length k) s.cs) (hl : s.cs.length < 10000) (hz : 0 < s.cs.length) (hO : Str.OrdsIn w 0 (.slice al nl cl) os) (ho8 : Str.Sound os) (hol : os.length < 10000) (hw : ∀ o ∈ os, Go.Proofs.YtpgbnnnfeaodmaaGreatDoor.Ord.wrong o s.cs.length = 0) :
    Calls Tryz.prog 50 #[.agg #[.int .i64 s.rows, .int .i64 s.cols, .slice ad s.cs.length k, .int .i64 s.cur, .bool s.lk, .bool s.ins], .agg #[.int .i64 245, .bool fa, .bool fu, .bool false, .slice al nl cl]] w fun e w' => ShownA w w' (hwrite (herased s) false fu os) e := by
  obtain ⟨r, c, cs, cur, lk, ins⟩ := s
  simp only at *
  have HB := Lib.hid (kept_trans (kept_trans (al_any w (.cells #[.int .i64 r, .int .i64 c, .slice ad cs.length k, .int .i64 cur, .bool lk, .bool ins] 24)) (al_any _ (.cells #[.int .i64 245, .bool fa, .bool fu, .bool false, .slice al nl cl] 82))) (al_any _ (.cells #[.int .i64 0, .int .i64 0, .slice none 0 0, .int .i64 0, .bool false, .bool false] 24)))
  have HX := Lib.hid (heap_alloc3 w (.cells #[.int .i64 r, .int .i64 c, .slice ad cs.length k, .int .i64 cur, .bool lk, .bool ins] 24) (.cells #[.int .i64 245, .bool fa, .bool fu, .bool false, .slice al nl cl] 82) (.cells #[.int .i64 0, .int .i64 0, .slice none 0 0, .int .i64 0, .bool false, .bool false] 24)).1
  have HY := Lib.hid (heap_alloc3 w (.cells #[.int .i64 r, .int .i64 c, .slice ad cs.length k, .int .i64 cur, .bool lk, .bool ins] 24) (.cells #[.int .i64 245, .bool fa, .bool fu, .bool false, .slice al nl cl] 82) (.cells #[.int .i64 0, .int .i64 0, .slice none 0 0, .int .i64 0, .bool false, .bool false] 24)).2.1
  have HZ := Lib.hid (heap_alloc3 w (.cells #[.int .i64 r, .int .i64 c, .slice ad cs.length k, .int .i64 cur, .bool lk, .bool ins] 24) (.cells #[.int .i64 245, .bool fa, .bool fu, .bool false, .slice al nl cl] 82) (.cells #[.int .i64 0, .int .i64 0, .slice none 0 0, .int .i64 0, .bool false, .bool false] 24)).2.2
  have HI0 := Lib.hid h
  have HI := Lib.hid (h.below HB.out)
  have HC := Lib.hid fun W hb => rcopy_any ⟨r, c, cs, cur, lk, ins⟩ ad k W (HI.out.below hb) (by simp only; omega)
  simp only at HC
  have HL := Lib.hid hl
  have HP := Lib.hid hz
  have hlb : (cs.length : Int) < 10000 := by omega
  have HO := Lib.hid hO
  have HO8 := Lib.hid ho8
  have HOL := Lib.hid hol
  have HW := Lib.hid hw
  clear hO ho8 hol hw
  clear h hl hz
  go_enter Tryz.func50, Tryz.ntmps50
  go_upto_region 1 with (fail)
  generalize ((w.alloc _).alloc _).alloc _ = w1 at *
  obtain ⟨c0, c1, c2, c3, c4, c5⟩ := cells6 HX.out
  go_wp2_with fail
  with_reducible refine (HC.out _ (Below.refl _ _)).mono ?_
  rintro e w2 ⟨va, vc, rfl, ho, hb⟩
  clear c0 c1 c2 c3 c4 c5
  obtain ⟨g, vd, e1, hg1, hg2, _⟩ := OwnCels.at ho HP.out
  injection e1 with e1 e2 e3
  subst e1
  subst e3
  clear e2
  have hz0 := there_lt HZ.out
  have HA2 := al_any w2 (.cells #[.int .i64 r, .int .i64 c, .slice (some ⟨g, 0, none⟩) cs.length vc, .int .i64 cur, .bool lk, .bool ins] 24)
  have L3 := Lib.hid (heap_alloc_new w2 (.cells #[.int .i64 r, .int .i64 c, .slice (some ⟨g, 0, none⟩) cs.length vc, .int .i64 cur, .bool lk, .bool ins] 24))
  have X3 := Lib.hid (blk HX.out (kept_trans hb HA2))
  have Y3 := Lib.hid (blk HY.out (kept_trans hb HA2))
  have Z3 := Lib.hid (blk HZ.out (kept_trans hb HA2))
  have O3 := Lib.hid ((OwnCels.below ho HA2).mono HB.out.size)
  have K3 := Lib.hid (kept_trans HB.out (kept_trans hb HA2))
  have hsz := hb.size
  clear HA2 ho hb HX HY HZ HC HB HI
  go_upto_region 2 with (fail)
  generalize w2.alloc _ = w3 at *
  have HG1 := Lib.hid (show w.heap.size + 2 < g from by omega)
  have HG2 := Lib.hid hg2
  clear hg1 hg2 hz0 hsz
  generalize w2.heap.size = G at *
  obtain ⟨d0, d1, d2, d3, d4⟩ := cells5o Y3.out
  go_upto_region 18 with (fail)
  clear d0 d1 d2 d3 d4
  obtain ⟨x0, x1, x2, x3, x4, x5⟩ := cells6 X3.out
  go_wp2_with (at_make; refine wpList_mark ?_)
  refine Lib.hid ?_
  obtain ⟨i0, hi, hz0, hz1, hz2⟩ := info_parts infoC
  refine wpList_make_full _ rfl _ _ 22 rfl w3.heap.size 42 i0 _ 6 Tryz.underlying22 hi hz0 hz1 .i64 .i64 _ _ cs.length rfl rfl rfl rfl ?_ ?_ ?_ ?_
  · rw [hz2]; have := HL.out; omega
  · have := HL.out; unfold maxLen; omega
  · exact Nat.le_refl _
  intro w4 hown hgr
  rw [made_cells] at hown
  have HS4 := Lib.hid (show Below w3.heap.size w3 w4 from belowg hgr)
  have O4 := Lib.hid (show OwnCels w4 w3.heap.size (.slice (some ⟨w3.heap.size, 0, none⟩) cs.length cs.length) (List.replicate cs.length noC) from by
    unfold OwnCels; rw [List.length_replicate]; exact hown)
  clear hown hgr hi hz0 hz1 hz2 x0 x1 x2 x3 x4 x5
  have L4 := Lib.hid (blk L3.out HS4.out)
  have X4 := Lib.hid (blk X3.out HS4.out)
  have Y4 := Lib.hid (blk Y3.out HS4.out)
  have Z4 := Lib.hid (blk Z3.out HS4.out)
  have K4 := kept_hid K3 HS4.out
  have HGL := Lib.hid (there_lt L3.out)
  have hk3 := K3.out.size
  have O4 := Lib.hid (OwnCels.mono (b := w.heap.size) O4.out hk3)
  have HG3 := Lib.hid (show G < w3.heap.size from HGL.out)
  clear L3 X3 Y3 Z3 K3 O3 HS4 HGL hk3
  generalize w3.heap.size = g3 at *
  obtain ⟨c0, c1, c2, c3, c4, c5⟩ := cells6 L4.out
  obtain ⟨f0, f1, f2, f3, f4, f5⟩ := free6 L4.out
  have SO := gsetCell w4 G 2 (.slice (some ⟨g3, 0, none⟩) cs.length cs.length)
  have L5 := Lib.hid (heap_setCell_same w4 G 2 _ 24 (.slice (some ⟨g3, 0, none⟩) cs.length cs.length) L4.out)
  have O5 := Lib.hid (OwnCels.away O4.out SO (by have := HG3.out; simp [Value.ownBlock]; omega))
  have X5 := Lib.hid (blk_g X4.out SO (by intro e; injection e with e; have := HG2.out; have := HG1.out; omega))
  have Y5 := Lib.hid (blk_g Y4.out SO (by intro e; injection e with e; have := HG2.out; have := HG1.out; omega))
  have Z5 := Lib.hid (blk_g Z4.out SO (by intro e; injection e with e; have := HG2.out; have := HG1.out; omega))
  have K5 := Lib.hid (below_grown K4.out SO (by have := HG2.out; have := HG1.out; omega))
  clear SO O4 X4 Y4 Z4 K4
  obtain ⟨c0', c1', c2', c3', c4', c5'⟩ := cells6 L5.out
  obtain ⟨f0', f1', f2', f3', f4', f5'⟩ := free6 L5.out
  have SO := gsetCell (w4.setCell ⟨G, 2, none⟩ (.slice (some ⟨g3, 0, none⟩) cs.length cs.length)) G 3 (.int .i64 0)
  have L6 := Lib.hid (heap_setCell_same (w4.setCell ⟨G, 2, none⟩ (.slice (some ⟨g3, 0, none⟩) cs.length cs.length)) G 3 _ 24 (.int .i64 0) L5.out)
  have O6 := Lib.hid (OwnCels.away O5.out SO (by have := HG3.out; simp [Value.ownBlock]; omega))
  have X6 := Lib.hid (blk_g X5.out SO (by intro e; injection e with e; have := HG2.out; have := HG1.out; omega))
  have Y6 := Lib.hid (blk_g Y5.out SO (by intro e; injection e with e; have := HG2.out; have := HG1.out; omega))
  have Z6 := Lib.hid (blk_g Z5.out SO (by intro e; injection e with e; have := HG2.out; have := HG1.out; omega))
  have K6 := Lib.hid (below_grown K5.out SO (by have := HG2.out; have := HG1.out; omega))
  clear SO O5 X5 Y5 Z5 K5
  go_upto_region 20 with (fail)
  clear c0 c1 c2 c3 c4 c5 f0 f1 f2 f3 f4 f5 c0' c1' c2' c3' c4' c5' f0' f1' f2' f3' f4' f5'
  generalize (w4.setCell _ _).setCell _ _ = w6 at *
  obtain ⟨d0, d1, d2, d3, d4⟩ := cells5o Y6.out
  have hll : ((List.replicate cs.length noC)).length = cs.length := by simp []
  have HAL := Lib.hid (rall_any ⟨r, c, (List.replicate cs.length noC), 0, lk, ins⟩ (some ⟨g3, 0, none⟩) cs.length 0 al nl cl os w6 (by simp only; rw [hll]; have := O6.out.to; exact this) (by simp only; rw [hll]; exact HL.out) (by simp only; rw [hll]; exact HP.out) (HO.out.below K6.out) HO8.out (by have := HOL.out; omega) (by simp only; rw [hll]; exact HW.out))
  have HPR := Lib.hid (pall_rest os (⟨r, c, (List.replicate cs.length noC), 0, lk, ins⟩, 0))
  simp only [Shown] at HAL HPR
  have HEQ := Lib.hid (show hwrite (herased ⟨r, c, cs, cur, lk, ins⟩) false fu os = unlocked fu (pall (⟨r, c, (List.replicate cs.length noC), 0, lk, ins⟩, 0) os).1 from by simp [hwrite, after, herased])
  rw [hll] at HAL HPR
  generalize pall (⟨r, c, (List.replicate cs.length noC), 0, lk, ins⟩, 0) os = st at *
  obtain ⟨⟨r1, c1, cs1, cu1, lk1, in1⟩, pl⟩ := st
  simp only at HAL HPR HEQ
  simp only [show ((0 : Nat) : Int) = 0 from rfl] at HAL
  obtain ⟨c0, c1', c2, c3, c4, c5⟩ := cells6 L6.out
  go_wp2_with fail
  with_reducible refine HAL.out.mono ?_
  rintro e wa ⟨va3, vc3, rfl, ho, hb⟩
  clear HAL c0 c1' c2 c3 c4 c5 d0 d1 d2 d3 d4
  have HA := al_any wa (.cells #[.int .i64 r1, .int .i64 c1, .slice va3 cs1.length vc3, .int .i64 cu1, .bool lk1, .bool in1] 24)
  have T7 := Lib.hid (heap_alloc_new wa (.cells #[.int .i64 r1, .int .i64 c1, .slice va3 cs1.length vc3, .int .i64 cu1, .bool lk1, .bool in1] 24))
  have hcl : cs1.length = cs.length := HPR.out.2.2.1
  have HNS := Lib.hid (not_screen ho (by rw [hcl]; exact HP.out) (blk Z6.out hb))
  have hZW := there_lt (blk Z6.out hb)
  have Y7 := Lib.hid (blk Y6.out (kept_trans hb HA))
  have Z7 := Lib.hid (blk Z6.out (kept_trans hb HA))
  have K7 := kept_hid K6 (kept_trans hb HA)
  have C7 := Lib.hid (ho.below HA)
  have HDR := Lib.hid (show w.heap.size + 2 < wa.heap.size from hZW)
  clear HA ho hb hZW hcl Y6 Z6 K6 X6 L6 O6
  go_upto_region 23 with (fail)
  generalize wa.heap.size = D at *
  generalize wa.alloc _ = wb at *
  obtain ⟨d0, d1, d2, d3, d4⟩ := cells5o Y7.out
  cases fu with
  | false =>
    obtain ⟨c0, c1', c2, c3, c4, c5⟩ := cells6 T7.out
    obtain ⟨f0, f1, f2, f3, f4, f5⟩ := free6 Z7.out
    obtain ⟨z0, z1, z2, z3, z4, z5⟩ := cells6 Z7.out
    have SF := Lib.hid (over6 wb (w.heap.size + 2) _ _ _ _ _ _ _ (.int .i64 r1) (.int .i64 c1) (.slice va3 cs1.length vc3) (.int .i64 cu1) (.bool lk1) (.bool in1) Z7.out)
    go_wp2_with fail
    clear z0 z1 z2 z3 z4 z5 c0 c1' c2 c3 c4 c5 f0 f1 f2 f3 f4 f5 d0 d1 d2 d3 d4
    generalize (((((wb.setCell _ _).setCell _ _).setCell _ _).setCell _ _).setCell _ _).setCell _ _ = wz at *
    exact bodyPost_ret (v := .agg #[.int .i64 r1, .int .i64 c1, .slice va3 cs1.length vc3, .int .i64 cu1, .bool lk1, .bool in1]) (results_cell_row rfl _ _ (w.heap.size + 2) 24 _ (0, 0) _ rfl SF.out.1 Tryz.underlying24 rfl (by kernel_rfl)) rfl (show ShownA w wz _ _ from by rw [HEQ.out]; exact ⟨va3, vc3, by simp [unlocked], by simpa [unlocked] using celsIn_away C7.out SF.out.2 (fun y hy => (HNS.out y hy).1), below_grown K7.out SF.out.2 (by omega)⟩)
  | true =>
    obtain ⟨c0, c1', c2, c3, c4, c5⟩ := cells6 T7.out
    obtain ⟨f0, f1, f2, f3, f4, f5⟩ := free6 T7.out
    have SO := gsetCell wb D 4 (.bool false)
    have T8 := Lib.hid (heap_setCell_same wb D 4 _ 24 (.bool false) T7.out)
    have Z8 := Lib.hid (blk_g Z7.out SO (by intro e; injection e with e; have := HDR.out; omega))
    have C8 := Lib.hid (celsIn_away C7.out SO (fun y hy e => by have := (HNS.out y hy).2; omega))
    have K8 := Lib.hid (below_grown K7.out SO (by have := HDR.out; omega))
    clear SO
    obtain ⟨e0, e1, e2, e3, e4, e5⟩ := cells6 T8.out
    obtain ⟨h0, h1, h2, h3, h4, h5⟩ := free6 T8.out
    have SO := gsetCell (wb.setCell ⟨D, 4, none⟩ (.bool false)) D 5 (.bool false)
    have T9 := Lib.hid (heap_setCell_same (wb.setCell ⟨D, 4, none⟩ (.bool false)) D 5 _ 24 (.bool false) T8.out)
    have Z9 := Lib.hid (blk_g Z8.out SO (by intro e; injection e with e; have := HDR.out; omega))
    have C9 := Lib.hid (celsIn_away C8.out SO (fun y hy e => by have := (HNS.out y hy).2; omega))
    have K9 := Lib.hid (below_grown K8.out SO (by have := HDR.out; omega))
    clear SO T7 Z7 C7 K7 T8 Z8 C8 K8
    go_upto_region 26 with (fail)
    clear c0 c1' c2 c3 c4 c5 f0 f1 f2 f3 f4 f5 e0 e1 e2 e3 e4 e5 h0 h1 h2 h3 h4 h5 d0 d1 d2 d3 d4
    generalize (wb.setCell _ _).setCell _ _ = wc at *
    obtain ⟨c0, c1', c2, c3, c4, c5⟩ := cells6 T9.out
    obtain ⟨f0, f1, f2, f3, f4, f5⟩ := free6 Z9.out
    obtain ⟨z0, z1, z2, z3, z4, z5⟩ := cells6 Z9.out
    have SF := Lib.hid (over6 wc (w.heap.size + 2) _ _ _ _ _ _ _ (.int .i64 r1) (.int .i64 c1) (.slice va3 cs1.length vc3) (.int .i64 cu1) (.bool false) (.bool false) Z9.out)
    go_wp2_with fail
    clear z0 z1 z2 z3 z4 z5 c0 c1' c2 c3 c4 c5 f0 f1 f2 f3 f4 f5
    generalize (((((wc.setCell _ _).setCell _ _).setCell _ _).setCell _ _).setCell _ _).setCell _ _ = wz at *
    exact bodyPost_ret (v := .agg #[.int .i64 r1, .int .i64 c1, .slice va3 cs1.length vc3, .int .i64 cu1, .bool false, .bool false]) (results_cell_row rfl _ _ (w.heap.size + 2) 24 _ (0, 0) _ rfl SF.out.1 Tryz.underlying24 rfl (by kernel_rfl)) rfl (show ShownA w wz _ _ from by rw [HEQ.out]; exact ⟨va3, vc3, by simp [unlocked], by simpa [unlocked] using celsIn_away C9.out SF.out.2 (fun y hy => (HNS.out y hy).1), below_grown K9.out SF.out.2 (by omega)⟩)
set_option maxRecDepth 100000 in
set_option maxHeartbeats 8000000 in
theorem rdo_erase_true (s : S) (ad : Option Addr) (k : Nat) (fa fu : Bool) (os : List Go.Proofs.YtpgbnnnfeaodmaaGreatDoor.Ord.O) (al : Option Addr) (nl cl : Nat) (w : World) (h : CelsIn w (.slice ad s.cs.length k) s.cs) (hl : s.cs.length < 10000) (hz : 0 < s.cs.length) (hO : Str.OrdsIn w 0 (.slice al nl cl) os) (ho8 : Str.Sound os) (hol : os.length < 10000) (hw : ∀ o ∈ os, Go.Proofs.YtpgbnnnfeaodmaaGreatDoor.Ord.wrong o s.cs.length = 0) :
    Calls Tryz.prog 50 #[.agg #[.int .i64 s.rows, .int .i64 s.cols, .slice ad s.cs.length k, .int .i64 s.cur, .bool s.lk, .bool s.ins], .agg #[.int .i64 245, .bool fa, .bool fu, .bool true, .slice al nl cl]] w fun e w' => ShownA w w' (hwrite (herased s) true fu os) e := by
  obtain ⟨r, c, cs, cur, lk, ins⟩ := s
  simp only at *
  have HB := Lib.hid (kept_trans (kept_trans (al_any w (.cells #[.int .i64 r, .int .i64 c, .slice ad cs.length k, .int .i64 cur, .bool lk, .bool ins] 24)) (al_any _ (.cells #[.int .i64 245, .bool fa, .bool fu, .bool true, .slice al nl cl] 82))) (al_any _ (.cells #[.int .i64 0, .int .i64 0, .slice none 0 0, .int .i64 0, .bool false, .bool false] 24)))
  have HX := Lib.hid (heap_alloc3 w (.cells #[.int .i64 r, .int .i64 c, .slice ad cs.length k, .int .i64 cur, .bool lk, .bool ins] 24) (.cells #[.int .i64 245, .bool fa, .bool fu, .bool true, .slice al nl cl] 82) (.cells #[.int .i64 0, .int .i64 0, .slice none 0 0, .int .i64 0, .bool false, .bool false] 24)).1
  have HY := Lib.hid (heap_alloc3 w (.cells #[.int .i64 r, .int .i64 c, .slice ad cs.length k, .int .i64 cur, .bool lk, .bool ins] 24) (.cells #[.int .i64 245, .bool fa, .bool fu, .bool true, .slice al nl cl] 82) (.cells #[.int .i64 0, .int .i64 0, .slice none 0 0, .int .i64 0, .bool false, .bool false] 24)).2.1
  have HZ := Lib.hid (heap_alloc3 w (.cells #[.int .i64 r, .int .i64 c, .slice ad cs.length k, .int .i64 cur, .bool lk, .bool ins] 24) (.cells #[.int .i64 245, .bool fa, .bool fu, .bool true, .slice al nl cl] 82) (.cells #[.int .i64 0, .int .i64 0, .slice none 0 0, .int .i64 0, .bool false, .bool false] 24)).2.2
  have HI0 := Lib.hid h
  have HI := Lib.hid (h.below HB.out)
  have HC := Lib.hid fun W hb => rcopy_any ⟨r, c, cs, cur, lk, ins⟩ ad k W (HI.out.below hb) (by simp only; omega)
  simp only at HC
  have HL := Lib.hid hl
  have HP := Lib.hid hz
  have hlb : (cs.length : Int) < 10000 := by omega
  have HO := Lib.hid hO
  have HO8 := Lib.hid ho8
  have HOL := Lib.hid hol
  have HW := Lib.hid hw
  clear hO ho8 hol hw
  clear h hl hz
  go_enter Tryz.func50, Tryz.ntmps50
  go_upto_region 1 with (fail)
  generalize ((w.alloc _).alloc _).alloc _ = w1 at *
  obtain ⟨c0, c1, c2, c3, c4, c5⟩ := cells6 HX.out
  go_wp2_with fail
  with_reducible refine (HC.out _ (Below.refl _ _)).mono ?_
  rintro e w2 ⟨va, vc, rfl, ho, hb⟩
  clear c0 c1 c2 c3 c4 c5
  obtain ⟨g, vd, e1, hg1, hg2, _⟩ := OwnCels.at ho HP.out
  injection e1 with e1 e2 e3
  subst e1
  subst e3
  clear e2
  have hz0 := there_lt HZ.out
  have HA2 := al_any w2 (.cells #[.int .i64 r, .int .i64 c, .slice (some ⟨g, 0, none⟩) cs.length vc, .int .i64 cur, .bool lk, .bool ins] 24)
  have L3 := Lib.hid (heap_alloc_new w2 (.cells #[.int .i64 r, .int .i64 c, .slice (some ⟨g, 0, none⟩) cs.length vc, .int .i64 cur, .bool lk, .bool ins] 24))
  have X3 := Lib.hid (blk HX.out (kept_trans hb HA2))
  have Y3 := Lib.hid (blk HY.out (kept_trans hb HA2))
  have Z3 := Lib.hid (blk HZ.out (kept_trans hb HA2))
  have O3 := Lib.hid ((OwnCels.below ho HA2).mono HB.out.size)
  have K3 := Lib.hid (kept_trans HB.out (kept_trans hb HA2))
  have hsz := hb.size
  clear HA2 ho hb HX HY HZ HC HB HI
  go_upto_region 2 with (fail)
  generalize w2.alloc _ = w3 at *
  have HG1 := Lib.hid (show w.heap.size + 2 < g from by omega)
  have HG2 := Lib.hid hg2
  clear hg1 hg2 hz0 hsz
  generalize w2.heap.size = G at *
  obtain ⟨d0, d1, d2, d3, d4⟩ := cells5o Y3.out
  go_upto_region 18 with (fail)
  clear d0 d1 d2 d3 d4
  obtain ⟨x0, x1, x2, x3, x4, x5⟩ := cells6 X3.out
  go_wp2_with (at_make; refine wpList_mark ?_)
  refine Lib.hid ?_
  obtain ⟨i0, hi, hz0, hz1, hz2⟩ := info_parts infoC
  refine wpList_make_full _ rfl _ _ 22 rfl w3.heap.size 42 i0 _ 6 Tryz.underlying22 hi hz0 hz1 .i64 .i64 _ _ cs.length rfl rfl rfl rfl ?_ ?_ ?_ ?_
  · rw [hz2]; have := HL.out; omega
  · have := HL.out; unfold maxLen; omega
  · exact Nat.le_refl _
  intro w4 hown hgr
  rw [made_cells] at hown
  have HS4 := Lib.hid (show Below w3.heap.size w3 w4 from belowg hgr)
  have O4 := Lib.hid (show OwnCels w4 w3.heap.size (.slice (some ⟨w3.heap.size, 0, none⟩) cs.length cs.length) (List.replicate cs.length noC) from by
    unfold OwnCels; rw [List.length_replicate]; exact hown)
  clear hown hgr hi hz0 hz1 hz2 x0 x1 x2 x3 x4 x5
  have L4 := Lib.hid (blk L3.out HS4.out)
  have X4 := Lib.hid (blk X3.out HS4.out)
  have Y4 := Lib.hid (blk Y3.out HS4.out)
  have Z4 := Lib.hid (blk Z3.out HS4.out)
  have K4 := kept_hid K3 HS4.out
  have HGL := Lib.hid (there_lt L3.out)
  have hk3 := K3.out.size
  have O4 := Lib.hid (OwnCels.mono (b := w.heap.size) O4.out hk3)
  have HG3 := Lib.hid (show G < w3.heap.size from HGL.out)
  clear L3 X3 Y3 Z3 K3 O3 HS4 HGL hk3
  generalize w3.heap.size = g3 at *
  obtain ⟨c0, c1, c2, c3, c4, c5⟩ := cells6 L4.out
  obtain ⟨f0, f1, f2, f3, f4, f5⟩ := free6 L4.out
  have SO := gsetCell w4 G 2 (.slice (some ⟨g3, 0, none⟩) cs.length cs.length)
  have L5 := Lib.hid (heap_setCell_same w4 G 2 _ 24 (.slice (some ⟨g3, 0, none⟩) cs.length cs.length) L4.out)
  have O5 := Lib.hid (OwnCels.away O4.out SO (by have := HG3.out; simp [Value.ownBlock]; omega))
  have X5 := Lib.hid (blk_g X4.out SO (by intro e; injection e with e; have := HG2.out; have := HG1.out; omega))
  have Y5 := Lib.hid (blk_g Y4.out SO (by intro e; injection e with e; have := HG2.out; have := HG1.out; omega))
  have Z5 := Lib.hid (blk_g Z4.out SO (by intro e; injection e with e; have := HG2.out; have := HG1.out; omega))
  have K5 := Lib.hid (below_grown K4.out SO (by have := HG2.out; have := HG1.out; omega))
  clear SO O4 X4 Y4 Z4 K4
  obtain ⟨c0', c1', c2', c3', c4', c5'⟩ := cells6 L5.out
  obtain ⟨f0', f1', f2', f3', f4', f5'⟩ := free6 L5.out
  have SO := gsetCell (w4.setCell ⟨G, 2, none⟩ (.slice (some ⟨g3, 0, none⟩) cs.length cs.length)) G 3 (.int .i64 0)
  have L6 := Lib.hid (heap_setCell_same (w4.setCell ⟨G, 2, none⟩ (.slice (some ⟨g3, 0, none⟩) cs.length cs.length)) G 3 _ 24 (.int .i64 0) L5.out)
  have O6 := Lib.hid (OwnCels.away O5.out SO (by have := HG3.out; simp [Value.ownBlock]; omega))
  have X6 := Lib.hid (blk_g X5.out SO (by intro e; injection e with e; have := HG2.out; have := HG1.out; omega))
  have Y6 := Lib.hid (blk_g Y5.out SO (by intro e; injection e with e; have := HG2.out; have := HG1.out; omega))
  have Z6 := Lib.hid (blk_g Z5.out SO (by intro e; injection e with e; have := HG2.out; have := HG1.out; omega))
  have K6 := Lib.hid (below_grown K5.out SO (by have := HG2.out; have := HG1.out; omega))
  clear SO O5 X5 Y5 Z5 K5
  go_upto_region 20 with (fail)
  clear c0 c1 c2 c3 c4 c5 f0 f1 f2 f3 f4 f5 c0' c1' c2' c3' c4' c5' f0' f1' f2' f3' f4' f5'
  generalize (w4.setCell _ _).setCell _ _ = w6 at *
  obtain ⟨d0, d1, d2, d3, d4⟩ := cells5o Y6.out
  go_upto_region 21 with (fail)
  clear d0 d1 d2 d3 d4
  have HRS := Lib.hid (rreset_any ⟨r, c, (List.replicate cs.length noC), 0, lk, ins⟩ (some ⟨g3, 0, none⟩) cs.length true w6 (by simpa using O6.out.to) (by have := HL.out; simp; omega) (by have := HP.out; simp; omega))
  simp only [GaveA, hreset, resetC_length, List.length_replicate] at HRS
  obtain ⟨c0, c1, c2, c3, c4, c5⟩ := cells6 L6.out
  go_wp2_with fail
  with_reducible refine HRS.out.mono ?_
  rintro e w7 ⟨va, vc2, rfl, ho, hb⟩
  clear HRS c0 c1 c2 c3 c4 c5
  have hpo : 0 < (resetC true ((List.replicate cs.length noC))).length := by rw [resetC_length]; simpa using HP.out
  obtain ⟨g2, vd, e1, hg1, hg2, _⟩ := OwnCels.at ho hpo
  injection e1 with e1 e2 e3
  subst e1
  subst e3
  clear e2 hpo
  have HG4 := Lib.hid (show G < g2 from by have := there_lt L6.out; omega)
  have L7 := blk L6.out hb
  have X7 := Lib.hid (blk X6.out hb)
  have Y7 := Lib.hid (blk Y6.out hb)
  have Z7 := Lib.hid (blk Z6.out hb)
  have K7 := kept_hid K6 hb
  have hkl := K6.out.size
  obtain ⟨f0, f1, f2, f3, f4, f5⟩ := free6 L7
  obtain ⟨c0, c1, c2, c3, c4, c5⟩ := cells6 L7
  have SO := over6 w7 G _ _ _ _ _ _ _ (.int .i64 r) (.int .i64 c) (.slice (some ⟨g2, 0, none⟩) cs.length vc2) (.int .i64 0) (.bool lk) (.bool ins) L7
  have L8 := Lib.hid SO.1
  have X8 := Lib.hid (blk_g X7.out SO.2 (by intro e; injection e with e; have := HG2.out; have := HG1.out; omega))
  have Y8 := Lib.hid (blk_g Y7.out SO.2 (by intro e; injection e with e; have := HG2.out; have := HG1.out; omega))
  have Z8 := Lib.hid (blk_g Z7.out SO.2 (by intro e; injection e with e; have := HG2.out; have := HG1.out; omega))
  have O8 := Lib.hid (OwnCels.mono (b := w.heap.size) (OwnCels.away ho SO.2 (by have := HG4.out; simp [Value.ownBlock]; omega)) hkl)
  have K8 := Lib.hid (below_grown K7.out SO.2 (by have := HG1.out; have := HG2.out; omega))
  clear SO ho hb hg1 hg2 hkl L7 X7 Y7 Z7 K7 L6 O6 X6 Y6 Z6 K6
  go_upto_region 22 with (fail)
  clear c0 c1 c2 c3 c4 c5 f0 f1 f2 f3 f4 f5
  generalize (((((w7.setCell _ _).setCell _ _).setCell _ _).setCell _ _).setCell _ _).setCell _ _ = w8 at *
  obtain ⟨d0, d1, d2, d3, d4⟩ := cells5o Y8.out
  have hll : ((resetC true (List.replicate cs.length noC))).length = cs.length := by simp [resetC_length]
  have HAL := Lib.hid (rall_any ⟨r, c, (resetC true (List.replicate cs.length noC)), 0, lk, ins⟩ (some ⟨g2, 0, none⟩) vc2 0 al nl cl os w8 (by simp only; rw [hll]; have := O8.out.to; exact this) (by simp only; rw [hll]; exact HL.out) (by simp only; rw [hll]; exact HP.out) (HO.out.below K8.out) HO8.out (by have := HOL.out; omega) (by simp only; rw [hll]; exact HW.out))
  have HPR := Lib.hid (pall_rest os (⟨r, c, (resetC true (List.replicate cs.length noC)), 0, lk, ins⟩, 0))
  simp only [Shown] at HAL HPR
  have HEQ := Lib.hid (show hwrite (herased ⟨r, c, cs, cur, lk, ins⟩) true fu os = unlocked fu (pall (⟨r, c, (resetC true (List.replicate cs.length noC)), 0, lk, ins⟩, 0) os).1 from by simp [hwrite, after, herased, hreset])
  rw [hll] at HAL HPR
  generalize pall (⟨r, c, (resetC true (List.replicate cs.length noC)), 0, lk, ins⟩, 0) os = st at *
  obtain ⟨⟨r1, c1, cs1, cu1, lk1, in1⟩, pl⟩ := st
  simp only at HAL HPR HEQ
  simp only [show ((0 : Nat) : Int) = 0 from rfl] at HAL
  obtain ⟨c0, c1', c2, c3, c4, c5⟩ := cells6 L8.out
  go_wp2_with fail
  with_reducible refine HAL.out.mono ?_
  rintro e wa ⟨va3, vc3, rfl, ho, hb⟩
  clear HAL c0 c1' c2 c3 c4 c5 d0 d1 d2 d3 d4
  have HA := al_any wa (.cells #[.int .i64 r1, .int .i64 c1, .slice va3 cs1.length vc3, .int .i64 cu1, .bool lk1, .bool in1] 24)
  have T7 := Lib.hid (heap_alloc_new wa (.cells #[.int .i64 r1, .int .i64 c1, .slice va3 cs1.length vc3, .int .i64 cu1, .bool lk1, .bool in1] 24))
  have hcl : cs1.length = cs.length := HPR.out.2.2.1
  have HNS := Lib.hid (not_screen ho (by rw [hcl]; exact HP.out) (blk Z8.out hb))
  have hZW := there_lt (blk Z8.out hb)
  have Y7 := Lib.hid (blk Y8.out (kept_trans hb HA))
  have Z7 := Lib.hid (blk Z8.out (kept_trans hb HA))
  have K7 := kept_hid K8 (kept_trans hb HA)
  have C7 := Lib.hid (ho.below HA)
  have HDR := Lib.hid (show w.heap.size + 2 < wa.heap.size from hZW)
  clear HA ho hb hZW hcl Y8 Z8 K8 X8 L8 O8
  go_upto_region 23 with (fail)
  generalize wa.heap.size = D at *
  generalize wa.alloc _ = wb at *
  obtain ⟨d0, d1, d2, d3, d4⟩ := cells5o Y7.out
  cases fu with
  | false =>
    obtain ⟨c0, c1', c2, c3, c4, c5⟩ := cells6 T7.out
    obtain ⟨f0, f1, f2, f3, f4, f5⟩ := free6 Z7.out
    obtain ⟨z0, z1, z2, z3, z4, z5⟩ := cells6 Z7.out
    have SF := Lib.hid (over6 wb (w.heap.size + 2) _ _ _ _ _ _ _ (.int .i64 r1) (.int .i64 c1) (.slice va3 cs1.length vc3) (.int .i64 cu1) (.bool lk1) (.bool in1) Z7.out)
    go_wp2_with fail
    clear z0 z1 z2 z3 z4 z5 c0 c1' c2 c3 c4 c5 f0 f1 f2 f3 f4 f5 d0 d1 d2 d3 d4
    generalize (((((wb.setCell _ _).setCell _ _).setCell _ _).setCell _ _).setCell _ _).setCell _ _ = wz at *
    exact bodyPost_ret (v := .agg #[.int .i64 r1, .int .i64 c1, .slice va3 cs1.length vc3, .int .i64 cu1, .bool lk1, .bool in1]) (results_cell_row rfl _ _ (w.heap.size + 2) 24 _ (0, 0) _ rfl SF.out.1 Tryz.underlying24 rfl (by kernel_rfl)) rfl (show ShownA w wz _ _ from by rw [HEQ.out]; exact ⟨va3, vc3, by simp [unlocked], by simpa [unlocked] using celsIn_away C7.out SF.out.2 (fun y hy => (HNS.out y hy).1), below_grown K7.out SF.out.2 (by omega)⟩)
  | true =>
    obtain ⟨c0, c1', c2, c3, c4, c5⟩ := cells6 T7.out
    obtain ⟨f0, f1, f2, f3, f4, f5⟩ := free6 T7.out
    have SO := gsetCell wb D 4 (.bool false)
    have T8 := Lib.hid (heap_setCell_same wb D 4 _ 24 (.bool false) T7.out)
    have Z8 := Lib.hid (blk_g Z7.out SO (by intro e; injection e with e; have := HDR.out; omega))
    have C8 := Lib.hid (celsIn_away C7.out SO (fun y hy e => by have := (HNS.out y hy).2; omega))
    have K8 := Lib.hid (below_grown K7.out SO (by have := HDR.out; omega))
    clear SO
    obtain ⟨e0, e1, e2, e3, e4, e5⟩ := cells6 T8.out
    obtain ⟨h0, h1, h2, h3, h4, h5⟩ := free6 T8.out
    have SO := gsetCell (wb.setCell ⟨D, 4, none⟩ (.bool false)) D 5 (.bool false)
    have T9 := Lib.hid (heap_setCell_same (wb.setCell ⟨D, 4, none⟩ (.bool false)) D 5 _ 24 (.bool false) T8.out)
    have Z9 := Lib.hid (blk_g Z8.out SO (by intro e; injection e with e; have := HDR.out; omega))
    have C9 := Lib.hid (celsIn_away C8.out SO (fun y hy e => by have := (HNS.out y hy).2; omega))
    have K9 := Lib.hid (below_grown K8.out SO (by have := HDR.out; omega))
    clear SO T7 Z7 C7 K7 T8 Z8 C8 K8
    go_upto_region 26 with (fail)
    clear c0 c1' c2 c3 c4 c5 f0 f1 f2 f3 f4 f5 e0 e1 e2 e3 e4 e5 h0 h1 h2 h3 h4 h5 d0 d1 d2 d3 d4
    generalize (wb.setCell _ _).setCell _ _ = wc at *
    obtain ⟨c0, c1', c2, c3, c4, c5⟩ := cells6 T9.out
    obtain ⟨f0, f1, f2, f3, f4, f5⟩ := free6 Z9.out
    obtain ⟨z0, z1, z2, z3, z4, z5⟩ := cells6 Z9.out
    have SF := Lib.hid (over6 wc (w.heap.size + 2) _ _ _ _ _ _ _ (.int .i64 r1) (.int .i64 c1) (.slice va3 cs1.length vc3) (.int .i64 cu1) (.bool false) (.bool false) Z9.out)
    go_wp2_with fail
    clear z0 z1 z2 z3 z4 z5 c0 c1' c2 c3 c4 c5 f0 f1 f2 f3 f4 f5
    generalize (((((wc.setCell _ _).setCell _ _).setCell _ _).setCell _ _).setCell _ _).setCell _ _ = wz at *
    exact bodyPost_ret (v := .agg #[.int .i64 r1, .int .i64 c1, .slice va3 cs1.length vc3, .int .i64 cu1, .bool false, .bool false]) (results_cell_row rfl _ _ (w.heap.size + 2) 24 _ (0, 0) _ rfl SF.out.1 Tryz.underlying24 rfl (by kernel_rfl)) rfl (show ShownA w wz _ _ from by rw [HEQ.out]; exact ⟨va3, vc3, by simp [unlocked], by simpa [unlocked] using celsIn_away C9.out SF.out.2 (fun y hy => (HNS.out y hy).1), below_grown K9.out SF.out.2 (by omega)⟩)
theorem rdo_any (s : S) (ad : Option Addr) (k : Nat) (o : Str.Cm) (al : Option Addr) (nl cl : Nat) (w : World) (h : CelsIn w (.slice ad s.cs.length k) s.cs) (hr : sright s = true) (hl : s.cs.length < 10000) (hO : Str.OrdsIn w 0 (.slice al nl cl) o.os) (ho8 : Str.Sound o.os) (hol : o.os.length < 10000) (hc : (Str.cwrite o s.cs.length).2.1 = 0) :
    Calls Tryz.prog 50 #[.agg #[.int .i64 s.rows, .int .i64 s.cols, .slice ad s.cs.length k, .int .i64 s.cur, .bool s.lk, .bool s.ins], .agg #[.int .i64 o.cmd, .bool o.a, .bool o.u, .bool o.r, .slice al nl cl]] w fun e w' => ShownA w w' (hdo s o) e := by
  obtain ⟨h1, h2, h3⟩ := cwrite_right hc
  obtain ⟨_, _, g3, g4, _⟩ := sright_parts hr
  have hz : 0 < s.cs.length := by omega
  obtain ⟨cmd, fa, fu, fr, os⟩ := o
  simp only at h1 h2 h3 hO ho8 hol ⊢
  rcases known_cases h1 with rfl | rfl | rfl | rfl | rfl
  · cases fr with
    | false => exact rdo_write_false s ad k fa fu os al nl cl w h hl hz hO ho8 hol (h2 rfl) ⟨g3, g4⟩
    | true => exact rdo_write_true s ad k fa fu os al nl cl w h hl hz hO ho8 hol (h2 rfl) ⟨g3, g4⟩
  · cases fr with
    | false => exact rdo_erase_false s ad k fa fu os al nl cl w h hl hz hO ho8 hol (h2 rfl)
    | true => exact rdo_erase_true s ad k fa fu os al nl cl w h hl hz hO ho8 hol (h2 rfl)
  · obtain ⟨rfl, rfl, rfl, rfl⟩ := h3 rfl
    exact rdo_111 s ad k al nl cl w h hl hz
  · exact rdo_242 s ad k fa fu fr al nl cl w h hl hz
  · exact rdo_246 s ad k fa fu fr al nl cl w h hl hz
end Hst
end Go.Proofs.YtpgbnnnfeaodmaaGreatDoor
