/- InpSpec, InpMore, InpMem, InpOwn, InpStep, InpCheck, InpRight, InpPut, InpWrite, InpLt in one text (by tools/bundle.py). -/
import Derived.Test.YtpdlpmbjhopnnaaGreatDoorBunPlain
import Derived.Test.YtpdlpmbjhopnnaaGreatDoorBunBase
import Derived.Deep.AppendLies
import Derived.Deep.RegionHeld3
import Derived.Test.YtpdlpmbjhopnnaaGreatDoorBunLow
import Derived.Deep.LoopGhost
import Derived.IntWalk
import Derived.Deep.Cut
/- Plain: submissions, their bytes, and what bytes are as a submission. -/
namespace Go.Proofs.YtpdlpmbjhopnnaaGreatDoor
open Six
namespace Inp
open Att Adr
/-- A field: the cell at which it begins (-1: at none), and its letters. -/
structure F where
  a : Int
  t : List Nat
/-- A submission: its key, the cursor, its fields. -/
structure I where
  aid : Nat
  cur : Int
  fs : List F
def noneF : F := ⟨0, []⟩
def noneI : I := ⟨0, 0, []⟩
/-- A character but 0. -/
def letter (b : Nat) : Bool := b != 0 && char b
/-- What is wrong with a field (0: nothing); alone: it is the one field. -/
def fwrong (z : Nat) (alone : Bool) (f : F) : Nat :=
  if (alone && f.a == -1) = false ∧ (f.a < 0 ∨ (z : Int) ≤ f.a) then 4
  else if f.t.all letter = false then 3
  else if (alone && f.a == -1) = true ∧ f.t = [] then 1
  else 0
/-- What is wrong with fields (0: nothing), and at which. -/
def fw (z : Nat) (alone : Bool) : Nat → List F → Nat × Nat
  | _, [] => (0, 0)
  | i, f :: fs => if fwrong z alone f ≠ 0 then (fwrong z alone f, i) else fw z alone (i + 1) fs
/-- A field's bytes. -/
def fb (z : Nat) (f : F) : List Nat := if 0 ≤ f.a then 17 :: first f.a.toNat z :: second f.a.toNat z :: f.t else f.t
/-- The fields' bytes, one behind the other. -/
def fbs (z : Nat) : List F → List Nat
  | [] => []
  | f :: fs => fb z f ++ fbs z fs
/-- What is wrong with a submission but its length (0: nothing), and where. -/
def iright (c : I) (z : Nat) : Nat × Int :=
  if aid c.aid = false then (3, -1)
  else if bare c.aid = true then if c.cur ≠ 0 ∨ c.fs ≠ [] then (1, -1) else (0, -1)
  else if c.cur < 0 ∨ (z : Int) ≤ c.cur then (4, -1)
  else if (fw z (c.fs.length == 1) 0 c.fs).1 ≠ 0 then ((fw z (c.fs.length == 1) 0 c.fs).1, ((fw z (c.fs.length == 1) 0 c.fs).2 : Int))
  else (0, -1)
/-- The bytes of a right submission. -/
def ibytes (c : I) (z : Nat) : List Nat := if bare c.aid = true then [c.aid] else c.aid :: first c.cur.toNat z :: second c.cur.toNat z :: fbs z c.fs
/-- A submission's bytes; or what is wrong, and where (-1: at no place). -/
def iwrite (c : I) (z : Nat) : List Nat × Nat × Int :=
  if (iright c z).1 ≠ 0 then ([], iright c z)
  else if 8192 < (ibytes c z).length then ([], 6, -1)
  else (ibytes c z, 0, -1)
/-- The letters that stand ahead of all else, and what stands behind them. -/
def lets (ys : List Nat) : List Nat := ys.takeWhile letter
def rest (ys : List Nat) : List Nat := ys.dropWhile letter
/-- The fields that bytes are (f: fuel, at_: their place); or what is wrong, and where. -/
def flds (z : Nat) : Nat → Nat → List Nat → List F × Nat × Nat
  | 0, at_, _ => ([], 0, at_)
  | _ + 1, at_, [] => ([], 0, at_)
  | f + 1, at_, y :: r =>
    if y ≠ 17 then ([], 3, at_)
    else if (aspec r z).2.1 ≠ 0 then ([], (aspec r z).2.1, at_ + 1)
    else if (flds z f (at_ + 3 + (lets (r.drop 2)).length) (rest (r.drop 2))).2.1 ≠ 0 then ([], (flds z f (at_ + 3 + (lets (r.drop 2)).length) (rest (r.drop 2))).2)
    else (⟨((aspec r z).1 : Int), lets (r.drop 2)⟩ :: (flds z f (at_ + 3 + (lets (r.drop 2)).length) (rest (r.drop 2))).1, (flds z f (at_ + 3 + (lets (r.drop 2)).length) (rest (r.drop 2))).2)
/-- The submission that bytes are; or what is wrong, and where. -/
def iread (ys : List Nat) (z : Nat) : I × Nat × Int :=
  if 8192 < ys.length then (noneI, 6, 8192)
  else match ys with
  | [] => (noneI, 2, 0)
  | c :: r =>
    if aid c = false then (noneI, 3, 0)
    else if bare c = true then if r ≠ [] then (noneI, 1, 1) else (⟨c, 0, []⟩, 0, -1)
    else if (aspec r z).2.1 ≠ 0 then (noneI, (aspec r z).2.1, 1)
    else if lets (r.drop 2) ≠ [] then if rest (r.drop 2) ≠ [] then (noneI, 3, 3 + (lets (r.drop 2)).length) else (⟨c, ((aspec r z).1 : Int), [⟨-1, r.drop 2⟩]⟩, 0, -1)
    else if (flds z r.length 3 (r.drop 2)).2.1 ≠ 0 then (noneI, (flds z r.length 3 (r.drop 2)).2.1, ((flds z r.length 3 (r.drop 2)).2.2 : Int))
    else (⟨c, ((aspec r z).1 : Int), (flds z r.length 3 (r.drop 2)).1⟩, 0, -1)
theorem letter_17 : letter 17 = false := by decide
theorem lets_rest (ys : List Nat) : lets ys ++ rest ys = ys := List.takeWhile_append_dropWhile
theorem lets_all (ys : List Nat) : (lets ys).all letter = true := by
  rw [List.all_eq_true]; intro x hx
  unfold lets at hx
  induction ys with
  | nil => simp at hx
  | cons y r ih =>
    simp only [List.takeWhile] at hx
    cases h : letter y with
    | false => simp [h] at hx
    | true =>
      simp only [h, List.mem_cons] at hx
      rcases hx with rfl | hx
      · exact h
      · exact ih hx
theorem rest_head {ys : List Nat} {y : Nat} {r : List Nat} (h : rest ys = y :: r) : letter y = false := by
  unfold rest at h
  induction ys with
  | nil => simp at h
  | cons x xs ih =>
    simp only [List.dropWhile] at h
    cases hx : letter x with
    | true => rw [hx] at h; exact ih h
    | false => rw [hx] at h; injection h with h _; rw [← h]; exact hx
theorem lets_app {t u : List Nat} (ht : t.all letter = true) (hu : ∀ y r, u = y :: r → letter y = false) : lets (t ++ u) = t ∧ rest (t ++ u) = u := by
  induction t with
  | nil =>
    cases u with
    | nil => simp [lets, rest]
    | cons y r => have := hu y r rfl; simp [lets, rest, this]
  | cons x t ih =>
    simp only [List.all_cons, Bool.and_eq_true] at ht
    have := ih ht.2
    simp only [lets, rest] at this
    simp [lets, rest, ht.1, this]
/-- Fields with addresses, as they are written, begin with 17. -/
theorem fbs_head {z : Nat} {fs : List F} (h : ∀ f ∈ fs, 0 ≤ f.a) : ∀ y r, fbs z fs = y :: r → letter y = false := by
  intro y r he
  cases fs with
  | nil => simp [fbs] at he
  | cons f fs =>
    have h0 := h f (by simp)
    simp only [fbs, fb, if_pos h0, List.cons_append] at he
    injection he with he _
    rw [← he]; exact letter_17
/-- Fields with addresses that are written are read as they were. -/
theorem flds_put (z : Nat) (hz : z ≤ 16383) (alone : Bool) : ∀ (fs : List F) (i f at_ : Nat), (∀ x ∈ fs, 0 ≤ x.a) → (fw z alone i fs).1 = 0 → (fbs z fs).length ≤ f → flds z f at_ (fbs z fs) = (fs, 0, at_ + (fbs z fs).length) := by
  intro fs
  induction fs with
  | nil => intro i f at_ _ _ _; cases f <;> simp [fbs, flds]
  | cons x fs ih =>
    intro i f at_ h0 h hf
    have hw : fwrong z alone x = 0 := by
      by_cases hw : fwrong z alone x = 0
      · exact hw
      · simp [fw, hw] at h
    simp only [fw, hw, ne_eq, not_true_eq_false, if_false] at h
    have hx := h0 x (by simp)
    have hs := fun y hy => h0 y (List.mem_cons_of_mem _ hy)
    have hne : (alone && x.a == -1) = false := by
      have : (x.a == -1) = false := by simp; omega
      simp [this]
    have hlt : x.a < (z : Int) := by
      by_cases hh : x.a < 0 ∨ (z : Int) ≤ x.a
      · simp [fwrong, hne, hh] at hw
      · omega
    have hall : x.t.all letter = true := by
      cases hh : x.t.all letter with
      | true => rfl
      | false => exfalso; unfold fwrong at hw; rw [if_neg (by omega), if_pos hh] at hw; cases hw
    simp only [fbs, fb, if_pos hx, List.cons_append, List.length_cons, List.length_append] at hf ⊢
    have hl := lets_app (u := fbs z fs) hall (fbs_head hs)
    cases f with
    | zero => omega
    | succ f =>
      have ha := aspec_put x.a.toNat z (x.t ++ fbs z fs) (by omega) hz
      have h2 := ih (i + 1) f (at_ + 3 + x.t.length) hs h (by omega)
      simp only [flds, ne_eq, not_true_eq_false, if_false, ha, List.drop_succ_cons, List.drop_zero, hl.1, hl.2, h2]
      obtain ⟨a, t⟩ := x
      have : ((a.toNat : Nat) : Int) = a := Int.toNat_of_nonneg hx
      simp [this]; omega
/-- Fields that are read are written as they stood, and have addresses. -/
theorem flds_written (z : Nat) (alone : Bool) : ∀ (f : Nat) (ys : List Nat) (i at_ : Nat), (∀ y ∈ ys, y < 256) → ys.length ≤ f → (flds z f at_ ys).2.1 = 0 →
    (fw z alone i (flds z f at_ ys).1).1 = 0 ∧ fbs z (flds z f at_ ys).1 = ys ∧ ∀ x ∈ (flds z f at_ ys).1, 0 ≤ x.a := by
  intro f
  induction f with
  | zero => intro ys i at_ _ hl _; have : ys = [] := List.eq_nil_of_length_eq_zero (by omega); subst this; simp [flds, fw, fbs]
  | succ f ih =>
    intro ys i at_ h8 hl h
    cases ys with
    | nil => simp [flds, fw, fbs]
    | cons y r =>
      by_cases h17 : y = 17
      · subst h17
        by_cases ha : (aspec r z).2.1 = 0
        · obtain ⟨a, r2, haz, hz, hr, hsp⟩ := put_aspec r z (fun x hx => h8 x (List.mem_cons_of_mem _ hx)) ha
          simp only [flds, ne_eq, not_true_eq_false, if_false, hsp] at h ⊢
          have hd : r.drop 2 = r2 := by rw [hr]; rfl
          rw [hd] at h ⊢
          by_cases h2 : (flds z f (at_ + 3 + (lets r2).length) (rest r2)).2.1 = 0
          · rw [if_neg (by rw [h2]; simp)]
            have hlr := lets_rest r2
            have hlen := congrArg List.length hlr
            simp only [List.length_append] at hlen
            have hrl := congrArg List.length hr
            simp only [List.length_cons] at hl hrl
            have hk := ih (rest r2) (i + 1) (at_ + 3 + (lets r2).length) (fun x hx => h8 x (by
              rw [hr, ← hlr]; simp [hx])) (by omega) h2
            have hfw : fwrong z alone ⟨(a : Int), lets r2⟩ = 0 := by
              have hna : ((a : Int) == -1) = false := by simp
              simp only [fwrong, hna, Bool.and_false, lets_all]
              rw [if_neg (by omega)]; simp
            refine ⟨?_, ?_, ?_⟩
            · simp only [fw, hfw, ne_eq, not_true_eq_false, if_false]
              exact hk.1
            · simp only [fbs, fb, if_pos (show (0 : Int) ≤ (a : Int) by omega), Int.toNat_natCast, hk.2.1, List.cons_append, hlr]
              rw [← hr]
            · intro x hx
              rcases List.mem_cons.mp hx with rfl | hx
              · simp
              · exact hk.2.2 x hx
          · rw [if_pos h2] at h; exact absurd h h2
        · simp [flds, ha] at h
      · simp [flds, h17] at h
/-- Each field is right: it is at a cell, or it is the one field at none. -/
theorem fw_pos {z : Nat} : ∀ (fs : List F) (i : Nat), (fw z false i fs).1 = 0 → ∀ x ∈ fs, 0 ≤ x.a := by
  intro fs
  induction fs with
  | nil => intro i _ x hx; cases hx
  | cons y fs ih =>
    intro i h x hx
    have hw : fwrong z false y = 0 := by
      by_cases hw : fwrong z false y = 0
      · exact hw
      · simp [fw, hw] at h
    simp only [fw, hw, ne_eq, not_true_eq_false, if_false] at h
    rcases List.mem_cons.mp hx with rfl | hx
    · by_cases hh : x.a < 0
      · simp [fwrong, hh] at hw
      · omega
    · exact ih (i + 1) h x hx
/-- The fields of a right submission: all at cells, or the one field of letters alone. -/
theorem fw_cases {z : Nat} {fs : List F} (h : (fw z (fs.length == 1) 0 fs).1 = 0) : (∀ x ∈ fs, 0 ≤ x.a) ∨ ∃ t, fs = [⟨-1, t⟩] ∧ t.all letter = true ∧ t ≠ [] := by
  by_cases h1 : fs.length = 1
  · match fs, h1 with
    | [x], _ =>
      obtain ⟨a, t⟩ := x
      by_cases ha : a = -1
      · subst ha
        right
        refine ⟨t, rfl, ?_⟩
        simp only [fw, fwrong, List.length_singleton, beq_self_eq_true, Bool.and_self] at h
        cases hh : t.all letter with
        | false => simp [hh] at h
        | true =>
          refine ⟨rfl, ?_⟩
          rintro rfl
          simp at h
      · left
        intro x hx
        simp only [List.mem_singleton] at hx
        subst hx
        have hna : (a == -1) = false := by simpa using ha
        by_cases hh : a < 0
        · simp [fw, fwrong, hna, hh] at h
        · show 0 ≤ a; omega
  · left
    have : (fs.length == 1) = false := by simpa using h1
    rw [this] at h
    exact fw_pos fs 0 h
/-- A submission that is written is read as it was. -/
theorem iread_write {c : I} {z : Nat} (hz : z ≤ 16383) (h : (iwrite c z).2.1 = 0) : iread (iwrite c z).1 z = (c, 0, -1) := by
  obtain ⟨k, cur, fs⟩ := c
  unfold iwrite at h ⊢
  by_cases hr : (iright ⟨k, cur, fs⟩ z).1 = 0
  · rw [if_neg (by rw [hr]; simp)] at h ⊢
    by_cases hl : 8192 < (ibytes ⟨k, cur, fs⟩ z).length
    · rw [if_pos hl] at h; cases h
    rw [if_neg hl]
    unfold iread
    rw [if_neg hl]
    unfold iright at hr
    unfold ibytes at hl ⊢
    simp only at hr hl ⊢
    cases ha : aid k with
    | false => simp [ha] at hr
    | true =>
      simp only [ha, Bool.true_eq_false, if_false] at hr
      cases hb : bare k with
      | true =>
        simp only [hb, if_true] at hr ⊢
        by_cases hn : cur ≠ 0 ∨ fs ≠ []
        · rw [if_pos hn] at hr; cases hr
        · have h1 : cur = 0 := by by_cases h1 : cur = 0; exact h1; exact absurd (.inl h1) hn
          have h2 : fs = [] := by by_cases h2 : fs = []; exact h2; exact absurd (.inr h2) hn
          subst h1 h2
          simp [ha]
      | false =>
        simp only [hb, Bool.false_eq_true, if_false] at hr hl ⊢
        by_cases hc : cur < 0 ∨ (z : Int) ≤ cur
        · rw [if_pos hc] at hr; cases hr
        · rw [if_neg hc] at hr
          by_cases hw : (fw z (fs.length == 1) 0 fs).1 = 0
          · have hp := aspec_put cur.toNat z (fbs z fs) (by omega) hz
            have hcc : ((cur.toNat : Nat) : Int) = cur := Int.toNat_of_nonneg (by omega)
            simp only [ha, Bool.true_eq_false, if_false, hp, ne_eq, not_true_eq_false, List.drop_succ_cons, List.drop_zero, hcc]
            rcases fw_cases hw with hpos | ⟨t, rfl, ht, hne⟩
            · have hl0 := lets_app (t := []) (u := fbs z fs) rfl (fbs_head hpos)
              simp only [List.nil_append] at hl0
              rw [if_neg (by rw [hl0.1]; simp)]
              have hf := flds_put z hz (fs.length == 1) fs 0 ((first cur.toNat z :: second cur.toNat z :: fbs z fs).length) 3 hpos hw (by simp only [List.length_cons]; omega)
              rw [if_neg (by rw [hf]; simp), hf]
            · have hl0 := lets_app (t := t) (u := []) ht (by intro y r h; cases h)
              simp only [List.append_nil] at hl0
              have e : fbs z [⟨-1, t⟩] = t := by simp [fbs, fb]
              rw [e, if_pos (by rw [hl0.1]; exact hne), if_neg (by rw [hl0.2]; simp)]
          · rw [if_pos hw] at hr; exact absurd hr hw
  · rw [if_pos hr] at h; exact absurd h hr
/-- A submission that is read is written as it stood, and is right. -/
theorem iwrite_read {ys : List Nat} {z : Nat} (h8 : ∀ y ∈ ys, y < 256) (h : (iread ys z).2.1 = 0) : iwrite (iread ys z).1 z = (ys, 0, -1) ∧ iright (iread ys z).1 z = (0, -1) := by
  unfold iread at h ⊢
  by_cases hl : 8192 < ys.length
  · rw [if_pos hl] at h; cases h
  rw [if_neg hl] at h ⊢
  cases ys with
  | nil => cases h
  | cons c r =>
    simp only at h ⊢
    cases ha : aid c with
    | false => simp [ha] at h
    | true =>
      simp only [ha, Bool.true_eq_false, if_false] at h ⊢
      cases hb : bare c with
      | true =>
        simp only [hb, if_true] at h ⊢
        by_cases hn : r = []
        · subst hn
          simp [iwrite, iright, ibytes, ha, hb]
        · simp [hn] at h
      | false =>
        simp only [hb, Bool.false_eq_true, if_false] at h ⊢
        by_cases hs : (aspec r z).2.1 = 0
        · obtain ⟨a, r2, haz, hz, hr, hsp⟩ := put_aspec r z (fun x hx => h8 x (List.mem_cons_of_mem _ hx)) hs
          have hd : r.drop 2 = r2 := by rw [hr]; rfl
          rw [if_neg (by rw [hs]; simp)] at h ⊢
          rw [hd] at h ⊢
          have hrl := congrArg List.length hr
          simp only [List.length_cons] at hrl hl
          have key : ∀ fs : List F, (fw z (fs.length == 1) 0 fs).1 = 0 → fbs z fs = r2 → iwrite ⟨c, ((aspec r z).1 : Int), fs⟩ z = (c :: r, 0, -1) ∧ iright ⟨c, ((aspec r z).1 : Int), fs⟩ z = (0, -1) := by
            intro fs h1 h2
            have hri : iright ⟨c, ((aspec r z).1 : Int), fs⟩ z = (0, -1) := by
              unfold iright
              simp only [ha, hb, Bool.true_eq_false, Bool.false_eq_true, if_false, hsp]
              rw [if_neg (by omega), if_neg (by rw [h1]; simp)]
            refine ⟨?_, hri⟩
            unfold iwrite
            rw [hri, if_neg (by simp)]
            have hib : ibytes ⟨c, ((aspec r z).1 : Int), fs⟩ z = c :: r := by
              unfold ibytes
              simp only [hb, Bool.false_eq_true, if_false, hsp, h2, Int.toNat_natCast]
              rw [← hr]
            rw [hib, if_neg (by simpa using hl)]
          by_cases h3 : lets r2 = []
          · rw [if_neg (by rw [h3]; simp)] at h ⊢
            by_cases h4 : (flds z r.length 3 r2).2.1 = 0
            · rw [if_neg (by rw [h4]; simp)]
              have hk := flds_written z ((flds z r.length 3 r2).1.length == 1) r.length r2 0 3 (fun x hx => h8 x (by rw [hr]; simp [hx])) (by omega) h4
              exact key _ hk.1 hk.2.1
            · rw [if_pos h4] at h; exact absurd h h4
          · rw [if_pos (by simpa using h3)] at h ⊢
            by_cases h5 : rest r2 = []
            · rw [if_neg (by rw [h5]; simp)]
              have hlr := lets_rest r2
              rw [h5, List.append_nil] at hlr
              have hall : r2.all letter = true := by rw [← hlr]; exact lets_all r2
              have hne : r2 ≠ [] := by rintro rfl; exact h3 (by simp [lets])
              refine key _ ?_ (by simp [fbs, fb])
              have hfw : fwrong z true ⟨-1, r2⟩ = 0 := by
                unfold fwrong
                rw [if_neg (by simp), if_neg (by rw [hall]; decide), if_neg (by simpa using hne)]
              simp [fw, hfw]
            · rw [if_pos (by simpa using h5)] at h; cases h
        · rw [if_pos hs] at h; exact absurd h hs
/-- Two submissions that can be written are one just if their bytes are. -/
theorem iwrite_inj {c d : I} {z : Nat} (hz : z ≤ 16383) (h : (iwrite c z).2.1 = 0) (h' : (iwrite d z).2.1 = 0) : (iwrite c z).1 = (iwrite d z).1 ↔ c = d := by
  constructor
  · intro e
    have h1 := iread_write hz h
    have h2 := iread_write hz h'
    rw [e, h2] at h1
    exact (congrArg Prod.fst h1).symm
  · rintro rfl; rfl
/-- How many bytes a field has. -/
def flen (f : F) : Nat := f.t.length + if 0 ≤ f.a then 3 else 0
def flens : List F → Nat
  | [] => 0
  | f :: fs => flen f + flens fs
theorem fbs_len (z : Nat) (fs : List F) : (fbs z fs).length = flens fs := by
  induction fs with
  | nil => rfl
  | cons f fs ih =>
    simp only [fbs, flens, List.length_append, ih, fb, flen]
    split <;> simp
theorem ibytes_len (c : I) (z : Nat) : (ibytes c z).length = if bare c.aid = true then 1 else 3 + flens c.fs := by
  unfold ibytes
  split
  · rfl
  · simp only [List.length_cons, fbs_len]; omega
end Inp
end Go.Proofs.YtpdlpmbjhopnnaaGreatDoor
/- Plain: more of submissions: when two are the same; what is read is sound; where reading fails. -/
namespace Go.Proofs.YtpdlpmbjhopnnaaGreatDoor
open Six
namespace Inp
open Att Adr
/-- Are two fields the same? -/
def fsame (x y : F) : Bool := x.a == y.a && x.t == y.t
def fsames : List F → List F → Bool
  | [], [] => true
  | x :: xs, y :: ys => fsame x y && fsames xs ys
  | _, _ => false
/-- Are two submissions the same? -/
def isame (x y : I) : Bool := (x.aid == y.aid) && ((x.cur == y.cur) && fsames x.fs y.fs)
theorem fsame_iff (x y : F) : fsame x y = true ↔ x = y := by
  obtain ⟨a, t⟩ := x
  obtain ⟨b, u⟩ := y
  simp [fsame]
theorem fsames_iff : ∀ (xs ys : List F), fsames xs ys = true ↔ xs = ys
  | [], [] => by simp [fsames]
  | [], y :: ys => by simp [fsames]
  | x :: xs, [] => by simp [fsames]
  | x :: xs, y :: ys => by simp [fsames, fsame_iff, fsames_iff xs ys]
theorem isame_iff (x y : I) : isame x y = true ↔ x = y := by
  obtain ⟨a, b, c⟩ := x
  obtain ⟨d, e, f⟩ := y
  simp [isame, fsames_iff]
theorem isame_self (x : I) : isame x x = true := (isame_iff x x).mpr rfl
theorem isame_ne {x y : I} (h : x ≠ y) : isame x y = false := by
  cases hh : isame x y with
  | false => rfl
  | true => exact absurd ((isame_iff x y).mp hh) h
/-- Fields of unlike many, or with one that differs, aren't the same. -/
theorem fsames_len {xs ys : List F} (h : xs.length ≠ ys.length) : fsames xs ys = false := by
  cases hh : fsames xs ys with
  | false => rfl
  | true => exact absurd (congrArg List.length ((fsames_iff xs ys).mp hh)) h
theorem fsames_at {xs ys : List F} {i : Nat} (h : fsame (xs.getD i noneF) (ys.getD i noneF) = false) : fsames xs ys = false := by
  cases hh : fsames xs ys with
  | false => rfl
  | true =>
    rw [(fsames_iff xs ys).mp hh, (fsame_iff _ _).mpr rfl] at h
    exact h
theorem getD_ext {xs ys : List F} (hl : xs.length = ys.length) (h : ∀ i, i < xs.length → xs.getD i noneF = ys.getD i noneF) : xs = ys := by
  apply List.ext_getElem hl
  intro i h1 h2
  have := h i h1
  rwa [List.getD_eq_getElem?_getD, List.getD_eq_getElem?_getD, List.getElem?_eq_getElem h1, List.getElem?_eq_getElem h2] at this
/-- How many fields bytes are: no more than bytes; all of a field's letters are bytes that were read. -/
theorem flds_sound (z : Nat) : ∀ (f : Nat) (ys : List Nat) (at_ : Nat), (∀ y ∈ ys, y < 256) → (flds z f at_ ys).1.length ≤ ys.length ∧ ∀ x ∈ (flds z f at_ ys).1, 0 ≤ x.a ∧ x.t.length ≤ ys.length ∧ ∀ b ∈ x.t, b < 256 := by
  intro f
  induction f with
  | zero => intro ys at_ _; simp [flds]
  | succ f ih =>
    intro ys at_ h8
    cases ys with
    | nil => simp [flds]
    | cons y r =>
      simp only [flds]
      have hlr := lets_rest (r.drop 2)
      have hlen := congrArg List.length hlr
      simp only [List.length_append, List.length_drop] at hlen
      have hmem : ∀ x, x ∈ lets (r.drop 2) ∨ x ∈ rest (r.drop 2) → x < 256 := fun x hx => h8 x (List.mem_cons_of_mem _ (List.mem_of_mem_drop (by rw [← hlr]; simpa using hx)))
      have hk := ih (rest (r.drop 2)) (at_ + 3 + (lets (r.drop 2)).length) (fun x hx => hmem x (.inr hx))
      split
      · simp
      · split
        · simp
        · split
          · simp
          · refine ⟨by simp only [List.length_cons]; omega, fun x hx => ?_⟩
            rcases List.mem_cons.mp hx with rfl | hx
            · exact ⟨by simp only; omega, by simp only [List.length_cons]; omega, fun b hb => hmem b (.inl hb)⟩
            · obtain ⟨h1, h2, h3⟩ := hk.2 x hx
              exact ⟨h1, by simp only [List.length_cons]; omega, h3⟩
/-- Where reading fields fails. -/
theorem flds_where (z : Nat) : ∀ (f : Nat) (ys : List Nat) (at_ : Nat), (∀ y ∈ ys, y < 256) → at_ ≤ (flds z f at_ ys).2.2 ∧ (flds z f at_ ys).2.2 ≤ at_ + ys.length := by
  intro f
  induction f with
  | zero => intro ys at_ _; simp [flds]
  | succ f ih =>
    intro ys at_ h8
    cases ys with
    | nil => simp [flds]
    | cons y r =>
      simp only [flds]
      have hlr := lets_rest (r.drop 2)
      have hlen := congrArg List.length hlr
      simp only [List.length_append, List.length_drop] at hlen
      have hk := ih (rest (r.drop 2)) (at_ + 3 + (lets (r.drop 2)).length) (fun x hx => h8 x (List.mem_cons_of_mem _ (List.mem_of_mem_drop (by rw [← hlr]; simp [hx]))))
      split
      · simp
      · split
        · simp only [List.length_cons]; omega
        · rename_i ha
          have ha : (aspec r z).2.1 = 0 := by
            by_cases h0 : (aspec r z).2.1 = 0
            · exact h0
            · exact absurd h0 ha
          obtain ⟨a, r2, _, _, hr, _⟩ := put_aspec r z (fun x hx => h8 x (List.mem_cons_of_mem _ hx)) ha
          have hrl := congrArg List.length hr
          simp only [List.length_cons] at hrl ⊢
          split
          · simp only; omega
          · simp only; omega
/-- What reading answers where it fails. -/
theorem iread_fail {ys : List Nat} {z : Nat} (h8 : ∀ y ∈ ys, y < 256) (h : (iread ys z).2.1 ≠ 0) : (iread ys z).1 = noneI ∧ 0 ≤ (iread ys z).2.2 ∧ (iread ys z).2.2 ≤ (ys.length : Int) := by
  unfold iread at h ⊢
  by_cases hl : 8192 < ys.length
  · rw [if_pos hl]; simp; omega
  rw [if_neg hl] at h ⊢
  cases ys with
  | nil => simp
  | cons c r =>
    simp only at h ⊢
    by_cases ha : aid c = false
    · rw [if_pos ha]; simp; omega
    rw [if_neg ha] at h ⊢
    by_cases hb : bare c = true
    · rw [if_pos hb] at h ⊢
      by_cases hr : r ≠ []
      · rw [if_pos hr]; simp; omega
      · rw [if_neg hr] at h; exact absurd rfl h
    rw [if_neg hb] at h ⊢
    by_cases hs : (aspec r z).2.1 ≠ 0
    · rw [if_pos hs]; simp; omega
    rw [if_neg hs] at h ⊢
    have hs0 : (aspec r z).2.1 = 0 := by
      by_cases h0 : (aspec r z).2.1 = 0
      · exact h0
      · exact absurd h0 hs
    obtain ⟨a, r2, _, _, hr, _⟩ := put_aspec r z (fun x hx => h8 x (List.mem_cons_of_mem _ hx)) hs0
    have hd : r.drop 2 = r2 := by rw [hr]; rfl
    rw [hd] at h ⊢
    have hrl := congrArg List.length hr
    have hlr := congrArg List.length (lets_rest r2)
    simp only [List.length_cons, List.length_append] at hrl hlr ⊢
    by_cases h3 : lets r2 ≠ []
    · rw [if_pos h3] at h ⊢
      by_cases h5 : rest r2 ≠ []
      · rw [if_pos h5]
        refine ⟨rfl, ?_, ?_⟩ <;> simp only <;> omega
      · rw [if_neg h5] at h; exact absurd rfl h
    · rw [if_neg h3] at h ⊢
      by_cases h4 : (flds z r.length 3 r2).2.1 ≠ 0
      · rw [if_pos h4]
        have hw := flds_where z r.length r2 3 (fun x hx => h8 x (by rw [hr]; simp [hx]))
        refine ⟨rfl, ?_, ?_⟩ <;> simp only <;> omega
      · rw [if_neg h4] at h; exact absurd rfl h
/-- What is read is sound. -/
theorem iread_sound {ys : List Nat} {z : Nat} (h8 : ∀ y ∈ ys, y < 256) : (iread ys z).1.aid < 256 ∧ (iread ys z).1.fs.length ≤ ys.length + 1 ∧ ∀ x ∈ (iread ys z).1.fs, -1 ≤ x.a ∧ x.t.length ≤ ys.length ∧ ∀ b ∈ x.t, b < 256 := by
  by_cases h : (iread ys z).2.1 = 0
  · unfold iread at h ⊢
    by_cases hl : 8192 < ys.length
    · rw [if_pos hl] at h; cases h
    rw [if_neg hl] at h ⊢
    cases ys with
    | nil => cases h
    | cons c r =>
      have hc := h8 c (by simp)
      simp only at h ⊢
      by_cases ha : aid c = false
      · rw [if_pos ha] at h; cases h
      rw [if_neg ha] at h ⊢
      by_cases hb : bare c = true
      · rw [if_pos hb] at h ⊢
        by_cases hr : r ≠ []
        · rw [if_pos hr] at h; cases h
        · rw [if_neg hr]; exact ⟨hc, by simp, by simp⟩
      rw [if_neg hb] at h ⊢
      by_cases hs : (aspec r z).2.1 ≠ 0
      · rw [if_pos hs] at h; exact absurd h hs
      rw [if_neg hs] at h ⊢
      by_cases h3 : lets (r.drop 2) ≠ []
      · rw [if_pos h3] at h ⊢
        by_cases h5 : rest (r.drop 2) ≠ []
        · rw [if_pos h5] at h; cases h
        · rw [if_neg h5]
          refine ⟨hc, by simp, fun x hx => ?_⟩
          simp only [List.mem_singleton] at hx
          subst hx
          refine ⟨by simp, by simp only [List.length_drop, List.length_cons]; omega, fun b hb => h8 b (List.mem_cons_of_mem _ (List.mem_of_mem_drop hb))⟩
      · rw [if_neg h3] at h ⊢
        by_cases h4 : (flds z r.length 3 (r.drop 2)).2.1 ≠ 0
        · rw [if_pos h4] at h; exact absurd h h4
        · rw [if_neg h4]
          have hk := flds_sound z r.length (r.drop 2) 3 (fun x hx => h8 x (List.mem_cons_of_mem _ (List.mem_of_mem_drop hx)))
          simp only [List.length_drop, List.length_cons] at hk ⊢
          refine ⟨hc, by omega, fun x hx => ?_⟩
          obtain ⟨h1, h2, h3⟩ := hk.2 x hx
          exact ⟨by omega, by omega, h3⟩
  · rw [(iread_fail h8 h).1]
    simp [noneI]
end Inp
end Go.Proofs.YtpdlpmbjhopnnaaGreatDoor
/- Slices of fields in memory: each field is two cells; its text is a row of its own. -/
namespace Go.Proofs.YtpdlpmbjhopnnaaGreatDoor
open Go.RowKit Sha Six
namespace Inp
open Cut
/-- The cells of an field whose text is the value tv. -/
def fcells (o : F) (tv : Value) : List Value := [.int .i64 o.a, tv]
/-- An field lies in block b from cell off on; its text lies at block base or behind. -/
def FldAt (w : World) (base b off : Nat) (o : F) : Prop :=
  ∃ ta tn tc, (∀ j u, (fcells o (.slice ta tn tc))[j]? = some u → w.cell? ⟨b, off + j, none⟩ = some u) ∧ BytesIn w (.slice ta tn tc) o.t ∧ (ta = none → tn = 0 ∧ tc = 0) ∧ ∀ x, ta = some x → base ≤ x.block
/-- v is a slice of the fields os, all of it at block base or behind. -/
def FldsIn (w : World) (base : Nat) (v : Value) (os : List F) : Prop :=
  ∃ ad cap, v = .slice ad os.length cap ∧ os.length ≤ cap ∧ (ad = none → os.length = 0 ∧ cap = 0) ∧
    (os = [] ∨ ∃ b off, ad = some ⟨b, off, none⟩ ∧ base ≤ b ∧ ∀ i, i < os.length → FldAt w base b (off + i * 2) (os.getD i noneF))
/-- Orders whose bytes are bytes, and whose texts are no longer than may be. -/
def Sound (os : List F) : Prop := ∀ o ∈ os, (∀ x ∈ o.t, x < 256) ∧ o.t.length < 1000000
theorem cell_lt {w : World} {b o : Nat} {v : Value} (h : w.cell? ⟨b, o, none⟩ = some v) : b < w.heap.size := by
  rcases Nat.lt_or_ge b w.heap.size with h0 | h0
  · exact h0
  · simp [World.cell?, Array.getElem?_eq_none h0] at h
theorem bytes_keep {w w' : World} {base n c : Nat} {ad : Option Addr} {xs : List Nat} (h : BytesIn w (.slice ad n c) xs) (hb : ∀ x, ad = some x → base ≤ x.block)
    (hk : ∀ b o v, base ≤ b → w.cell? ⟨b, o, none⟩ = some v → w'.cell? ⟨b, o, none⟩ = some v) : BytesIn w' (.slice ad n c) xs := by
  obtain ⟨ad2, cap, hv, hcap, hc⟩ := h
  injection hv with h1 h2 h3
  subst h1 h2 h3
  refine ⟨_, _, rfl, hcap, ?_⟩
  rcases hc with h0 | ⟨g, off, rfl, hc⟩
  · exact .inl h0
  · exact .inr ⟨g, off, rfl, fun j hj => hk _ _ _ (hb _ rfl) (hc j hj)⟩
theorem FldAt.keep {w w' : World} {base b off : Nat} {o : F} (h : FldAt w base b off o) (hbb : base ≤ b) (hk : ∀ b o v, base ≤ b → w.cell? ⟨b, o, none⟩ = some v → w'.cell? ⟨b, o, none⟩ = some v) : FldAt w' base b off o := by
  obtain ⟨ta, tn, tc, h1, h2, h3, h4⟩ := h
  exact ⟨ta, tn, tc, fun j u hu => hk _ _ _ hbb (h1 j u hu), bytes_keep h2 h4 hk, h3, h4⟩
theorem FldsIn.keep {w w' : World} {base : Nat} {v : Value} {os : List F} (h : FldsIn w base v os) (hk : ∀ b o v, base ≤ b → w.cell? ⟨b, o, none⟩ = some v → w'.cell? ⟨b, o, none⟩ = some v) : FldsIn w' base v os := by
  obtain ⟨ad, cap, rfl, hcap, hn, hc⟩ := h
  refine ⟨ad, cap, rfl, hcap, hn, ?_⟩
  rcases hc with h0 | ⟨b, off, h1, h2, h3⟩
  · exact .inl h0
  · exact .inr ⟨b, off, h1, h2, fun i hi => (h3 i hi).keep h2 hk⟩
theorem FldsIn.below {w w' : World} {base : Nat} {v : Value} {os : List F} (h : FldsIn w base v os) (hb : Below w.heap.size w w') : FldsIn w' base v os :=
  h.keep fun b o _ _ hu => (hb.cell (p := ⟨b, o, none⟩) (cell_lt hu)).trans hu
/-- What lies at base or behind stays where a block ahead of base changes. -/
theorem FldsIn.grown {w w' : World} {base g : Nat} {v : Value} {os : List F} (h : FldsIn w base v os) (hg : w.grownBy w' (some g)) (hgb : g < base) : FldsIn w' base v os :=
  h.keep fun b o u hb hu => hg.cell (a := ⟨b, o, none⟩) hu (by intro e; injection e with e; simp only at e; omega)
theorem FldAt.mono {w : World} {base base' b off : Nat} {o : F} (h : FldAt w base b off o) (hb : base' ≤ base) : FldAt w base' b off o := by
  obtain ⟨ta, tn, tc, h1, h2, h3, h4⟩ := h
  exact ⟨ta, tn, tc, h1, h2, h3, fun x hx => Nat.le_trans hb (h4 x hx)⟩
theorem FldsIn.mono {w : World} {base base' : Nat} {v : Value} {os : List F} (h : FldsIn w base v os) (hb : base' ≤ base) : FldsIn w base' v os := by
  obtain ⟨ad, cap, rfl, hcap, hn, hc⟩ := h
  refine ⟨ad, cap, rfl, hcap, hn, ?_⟩
  rcases hc with h0 | ⟨b, off, h1, h2, h3⟩
  · exact .inl h0
  · exact .inr ⟨b, off, h1, Nat.le_trans hb h2, fun i hi => (h3 i hi).mono hb⟩
theorem fldsIn_nil (w : World) (base : Nat) : FldsIn w base (.slice none 0 0) [] := ⟨none, 0, rfl, Nat.le_refl _, fun _ => ⟨rfl, rfl⟩, .inl rfl⟩
theorem fldsIn_zero {w : World} {base : Nat} {ad : Option Addr} {cap : Nat} (h : ad = none → cap = 0) : FldsIn w base (.slice ad 0 cap) [] := ⟨ad, cap, rfl, Nat.zero_le _, fun h0 => ⟨rfl, h h0⟩, .inl rfl⟩
/-- The value's form. -/
theorem FldsIn.form {w : World} {base : Nat} {v : Value} {os : List F} (h : FldsIn w base v os) : ∃ ad cap, v = .slice ad os.length cap ∧ os.length ≤ cap ∧ (ad = none → os.length = 0 ∧ cap = 0) := by
  obtain ⟨ad, cap, rfl, hcap, hn, _⟩ := h
  exact ⟨ad, cap, rfl, hcap, hn⟩
/-- Field i: where its cells lie, and its text. -/
theorem FldsIn.at {w : World} {base n c : Nat} {ad : Option Addr} {os : List F} (h : FldsIn w base (.slice ad n c) os) {i : Nat} (hi : i < os.length) :
    ∃ b off ta tn tc, ad = some ⟨b, off, none⟩ ∧ (∀ j u, (fcells (os.getD i noneF) (.slice ta tn tc))[j]? = some u → w.cell? ⟨b, off + i * 2 + j, none⟩ = some u) ∧ BytesIn w (.slice ta tn tc) (os.getD i noneF).t ∧ (ta = none → tn = 0 ∧ tc = 0) := by
  obtain ⟨ad2, cap, hv, _, _, hc⟩ := h
  injection hv with h1 h2 h3
  subst h1 h2 h3
  rcases hc with h0 | ⟨b, off, h1, h2, h3⟩
  · rw [h0] at hi; cases hi
  · obtain ⟨ta, tn, tc, h4, h5, h6, _⟩ := h3 i hi
    exact ⟨b, off, ta, tn, tc, h1, h4, h5, h6⟩
theorem sound_at {os : List F} (h : Sound os) (i : Nat) : (∀ x ∈ (os.getD i noneF).t, x < 256) ∧ (os.getD i noneF).t.length < 1000000 := by
  rcases Nat.lt_or_ge i os.length with hi | hi
  · rw [List.getD_eq_getElem?_getD, List.getElem?_eq_getElem hi]; exact h _ (List.getElem_mem hi)
  · rw [List.getD_eq_getElem?_getD, List.getElem?_eq_none hi]; simp [noneF]
/-- A row of the call's own whose cells are fields: the fields, one more. -/
theorem fldsIn_own {w : World} {base : Nat} {ad : Option Addr} {cap n : Nat} {t : TypeId} {us : List Value} {os : List F} (h : w.ownsRow base t 2 (.slice ad n cap) n us) (hn : n = os.length) (hcap : n ≤ cap)
    (hu : ∀ i, i < os.length → ∃ ta tn tc, (∀ j u, (fcells (os.getD i noneF) (.slice ta tn tc))[j]? = some u → us[i * 2 + j]? = some u) ∧ BytesIn w (.slice ta tn tc) (os.getD i noneF).t ∧ (ta = none → tn = 0 ∧ tc = 0) ∧ ∀ x, ta = some x → base ≤ x.block) : FldsIn w base (.slice ad n cap) os := by
  subst hn
  obtain ⟨hlen, hv⟩ := h
  rcases hv with ⟨hv, h0⟩ | ⟨g, cap2, cur, hv, hg, hcur, h1, h2, h3, h4⟩
  · injection hv with e1 e2 e3
    have : os = [] := List.eq_nil_of_length_eq_zero h0
    subst this; subst e1; subst e3
    exact fldsIn_nil _ _
  · injection hv with e1 e2 e3
    subst e1; subst e3
    refine ⟨_, _, rfl, h1, nofun, .inr ⟨g, 0, rfl, hg, fun i hi => ?_⟩⟩
    obtain ⟨ta, tn, tc, k1, k2, k3, k4⟩ := hu i hi
    refine ⟨ta, tn, tc, fun j u hj => ?_, k2, k3, k4⟩
    have hj8 : j < 2 := by
      rcases Nat.lt_or_ge j 2 with h' | h'
      · exact h'
      · rw [List.getElem?_eq_none (by simp [fcells]; omega)] at hj; cases hj
    have k5 := k1 j u hj
    rw [← h4] at k5
    rw [List.getElem?_take_of_lt (by omega)] at k5
    rw [cell_of_row w g (0 + i * 2 + j) cur t (0, 0) hcur, Nat.zero_add, ← Array.getElem?_toList]
    exact k5
theorem FldsIn.len {w : World} {base n c : Nat} {ad : Option Addr} {os : List F} (h : FldsIn w base (.slice ad n c) os) : n = os.length := by
  obtain ⟨_, _, e, _⟩ := h.form
  injection e
/-- Field i, cell by cell, as the walk spells it. -/
theorem FldsIn.cells {w : World} {base n c : Nat} {ad : Option Addr} {os : List F} (h : FldsIn w base (.slice ad n c) os) {i : Nat} (hi : i < os.length) {a : Int} {t : List Nat} (ho : os.getD i noneF = ⟨a, t⟩) :
    ∃ b off ta tn tc, ad = some ⟨b, off, none⟩ ∧ w.cell? ⟨b, off + i * 2, none⟩ = some (.int .i64 a) ∧ w.cell? ⟨b, off + i * 2 + 1, none⟩ = some (.slice ta tn tc) ∧ BytesIn w (.slice ta tn tc) t ∧ (ta = none → tn = 0 ∧ tc = 0) := by
  obtain ⟨b, off, ta, tn, tc, h1, h2, h3, h4⟩ := h.at hi
  rw [ho] at h2 h3
  exact ⟨b, off, ta, tn, tc, h1, h2 0 _ rfl, h2 1 _ rfl, h3, h4⟩
theorem al2 (w : World) (x y : Obj) : Below w.heap.size w ((w.alloc x).alloc y) := ((Below.refl _ _).alloc (Nat.le_refl _) _).alloc (by simp) _
/-- A field by its parts. -/
theorem f_eta (o : F) : ∃ a t, o = ⟨a, t⟩ := ⟨_, _, rfl⟩
end Inp
end Go.Proofs.YtpdlpmbjhopnnaaGreatDoor
/- A slice of fields of the call's own, made by appends: each text is a row of its own, too. -/
namespace Go.Proofs.YtpdlpmbjhopnnaaGreatDoor
open Go.RowKit Sha Six Apd
namespace Inp
open Cut
/-- v is a row of the call's own, of the fields os; their texts are rows of its own. -/
def OwnFlds (w : World) (base : Nat) (v : Value) (os : List F) : Prop :=
  ∃ us, w.ownsRow base 67 2 v os.length us ∧ (os = [] → v = .slice none 0 0) ∧ ∀ i, i < os.length → ∃ ta tn tc, (∀ j u, (fcells (os.getD i noneF) (.slice ta tn tc))[j]? = some u → us[i * 2 + j]? = some u) ∧ w.ownsRow base 5 1 (.slice ta tn tc) tn (u8s (os.getD i noneF).t)
theorem ownFlds_nil (w : World) (base : Nat) : OwnFlds w base (.slice none 0 0) [] := ⟨[], World.ownsRow_nil _ _ _ _, fun _ => rfl, nofun⟩
theorem OwnFlds.other {w w' : World} {base C : Nat} {v : Value} {os : List F} (h : OwnFlds w base v os) (hg : w.grownBy w' (some C)) (hC : C < base) : OwnFlds w' base v os := by
  obtain ⟨us, h1, h0, h2⟩ := h
  refine ⟨us, own_other h1 hg hC, h0, fun i hi => ?_⟩
  obtain ⟨ta, tn, tc, k1, k2⟩ := h2 i hi
  exact ⟨ta, tn, tc, k1, own_other k2 hg hC⟩
theorem OwnFlds.below {w w' : World} {base : Nat} {v : Value} {os : List F} (h : OwnFlds w base v os) (hb : Below w.heap.size w w') : OwnFlds w' base v os := by
  obtain ⟨us, h1, h0, h2⟩ := h
  refine ⟨us, own_below h1 hb, h0, fun i hi => ?_⟩
  obtain ⟨ta, tn, tc, k1, k2⟩ := h2 i hi
  exact ⟨ta, tn, tc, k1, own_below k2 hb⟩
theorem OwnFlds.form {w : World} {base : Nat} {v : Value} {os : List F} (h : OwnFlds w base v os) : ∃ ad c, v = .slice ad os.length c := by
  obtain ⟨us, h1, _⟩ := h
  exact own_form h1
theorem OwnFlds.to {w : World} {base : Nat} {v : Value} {os : List F} (h : OwnFlds w base v os) : FldsIn w base v os := by
  obtain ⟨ad, c, rfl⟩ := h.form
  obtain ⟨us, h1, _, h2⟩ := h
  have hcap : os.length ≤ c := by
    rcases h1.2 with ⟨hv, h0⟩ | ⟨g, cap2, cur, hv, _, _, h4, _⟩
    · injection hv with _ _ e3; omega
    · injection hv with _ _ e3; omega
  refine fldsIn_own h1 rfl hcap fun i hi => ?_
  obtain ⟨ta, tn, tc, k1, k2⟩ := h2 i hi
  exact ⟨ta, tn, tc, k1, own_bytes k2, own_nil k2, fun x hx => (own_blocks k2 x hx).1⟩
/-- Rows of unlike elements lie in blocks of their own. -/
theorem row_apart {w : World} {b1 b2 s1 s2 n1 n2 n c : Nat} {v : Value} {t1 t2 : TypeId} {us xs : List Value} {ad : Option Addr} (h1 : w.ownsRow b1 t1 s1 v n1 us) (h2 : w.ownsRow b2 t2 s2 (.slice ad n c) n2 xs) (ht : t1 ≠ t2) : ∀ a, ad = some a → ∀ g, v.ownBlock = some g → a.block ≠ g := by
  intro a ha g hg e
  rcases h1.2 with ⟨rfl, _⟩ | ⟨g1, c1, cur1, rfl, _, k1, _⟩
  · cases hg
  · injection hg with hg
    rcases h2.2 with ⟨hv, _⟩ | ⟨g2, c2, cur2, hv, _, k2, _⟩
    · injection hv with e1; rw [ha] at e1; cases e1
    · injection hv with e1
      rw [ha] at e1; injection e1 with e1
      subst e1
      simp only at e hg
      subst hg; subst e
      rw [k1] at k2
      injection k2 with k2
      injection k2 with _ k3
      exact ht k3
theorem own_keeps {w w' : World} {base n c m : Nat} {v : Value} {us : List Value} {ad : Option Addr} {xs : List Value} (h1 : w.ownsRow base 67 2 v m us) (h2 : w.ownsRow base 5 1 (.slice ad n c) n xs) (hg : w.grownBy w' v.ownBlock) : w'.ownsRow base 5 1 (.slice ad n c) n xs := by
  cases hv : v.ownBlock with
  | none =>
    rw [hv] at hg
    exact own_below h2 (belowg hg)
  | some g =>
    rw [hv] at hg
    exact own_apart h2 hg (fun a ha => row_apart h1 h2 (by decide) a ha g hv)
theorem infoF : (Tryz.prog.info? 67).map (fun i => (i.zero, i.size, i.bytes)) = some (some (.agg #[.int .i64 0, .slice none 0 0]), 2, 32) := by kernel_rfl
theorem fcells_one (o : F) (ta : Option Addr) (tn tc : Nat) : ∀ u ∈ fcells o (.slice ta tn tc), u.oneCell' = true := by
  intro u hu
  simp only [fcells, List.mem_cons, List.not_mem_nil, or_false] at hu
  rcases hu with rfl | rfl <;> rfl
/-- append of one field whose cells lie in block L. -/
theorem append_fld {ops : Array Oper} {rest : List Oper} {o : Oper} {a : Act} {Q : Exit → Act → World → Prop} {w : World} (hgd : o.guard = none) (s x : Operand)
    (ho : o.op = .call { callee := .builtin .append, args := #[s, x], argTypes := #[44, 44] }) (base : Nat) (v : Value) (os : List F) (hs : a.eval s = v) (hown : OwnFlds w base v os)
    (L : Nat) (q : F) (ta : Option Addr) (tn tc : Nat) (hx : a.eval x = .slice (some ⟨L, 0, none⟩) 1 1) (hL : w.heap[L]? = some (.cells (fcells q (.slice ta tn tc)).toArray 67 (0, 0))) (ht : w.ownsRow base 5 1 (.slice ta tn tc) tn (u8s q.t))
    (hn : os.length < 1000000000) (hbase : base ≤ w.heap.size)
    (h : ∀ v' w', OwnFlds w' base v' (os ++ [q]) → w.grownBy w' v.ownBlock → wpList Tryz.prog ops Q rest (a.put o.dst v') w') : wpList Tryz.prog ops Q (o :: rest) a w := by
  obtain ⟨us, h1, _, h2⟩ := hown
  obtain ⟨i0, hi, hz0, hz1, hz2⟩ := info_parts infoF
  refine wpList_append_own _ hgd s x 44 ho base 67 i0 _ 2 32 Tryz.underlying44 hi hz0 hz1 hz2 rfl (by decide) v os.length us hs h1 ⟨L, 0, none⟩ 1 1 (fcells q (.slice ta tn tc)) hx rfl (fun j u hj => ?_) (fcells_one _ _ _ _) (by unfold maxLen; omega) (by omega) hbase fun v' w' k1 k2 _ => h v' w' ⟨_, by rw [List.length_append]; exact k1, fun h0 => by simp at h0, fun i hi => ?_⟩ k2
  · rw [Addr.add_mid, Nat.zero_add, cell_of_row w L j _ _ (0, 0) hL, List.getElem?_toArray]; exact hj
  · have hlen : us.length = os.length * 2 := h1.1
    by_cases hio : i < os.length
    · obtain ⟨ta1, tn1, tc1, k3, k4⟩ := h2 i hio
      have e : (os ++ [q]).getD i noneF = os.getD i noneF := by simp [List.getD_eq_getElem?_getD, List.getElem?_append_left hio]
      rw [e]
      refine ⟨ta1, tn1, tc1, fun j u hj => ?_, own_keeps h1 k4 k2⟩
      have hj8 : j < 2 := by
        rcases Nat.lt_or_ge j 2 with h' | h'
        · exact h'
        · rw [List.getElem?_eq_none (by simp [fcells]; omega)] at hj; cases hj
      rw [List.getElem?_append_left (by omega)]
      exact k3 j u hj
    · rw [List.length_append] at hi
      simp only [List.length_cons, List.length_nil] at hi
      obtain rfl : i = os.length := by omega
      have e : (os ++ [q]).getD os.length noneF = q := by simp
      rw [e]
      refine ⟨ta, tn, tc, fun j u hj => ?_, own_keeps h1 ht k2⟩
      rw [List.getElem?_append_right (by omega), hlen, Nat.add_sub_cancel_left]
      exact hj
end Inp
end Go.Proofs.YtpdlpmbjhopnnaaGreatDoor
/- Appends to rows of the call's own at a step of a region that draws its order: bytes (none of them, too), and one field. -/
namespace Go.Proofs.YtpdlpmbjhopnnaaGreatDoor
open Go.RowKit Sha Six Apd
namespace Inp
open Cut
theorem step_app8 {ops : Array Oper} {o : Oper} {a : Act} {w : World} {K : Act → World → Prop} {Q : Exit → Act → World → Prop} {E : Prop} (hgd : o.guard = none) (s x : Operand)
    (ho : o.op = .call { callee := .builtin .append, args := #[s, x], argTypes := #[27, 27] }) (base : Nat) (n : Nat) (us : List Value) (v : Value) (hs : a.eval s = v) (hown : w.ownsRow base 5 1 v n us)
    (ad : Addr) (m c : Nat) (news : List Nat) (hx : a.eval x = .slice (some ad) m c) (hl : news.length = m) (hnews : BytesIn w (.slice (some ad) m c) news) (h63 : n + m < 1000000) (hbase : base ≤ w.heap.size)
    (h : ∀ v' w', w'.ownsRow base 5 1 v' (n + m) (us ++ u8s news) → w.grownBy w' v.ownBlock → K (a.put o.dst v') w') :
    if Region.wanted o (yielded ops a.tmps) = true then Oper.wp Tryz.prog o a w K Q else E := by
  obtain ⟨i0, hi, hz0, hz1, hz2⟩ := info_parts info8
  have hw : Region.wanted o (yielded ops a.tmps) = true := by simp [Region.wanted, hgd]
  rw [if_pos hw]
  obtain ⟨v', w', hr, h2, h3, _, _⟩ := run_append_own_at (P := Tryz.prog) w base 27 o.type 5 i0 (.int .u8 0) 1 1 Tryz.underlying27 hi hz0 hz1 hz2 rfl (by decide) v n us hown ad m c (u8s news) (by rw [u8s_length, hl, Nat.mul_one]) (bytes_src hnews ad rfl) (u8s_one _) (by unfold maxLen; omega) (by omega) hbase
  unfold Oper.wp execOp
  simp only [ho, resolve, invoke, builtin, Sem.run_bind, Sem.run_pure, Result.andThen_ok, List.map_toArray, List.map_cons, List.map_nil, hs, hx, hr]
  exact h v' w' h2 h3
/-- append of one field whose cells lie in block L. -/
theorem step_fld {ops : Array Oper} {o : Oper} {a : Act} {w : World} {K : Act → World → Prop} {Q : Exit → Act → World → Prop} {E : Prop} (hgd : o.guard = none) (s x : Operand)
    (ho : o.op = .call { callee := .builtin .append, args := #[s, x], argTypes := #[44, 44] }) (base : Nat) (v : Value) (os : List F) (hs : a.eval s = v) (hown : OwnFlds w base v os)
    (L : Nat) (q : F) (ta : Option Addr) (tn tc : Nat) (hx : a.eval x = .slice (some ⟨L, 0, none⟩) 1 1) (hL : w.heap[L]? = some (.cells (fcells q (.slice ta tn tc)).toArray 67 (0, 0))) (ht : w.ownsRow base 5 1 (.slice ta tn tc) tn (u8s q.t))
    (hn : os.length < 1000000000) (hbase : base ≤ w.heap.size)
    (h : ∀ v' w', OwnFlds w' base v' (os ++ [q]) → w.grownBy w' v.ownBlock → K (a.put o.dst v') w') :
    if Region.wanted o (yielded ops a.tmps) = true then Oper.wp Tryz.prog o a w K Q else E := by
  have hw : Region.wanted o (yielded ops a.tmps) = true := by simp [Region.wanted, hgd]
  rw [if_pos hw]
  obtain ⟨us, h1, _, h2⟩ := hown
  obtain ⟨i0, hi, hz0, hz1, hz2⟩ := info_parts infoF
  have hsrc : ∀ j u, (fcells q (.slice ta tn tc))[j]? = some u → w.cell? ((⟨L, 0, none⟩ : Addr).add j) = some u := fun j u hj => by
    rw [Addr.add_mid, Nat.zero_add, cell_of_row w L j _ _ (0, 0) hL, List.getElem?_toArray]; exact hj
  obtain ⟨v', w', hr, k1, k2, _, _⟩ := run_append_own_at (P := Tryz.prog) w base 44 o.type 67 i0 _ 2 32 Tryz.underlying44 hi hz0 hz1 hz2 rfl (by decide) v os.length us h1 ⟨L, 0, none⟩ 1 1 (fcells q (.slice ta tn tc)) rfl hsrc (fcells_one _ _ _ _) (by unfold maxLen; omega) (by omega) hbase
  unfold Oper.wp execOp
  simp only [ho, resolve, invoke, builtin, Sem.run_bind, Sem.run_pure, Result.andThen_ok, List.map_toArray, List.map_cons, List.map_nil, hs, hx, hr]
  refine h v' w' ⟨_, by rw [List.length_append]; exact k1, fun h0 => by simp at h0, fun i hi => ?_⟩ k2
  have hlen : us.length = os.length * 2 := h1.1
  by_cases hio : i < os.length
  · obtain ⟨ta1, tn1, tc1, k3, k4⟩ := h2 i hio
    have e : (os ++ [q]).getD i noneF = os.getD i noneF := by simp [List.getD_eq_getElem?_getD, List.getElem?_append_left hio]
    rw [e]
    refine ⟨ta1, tn1, tc1, fun j u hj => ?_, own_keeps h1 k4 k2⟩
    have hj8 : j < 2 := by
      rcases Nat.lt_or_ge j 2 with h' | h'
      · exact h'
      · rw [List.getElem?_eq_none (by simp [fcells]; omega)] at hj; cases hj
    rw [List.getElem?_append_left (by omega)]
    exact k3 j u hj
  · rw [List.length_append] at hi
    simp only [List.length_cons, List.length_nil] at hi
    obtain rfl : i = os.length := by omega
    have e : (os ++ [q]).getD os.length noneF = q := by simp
    rw [e]
    refine ⟨ta, tn, tc, fun j u hj => ?_, own_keeps h1 ht k2⟩
    rw [List.getElem?_append_right (by omega), hlen, Nat.add_sub_cancel_left]
    exact hj
end Inp
end Go.Proofs.YtpdlpmbjhopnnaaGreatDoor
/- letter, checkText, checkField, checkFields, checkBare and Right of package input. -/
namespace Go.Proofs.YtpdlpmbjhopnnaaGreatDoor
open Go.RowKit Sha Cut Err Six Att
namespace Inp
/-- An error that is a number (0: nil). -/
def errv (c : Nat) : Value := if c = 0 then .nilIface else .iface 71 (.int .i64 (c : Int))
theorem errv_0 : errv 0 = .nilIface := rfl
theorem letter_any (b : Nat) (w : World) (hb : b < 256) :
    Calls Tryz.prog 140 #[.int .u8 (b : Int)] w fun e w' => e = .returned (.bool (letter b)) ∧ w = w' := by
  have HC := Lib.hid fun W => char_any b W hb
  have HL := Lib.hid (show letter b = (b != 0 && char b) from rfl)
  generalize letter b = res at HL ⊢
  by_cases h0 : b = 0
  · subst h0
    clear hb HC
    go_enter Tryz.func140, Tryz.ntmps140
    go_wp2_with fail
    go_ret
    rw [HL.out]
    exact ⟨rfl, rfl⟩
  · have k0 : ((b : Int) != 0) = true := by simp; omega
    have k1 : (b != 0) = true := by simpa using h0
    rw [k1] at HL
    generalize char b = c at *
    clear h0 hb k1
    go_enter Tryz.func140, Tryz.ntmps140
    go_wp2_with fail
    with_reducible refine (HC.out _).mono ?_
    rintro e w' ⟨rfl, rfl⟩
    go_wp2_with fail
    go_ret
    rw [HL.out]
    exact ⟨rfl, rfl⟩
theorem all_to {xs : List Nat} {f : Nat → Bool} (h : ∀ i, i < xs.length → f (xs.getD i 0) = true) : xs.all f = true := by
  rw [List.all_eq_true]
  intro x hx
  obtain ⟨i, hi, rfl⟩ := List.getElem_of_mem hx
  have := h i hi
  rwa [List.getD_eq_getElem?_getD, List.getElem?_eq_getElem hi] at this
theorem not_all {xs : List Nat} {f : Nat → Bool} {i : Nat} (hi : i < xs.length) (h : f (xs.getD i 0) = false) : xs.all f = false := by
  rw [List.getD_eq_getElem?_getD, List.getElem?_eq_getElem hi] at h
  rw [List.all_eq_false]
  exact ⟨_, List.getElem_mem hi, by simpa using h⟩
/-- What is wrong with letters. -/
def tcode (xs : List Nat) : Nat := if xs.all letter = false then 3 else 0
set_option maxRecDepth 100000 in
set_option maxHeartbeats 1000000 in
theorem text_any (ad : Option Addr) (len cap : Nat) (xs : List Nat) (w : World) (hB : BytesIn w (.slice ad len cap) xs) (h8 : ∀ x ∈ xs, x < 256) (hl : xs.length < 1000000) :
    Calls Tryz.prog 128 #[.slice ad len cap] w fun e w' => e = .returned (errv (tcode xs)) ∧ w = w' := by
  obtain ⟨ad1, c1, hv, _, h1⟩ := hB
  injection hv with e1 e2 e3
  subst e1 e2 e3
  have HC := Lib.hid fun b W hb => letter_any b W hb
  have HA := Lib.hid h1
  have H8 := Lib.hid fun k => byte_lt h8 (by decide) k
  clear h8 h1
  go_enter Tryz.func128, Tryz.ntmps128
  go_wp2_with fail
  go_loopg [7] (xs.length + 1) (fun n i wr => wr = w ∧ ∃ k : Nat, k ≤ xs.length ∧ n = xs.length + 1 - k ∧ i = .int .i64 k ∧ Hid (∀ i, i < k → letter (xs.getD i 0) = true))
  case atStart => exact ⟨rfl, 0, Nat.zero_le _, rfl, rfl, Lib.hid fun i hi => absurd hi (by omega)⟩
  case round =>
    obtain ⟨rfl, k, hk, rfl, rfl, hall⟩ := hrel
    by_cases hlt : k < xs.length
    · rcases HA.out with h0 | ⟨g, o, rfl, hcell⟩
      · simp [h0] at hlt
      have c0 := hcell k hlt
      have hb := H8.out k
      have HN := Lib.hid (show letter (xs.getD k 0) = true → ∀ i, i < k + 1 → letter (xs.getD i 0) = true from fun h i hi => by
          rcases Nat.lt_or_ge i k with h' | h'
          · exact hall.out i h'
          · obtain rfl : i = k := by omega
            exact h)
      have HF := Lib.hid (show letter (xs.getD k 0) = false → tcode xs = 3 from fun h => by unfold tcode; rw [if_pos (not_all hlt h)])
      generalize xs.getD k 0 = b at c0 hb HN HF
      have hi0 : (0 : Int) ≤ (k : Int) := by omega
      have hi1 : (k : Int) < (xs.length : Int) := by omega
      have ew : IntKind.i64.wrap ((k : Int) + 1) = (k : Int) + 1 := by
        rw [IntWalk.i64_in] <;> omega
      clear hall hcell
      go_wp2_with fail
      with_reducible refine (HC.out b _ hb).mono ?_
      rintro e w' ⟨rfl, rfl⟩
      cases hcb : letter b with
      | true =>
        have HN2 := Lib.hid (HN.out hcb)
        clear HN HF hcb
        go_wp2_with fail
        go_roundg (xs.length + 1 - (k + 1))
        case measure => omega
        case rel => exact ⟨rfl, k + 1, by omega, rfl, by go_num, HN2⟩
      | false =>
        have HF2 := Lib.hid (HF.out hcb)
        clear HN HF hcb
        go_wp2_with fail
        go_ret
        refine ⟨?_, rfl⟩
        rw [HF2.out]; rfl
    · have HE := Lib.hid (show tcode xs = 0 by
        have h1 := all_to (xs := xs) (f := letter) fun i hi => hall.out i (by omega)
        unfold tcode; rw [if_neg (by rw [h1]; simp)])
      have hge : xs.length ≤ k := by omega
      clear hlt hall
      go_wp2_with fail
      go_ret
      refine ⟨?_, rfl⟩
      rw [HE.out]; rfl
/-- A field that is alone, without an address. -/
theorem field_free {t : List Nat} (ta : Option Addr) (tn tc z : Nat) (w : World) (hB : BytesIn w (.slice ta tn tc) t) (h8 : ∀ x ∈ t, x < 256) (hl : t.length < 1000000) :
    Calls Tryz.prog 105 #[.agg #[.int .i64 (-1), .slice ta tn tc], .bool true, .int .i64 (z : Int)] w fun e w' => e = .returned (errv (fwrong z true ⟨-1, t⟩)) ∧ Below w.heap.size w w' := by
  have hlen : tn = t.length := by
    obtain ⟨_, _, hv, _⟩ := hB
    injection hv
  subst hlen
  have HA : Hid (Below w.heap.size w (w.alloc (.cells #[.int .i64 (-1), .slice ta t.length tc] 67))) := (Below.refl _ _).alloc (Nat.le_refl _) _
  have HT := Lib.hid fun W hb => text_any ta t.length tc t W (bytes_below hB hb) h8 hl
  by_cases h0 : t = []
  · have hw : fwrong z true ⟨-1, t⟩ = 1 := by subst h0; simp [fwrong]
    rw [hw]
    have e0 : ((t.length : Int) == 0) = true := by subst h0; simp
    clear hw h0 HT hB h8 hl
    go_enter Tryz.func105, Tryz.ntmps105
    go_wp2_with fail
    go_ret
    exact ⟨rfl, HA.out⟩
  · have hw : fwrong z true ⟨-1, t⟩ = tcode t := by
      unfold fwrong tcode
      rw [if_neg (by simp)]
      simp only
      by_cases hh : t.all letter = false
      · rw [if_pos hh, if_pos hh]
      · rw [if_neg hh, if_neg hh, if_neg (by simpa using h0)]
    rw [hw]
    have hpos : 0 < t.length := List.length_pos_iff.2 h0
    have e0 : ((t.length : Int) == 0) = false := by simp; omega
    generalize tcode t = tw at *
    clear hw h0 hB h8 hl hpos
    go_enter Tryz.func105, Tryz.ntmps105
    go_wp2_with fail
    with_reducible refine (HT.out _ HA.out).mono ?_
    rintro e w' ⟨rfl, rfl⟩
    go_wp2_with fail
    go_ret
    exact ⟨rfl, HA.out⟩
set_option maxRecDepth 100000 in
set_option maxHeartbeats 2000000 in
/-- A field with an address. -/
theorem field_at {a : Int} {t : List Nat} (alone : Bool) (ta : Option Addr) (tn tc z : Nat) (w : World) (hB : BytesIn w (.slice ta tn tc) t) (h8 : ∀ x ∈ t, x < 256) (hl : t.length < 1000000) (hna : (alone && a == -1) = false) (h1 : 1 ≤ z) (h2 : z ≤ 16383) :
    Calls Tryz.prog 105 #[.agg #[.int .i64 a, .slice ta tn tc], .bool alone, .int .i64 (z : Int)] w fun e w' => e = .returned (errv (fwrong z alone ⟨a, t⟩)) ∧ Below w.heap.size w w' := by
  have hlen : tn = t.length := by
    obtain ⟨_, _, hv, _⟩ := hB
    injection hv
  subst hlen
  have HA : Hid (Below w.heap.size w (w.alloc (.cells #[.int .i64 a, .slice ta t.length tc] 67))) := (Below.refl _ _).alloc (Nat.le_refl _) _
  have HG := Lib.hid (heap_alloc_new w (.cells #[.int .i64 a, .slice ta t.length tc] 67))
  have HT := Lib.hid fun W hb => text_any ta t.length tc t W (bytes_below hB hb) h8 hl
  by_cases hr : a < 0 ∨ (z : Int) ≤ a
  · have hw : fwrong z alone ⟨a, t⟩ = 4 := by unfold fwrong; rw [if_pos ⟨hna, hr⟩]
    rw [hw]
    have HP := Lib.hid fun W => Adr.put_none a z W h1 h2 hr
    have key : ∀ al : Bool, (al && a == -1) = false → Calls Tryz.prog 105 #[.agg #[.int .i64 a, .slice ta t.length tc], .bool al, .int .i64 (z : Int)] w fun e w' => e = .returned (errv 4) ∧ Below w.heap.size w w' := by
      intro al hal
      clear hw hr hB h8 hl HT hna
      cases al with
      | false =>
        clear hal
        go_enter Tryz.func105, Tryz.ntmps105
        go_wp2_with fail
        with_reducible refine (HP.out _).mono ?_
        rintro e w2 ⟨rfl, hb⟩
        have K2 := kept_alloc (kept_hid HA hb) (.cells #[.int .u8 0, .int .u8 0] 104)
        clear hb
        go_wp2_with fail
        go_ret
        exact ⟨rfl, K2.out⟩
      | true =>
        have e0 : (a == -1) = false := by simpa using hal
        clear hal
        go_enter Tryz.func105, Tryz.ntmps105
        go_wp2_with fail
        with_reducible refine (HP.out _).mono ?_
        rintro e w2 ⟨rfl, hb⟩
        have K2 := kept_alloc (kept_hid HA hb) (.cells #[.int .u8 0, .int .u8 0] 104)
        clear hb
        go_wp2_with fail
        go_ret
        exact ⟨rfl, K2.out⟩
    exact key alone hna
  · have hw : fwrong z alone ⟨a, t⟩ = tcode t := by
      unfold fwrong tcode
      rw [if_neg (fun h => hr h.2)]
      simp only [hna]
      by_cases hh : t.all letter = false
      · rw [if_pos hh, if_pos hh]
      · rw [if_neg hh, if_neg hh, if_neg (by simp)]
    rw [hw]
    obtain ⟨k, rfl⟩ := Int.eq_ofNat_of_zero_le (show 0 ≤ a by omega)
    have HP := Lib.hid fun W => Adr.put_all k z W (by omega) h2
    generalize tcode t = tw at *
    generalize Adr.first k z = q1 at *
    generalize Adr.second k z = q2 at *
    have e0 : ((k : Int) == -1) = false := by simp
    clear hw hr hB h8 hl hna
    cases alone with
    | false =>
      go_enter Tryz.func105, Tryz.ntmps105
      go_wp2_with fail
      with_reducible refine (HP.out _).mono ?_
      rintro e w2 ⟨rfl, hb⟩
      have K1 := kept_hid HA hb
      have K2 := kept_alloc K1 (.cells #[.int .u8 (q1 : Nat), .int .u8 (q2 : Nat)] 104)
      have G2 := blk (blk HG.out hb) (al_any w2 (.cells #[.int .u8 (q1 : Nat), .int .u8 (q2 : Nat)] 104))
      have G1 := there_lt (blk HG.out hb)
      have c0 := cell_of_row _ w.heap.size 0 _ _ (0, 0) G2
      have c1 := cell_of_row _ w.heap.size 1 _ _ (0, 0) G2
      clear hb HP HA
      go_wp2_with fail
      with_reducible refine (HT.out _ K2.out).mono ?_
      rintro e w' ⟨rfl, rfl⟩
      go_wp2_with fail
      go_ret
      exact ⟨rfl, K2.out⟩
    | true =>
      go_enter Tryz.func105, Tryz.ntmps105
      go_wp2_with fail
      with_reducible refine (HP.out _).mono ?_
      rintro e w2 ⟨rfl, hb⟩
      have K1 := kept_hid HA hb
      have K2 := kept_alloc K1 (.cells #[.int .u8 (q1 : Nat), .int .u8 (q2 : Nat)] 104)
      have G2 := blk (blk HG.out hb) (al_any w2 (.cells #[.int .u8 (q1 : Nat), .int .u8 (q2 : Nat)] 104))
      have G1 := there_lt (blk HG.out hb)
      have c0 := cell_of_row _ w.heap.size 0 _ _ (0, 0) G2
      have c1 := cell_of_row _ w.heap.size 1 _ _ (0, 0) G2
      clear hb HP HA
      go_wp2_with fail
      with_reducible refine (HT.out _ K2.out).mono ?_
      rintro e w' ⟨rfl, rfl⟩
      go_wp2_with fail
      go_ret
      exact ⟨rfl, K2.out⟩
theorem field_any {a : Int} {t : List Nat} (alone : Bool) (ta : Option Addr) (tn tc z : Nat) (w : World) (hB : BytesIn w (.slice ta tn tc) t) (h8 : ∀ x ∈ t, x < 256) (hl : t.length < 1000000) (h1 : 1 ≤ z) (h2 : z ≤ 16383) :
    Calls Tryz.prog 105 #[.agg #[.int .i64 a, .slice ta tn tc], .bool alone, .int .i64 (z : Int)] w fun e w' => e = .returned (errv (fwrong z alone ⟨a, t⟩)) ∧ Below w.heap.size w w' := by
  cases hna : (alone && a == -1) with
  | false => exact field_at alone ta tn tc z w hB h8 hl hna h1 h2
  | true =>
    simp only [Bool.and_eq_true, beq_iff_eq] at hna
    obtain ⟨rfl, rfl⟩ := hna
    exact field_free ta tn tc z w hB h8 hl
end Inp
end Go.Proofs.YtpdlpmbjhopnnaaGreatDoor
/- checkFields, checkBare and Right of package input. -/
namespace Go.Proofs.YtpdlpmbjhopnnaaGreatDoor
open Go.RowKit Sha Cut Err Six Att
namespace Inp
theorem fw_end {z : Nat} {alone : Bool} {i k : Nat} {fs : List F} (hk : fs.length ≤ k) (h : ∀ j, j < k → j < fs.length → fwrong z alone (fs.getD j noneF) = 0) : (fw z alone i fs).1 = 0 := by
  induction fs generalizing i k with
  | nil => rfl
  | cons f fs ih =>
    have h0 := h 0 (by simp at hk; omega) (by simp)
    simp only [List.getD_cons_zero] at h0
    simp only [fw, h0, ne_eq, not_true_eq_false, if_false]
    refine ih (k := fs.length) (Nat.le_refl _) fun j hj hj2 => ?_
    have := h (j + 1) (by simp at hk; omega) (by simp; omega)
    simpa using this
theorem fw_wrong {z : Nat} {alone : Bool} {i k : Nat} {fs : List F} (hk : k < fs.length) (h : ∀ j, j < k → fwrong z alone (fs.getD j noneF) = 0) (hw : fwrong z alone (fs.getD k noneF) ≠ 0) : fw z alone i fs = (fwrong z alone (fs.getD k noneF), i + k) := by
  induction fs generalizing i k with
  | nil => simp at hk
  | cons f fs ih =>
    cases k with
    | zero =>
      simp only [List.getD_cons_zero] at hw ⊢
      simp only [fw, if_pos hw, Nat.add_zero]
    | succ k =>
      have h0 := h 0 (by omega)
      simp only [List.getD_cons_zero] at h0
      simp only [fw, h0, ne_eq, not_true_eq_false, if_false]
      have := ih (i := i + 1) (k := k) (by simpa using hk) (fun j hj => by simpa using h (j + 1) (by omega)) (by simpa using hw)
      rw [this]
      simp only [List.getD_cons_succ]
      rw [Nat.add_right_comm, Nat.add_assoc]
/-- What a check answers: nil, a number, or a Spot. -/
def Said (w : World) (ev : Value) (c : Nat) (p : Int) : Prop :=
  (c = 0 ∧ ev = .nilIface) ∨ (c ≠ 0 ∧ ((p = -1 ∧ ev = .iface 71 (.int .i64 (c : Int))) ∨ ∃ b, ev = .iface 84 (.pointer (some ⟨b, 0, none⟩)) ∧ Err.Told w ev (c : Int) p))
set_option maxRecDepth 100000 in
set_option maxHeartbeats 4000000 in
theorem fields_any (ad : Option Addr) (n cap z : Nat) (os : List F) (w : World) (ho : FldsIn w 0 (.slice ad n cap) os) (hs : Sound os) (hl : os.length < 1000000) (h1 : 1 ≤ z) (h2 : z ≤ 16383) :
    Calls Tryz.prog 58 #[.slice ad n cap, .int .i64 (z : Int)] w fun e w' => ∃ ev, e = .returned ev ∧ Below w.heap.size w w' ∧ (((fw z (os.length == 1) 0 os).1 = 0 ∧ ev = .nilIface) ∨ ((fw z (os.length == 1) 0 os).1 ≠ 0 ∧ ∃ b, ev = .iface 84 (.pointer (some ⟨b, 0, none⟩)) ∧ Err.Told w' ev ((fw z (os.length == 1) 0 os).1 : Int) ((fw z (os.length == 1) 0 os).2 : Int))) := by
  obtain rfl := ho.len
  have HO := Lib.hid ho
  have HS := Lib.hid hs
  have HL := Lib.hid hl
  have HZ1 := Lib.hid h1
  have HZ2 := Lib.hid h2
  have hal : ((os.length : Int) == 1) = (os.length == 1) := by rw [Bool.eq_iff_iff]; simp; omega
  generalize (os.length == 1) = alone at *
  clear ho hs hl h1 h2
  go_enter Tryz.func58, Tryz.ntmps58
  go_wp2_with fail
  go_loopg [10] (os.length + 1) (fun m i wr => ∃ k : Nat, k ≤ os.length ∧ m = os.length + 1 - k ∧ i = .int .i64 k ∧ Hid (Below w.heap.size w wr) ∧ Hid (∀ j, j < k → fwrong z alone (os.getD j noneF) = 0))
  case atStart => exact ⟨0, Nat.zero_le _, rfl, rfl, Lib.hid (Below.refl _ _), Lib.hid nofun⟩
  case round =>
    obtain ⟨k, hk, rfl, rfl, HB, HE⟩ := hrel
    have ew : IntKind.i64.wrap ((k : Int) + 1) = (k : Int) + 1 := by
      have := HL.out
      rw [IntWalk.i64_in] <;> omega
    by_cases hlt : k < os.length
    · obtain ⟨pa, pt, ex⟩ := f_eta (os.getD k noneF)
      obtain ⟨b1, o1, t1, m1, q1, rfl, g0, g1, B1, _⟩ := (HO.out.below HB.out).cells hlt ex
      have lb1 := cell_lt g0
      have hi0 : (0 : Int) ≤ (k : Int) := by omega
      have hi1 : (k : Int) < (os.length : Int) := by omega
      have sx := sound_at HS.out k
      rw [ex] at sx
      have HA := Lib.hid (al_any wr (.cells #[.int .i64 pa, .slice t1 m1 q1] 67))
      have HF := Lib.hid (field_any (a := pa) (t := pt) alone t1 m1 q1 z _ (bytes_below B1 HA.out) sx.1 sx.2 HZ1.out HZ2.out)
      have HK := kept_hid HB HA.out
      have HN := Lib.hid (show fwrong z alone ⟨pa, pt⟩ = 0 → ∀ j, j < k + 1 → fwrong z alone (os.getD j noneF) = 0 from fun h j hj => by
        by_cases hjk : j = k
        · subst hjk; rw [ex]; exact h
        · exact HE.out j (by omega))
      have HW := Lib.hid (show fwrong z alone ⟨pa, pt⟩ ≠ 0 → fw z alone 0 os = (fwrong z alone ⟨pa, pt⟩, k) from fun h => by
        have := fw_wrong (i := 0) hlt HE.out (by rw [ex]; exact h)
        rw [ex, Nat.zero_add] at this
        exact this)
      clear sx B1
      generalize fwrong z alone ⟨pa, pt⟩ = c at *
      go_wp2_with fail
      clear g0 g1 lb1
      by_cases hc : c = 0
      · subst hc
        have HN2 := Lib.hid (HN.out rfl)
        clear HN HW
        rw [errv_0] at HF
        with_reducible refine HF.out.mono ?_
        rintro e w2 ⟨rfl, hb⟩
        have HK2 := kept_hid HK hb
        clear hb HF HK
        go_wp2_with fail
        go_roundg (os.length + 1 - (k + 1))
        case measure => omega
        case rel => exact ⟨k + 1, by omega, rfl, rfl, HK2, HN2⟩
      · have HW2 := Lib.hid (HW.out hc)
        have HC := Lib.hid hc
        rw [show errv c = .iface 71 (.int .i64 (c : Int)) from if_neg hc] at HF
        clear hc HN HW
        with_reducible refine HF.out.mono ?_
        rintro e w2 ⟨rfl, hb⟩
        have HK2 := kept_hid HK hb
        have K4 := kept_alloc HK2 (.cells #[.int .i64 (k : Int), .iface 71 (.int .i64 (c : Int))] 86)
        have L4 := heap_alloc_new w2 (.cells #[.int .i64 (k : Int), .iface 71 (.int .i64 (c : Int))] 86)
        have C0 := Lib.hid (cell_of_row _ w2.heap.size 0 _ _ (0, 0) L4)
        have C1 := Lib.hid (cell_of_row _ w2.heap.size 1 _ _ (0, 0) L4)
        clear hb HF HK HK2 L4
        go_wp2_with fail
        go_ret
        refine ⟨_, rfl, K4.out, .inr ?_⟩
        rw [HW2.out]
        exact ⟨HC.out, _, rfl, .inr (.inr ⟨0, w2.heap.size, rfl, C0.out, _, _, _, rfl, C0.out, C1.out, rfl⟩)⟩
    · obtain rfl : k = os.length := by omega
      have HT := Lib.hid (show (fw z alone 0 os).1 = 0 from fw_end (Nat.le_refl _) fun j hj _ => HE.out j hj)
      clear hlt
      have hn0 : ¬ (os.length : Int) < (os.length : Int) := by omega
      go_wp2_with fail
      go_ret
      exact ⟨_, rfl, HB.out, .inl ⟨HT.out, rfl⟩⟩
theorem bare_yes (aid : Nat) (ad : Option Addr) (n cap : Nat) (w : World) (hn : n = 0) :
    Calls Tryz.prog 56 #[.agg #[.int .u8 (aid : Int), .int .i64 0, .slice ad n cap]] w fun e w' => e = .returned .nilIface ∧ Below w.heap.size w w' := by
  subst hn
  have HA : Hid (Below w.heap.size w (w.alloc (.cells #[.int .u8 (aid : Int), .int .i64 0, .slice ad 0 cap] 46))) := (Below.refl _ _).alloc (Nat.le_refl _) _
  go_enter Tryz.func56, Tryz.ntmps56
  go_wp2_with fail
  go_ret
  exact ⟨rfl, HA.out⟩
theorem bare_no (aid : Nat) (cur : Int) (ad : Option Addr) (n cap : Nat) (w : World) (h : cur ≠ 0 ∨ n ≠ 0) :
    Calls Tryz.prog 56 #[.agg #[.int .u8 (aid : Int), .int .i64 cur, .slice ad n cap]] w fun e w' => e = .returned (.iface 71 (.int .i64 1)) ∧ Below w.heap.size w w' := by
  have HA : Hid (Below w.heap.size w (w.alloc (.cells #[.int .u8 (aid : Int), .int .i64 cur, .slice ad n cap] 46))) := (Below.refl _ _).alloc (Nat.le_refl _) _
  by_cases h0 : cur = 0
  · subst h0
    have hn : 0 < n := by rcases h with h | h; exact absurd rfl h; omega
    have hn2 : (0 : Int) < (n : Int) := by omega
    clear h
    go_enter Tryz.func56, Tryz.ntmps56
    go_wp2_with fail
    go_ret
    exact ⟨rfl, HA.out⟩
  · have e0 : (cur != 0) = true := by simpa using h0
    clear h h0
    go_enter Tryz.func56, Tryz.ntmps56
    go_wp2_with fail
    go_ret
    exact ⟨rfl, HA.out⟩
set_option maxRecDepth 100000 in
set_option maxHeartbeats 4000000 in
theorem right_any (x : I) (ad : Option Addr) (n cap z : Nat) (w : World) (hk : x.aid < 256) (ho : FldsIn w 0 (.slice ad n cap) x.fs) (hs : Sound x.fs) (hl : x.fs.length < 1000000) (h1 : 1 ≤ z) (h2 : z ≤ 16383) (R : Nat × Int) (hR : R = iright x z) :
    Calls Tryz.prog 23 #[.agg #[.int .u8 (x.aid : Int), .int .i64 x.cur, .slice ad n cap], .int .i64 (z : Int)] w fun e w' => ∃ ev, e = .returned ev ∧ Below w.heap.size w w' ∧ Said w' ev R.1 R.2 := by
  obtain rfl := ho.len
  obtain ⟨k, cur, os⟩ := x
  simp only at hk ho hs hl hR ⊢
  have HA := Lib.hid (al_any w (.cells #[.int .u8 (k : Int), .int .i64 cur, .slice ad os.length cap] 46))
  have HG := Lib.hid (heap_alloc_new w (.cells #[.int .u8 (k : Int), .int .i64 cur, .slice ad os.length cap] 46))
  have HAID := Lib.hid fun W => aid_any k W hk
  have HBARE := Lib.hid fun W => bare_any k W hk
  have HF := Lib.hid fun W hb => fields_any ad os.length cap z os W (ho.below hb) hs hl h1 h2
  have HZ := Lib.hid (And.intro h1 h2)
  unfold iright at hR
  simp only at hR
  generalize aid k = ka at *
  generalize bare k = kb at *
  clear hk ho hs hl h1 h2
  cases ka with
  | false =>
    rw [if_pos rfl] at hR
    subst hR
    clear HF HZ HBARE
    go_enter Tryz.func23, Tryz.ntmps23
    go_wp2_with fail
    with_reducible refine (HAID.out _).mono ?_
    rintro e w' ⟨rfl, rfl⟩
    go_wp2_with fail
    go_ret
    exact ⟨_, rfl, HA.out, .inr ⟨by show (3 : Nat) ≠ 0; decide, .inl ⟨rfl, rfl⟩⟩⟩
  | true =>
    rw [if_neg (by decide)] at hR
    cases kb with
    | true =>
      rw [if_pos rfl] at hR
      by_cases hn : cur ≠ 0 ∨ os ≠ []
      · rw [if_pos hn] at hR
        subst hR
        have HB := Lib.hid fun W => bare_no k cur ad os.length cap W (by
          rcases hn with hn | hn
          · exact .inl hn
          · exact .inr (by have := List.length_pos_iff.2 hn; omega))
        clear HF HZ hn
        go_enter Tryz.func23, Tryz.ntmps23
        go_wp2_with fail
        with_reducible refine (HAID.out _).mono ?_
        rintro e w' ⟨rfl, rfl⟩
        go_wp2_with fail
        with_reducible refine (HBARE.out _).mono ?_
        rintro e w' ⟨rfl, rfl⟩
        go_wp2_with fail
        with_reducible refine (HB.out _).mono ?_
        rintro e w' ⟨rfl, hb⟩
        have K2 := kept_hid HA hb
        clear hb
        go_wp2_with fail
        go_ret
        exact ⟨_, rfl, K2.out, .inr ⟨by show (1 : Nat) ≠ 0; decide, .inl ⟨rfl, rfl⟩⟩⟩
      · rw [if_neg hn] at hR
        subst hR
        have h0 : cur = 0 := by by_cases h : cur = 0; exact h; exact absurd (.inl h) hn
        have h1 : os.length = 0 := by by_cases h : os = []; simp [h]; exact absurd (.inr h) hn
        subst h0
        have HB := Lib.hid fun W => bare_yes k ad os.length cap W h1
        clear HF HZ hn h1
        go_enter Tryz.func23, Tryz.ntmps23
        go_wp2_with fail
        with_reducible refine (HAID.out _).mono ?_
        rintro e w' ⟨rfl, rfl⟩
        go_wp2_with fail
        with_reducible refine (HBARE.out _).mono ?_
        rintro e w' ⟨rfl, rfl⟩
        go_wp2_with fail
        with_reducible refine (HB.out _).mono ?_
        rintro e w' ⟨rfl, hb⟩
        have K2 := kept_hid HA hb
        clear hb
        go_wp2_with fail
        go_ret
        exact ⟨_, rfl, K2.out, .inl ⟨rfl, rfl⟩⟩
    | false =>
      rw [if_neg (by decide)] at hR
      by_cases hc : cur < 0 ∨ (z : Int) ≤ cur
      · rw [if_pos hc] at hR
        subst hR
        have HP := Lib.hid fun W => Adr.put_none cur z W HZ.out.1 HZ.out.2 hc
        clear HF HZ hc
        go_enter Tryz.func23, Tryz.ntmps23
        go_wp2_with fail
        with_reducible refine (HAID.out _).mono ?_
        rintro e w' ⟨rfl, rfl⟩
        go_wp2_with fail
        with_reducible refine (HBARE.out _).mono ?_
        rintro e w' ⟨rfl, rfl⟩
        go_wp2_with fail
        with_reducible refine (HP.out _).mono ?_
        rintro e w2 ⟨rfl, hb⟩
        have K2 := kept_alloc (kept_hid HA hb) (.cells #[.int .u8 0, .int .u8 0] 104)
        clear hb
        go_wp2_with fail
        go_ret
        exact ⟨_, rfl, K2.out, .inr ⟨by show (4 : Nat) ≠ 0; decide, .inl ⟨rfl, rfl⟩⟩⟩
      · rw [if_neg hc] at hR
        obtain ⟨c, rfl⟩ := Int.eq_ofNat_of_zero_le (show 0 ≤ cur by omega)
        have HP := Lib.hid fun W => Adr.put_all c z W (by omega) HZ.out.2
        generalize Adr.first c z = q1 at *
        generalize Adr.second c z = q2 at *
        have HR := Lib.hid hR
        clear hc hR
        go_enter Tryz.func23, Tryz.ntmps23
        go_wp2_with fail
        with_reducible refine (HAID.out _).mono ?_
        rintro e w' ⟨rfl, rfl⟩
        go_wp2_with fail
        with_reducible refine (HBARE.out _).mono ?_
        rintro e w' ⟨rfl, rfl⟩
        go_wp2_with fail
        with_reducible refine (HP.out _).mono ?_
        rintro e w2 ⟨rfl, hb⟩
        have K1 := kept_hid HA hb
        have K2 := kept_alloc K1 (.cells #[.int .u8 (q1 : Nat), .int .u8 (q2 : Nat)] 104)
        have G2 := blk (blk HG.out hb) (al_any w2 (.cells #[.int .u8 (q1 : Nat), .int .u8 (q2 : Nat)] 104))
        have G1 := there_lt (blk HG.out hb)
        obtain ⟨c0, c1, c2⟩ := cells3 G2
        clear hb HP HA G2
        go_wp2_with fail
        with_reducible refine (HF.out _ K2.out).mono ?_
        rintro e w3 ⟨ev, rfl, hb, hE⟩
        have K3 := kept_hid K2 hb
        have HE := Lib.hid hE
        clear hb hE HF K1 K2
        have hS : Hid (Said w3 ev R.1 R.2) := by
          have hR := HR.out
          rcases HE.out with ⟨h0, h1⟩ | ⟨h0, b, h1, h2⟩
          · rw [if_neg (by rw [h0]; simp)] at hR
            subst hR
            exact .inl ⟨rfl, h1⟩
          · rw [if_pos h0] at hR
            subst hR
            exact .inr ⟨h0, .inr ⟨b, h1, h2⟩⟩
        clear HE
        rcases hS.out with ⟨_, rfl⟩ | ⟨_, ⟨_, rfl⟩ | ⟨b, rfl, _⟩⟩
        all_goals
          go_wp2_with fail
          go_ret
          exact ⟨_, rfl, K3.out, hS.out⟩
end Inp
end Go.Proofs.YtpdlpmbjhopnnaaGreatDoor
/- putAddr and putField of package input. -/
namespace Go.Proofs.YtpdlpmbjhopnnaaGreatDoor
open Go.RowKit Sha Cut Err Six Att Apd
namespace Inp
theorem putAddr_any (a z : Nat) (w : World) (ha : a < z) (h2 : z ≤ 16383) :
    Calls Tryz.prog 62 #[.int .i64 (a : Int), .int .i64 (z : Int)] w fun e w' => ∃ g, e = .returned (.slice (some ⟨g, 0, none⟩) 2 2) ∧ BytesIn w' (.slice (some ⟨g, 0, none⟩) 2 2) [Adr.first a z, Adr.second a z] ∧ Below w.heap.size w w' := by
  have HP := Lib.hid fun W => Adr.put_all a z W ha h2
  generalize Adr.first a z = q1 at *
  generalize Adr.second a z = q2 at *
  clear ha h2
  go_enter Tryz.func62, Tryz.ntmps62
  go_wp2_with fail
  with_reducible refine (HP.out _).mono ?_
  rintro e w2 ⟨rfl, hb⟩
  have K2 := kept_alloc (Lib.hid hb) (.cells #[.int .u8 (q1 : Nat), .int .u8 (q2 : Nat)] 104)
  have G2 := Lib.hid (heap_alloc_new w2 (.cells #[.int .u8 (q1 : Nat), .int .u8 (q2 : Nat)] 104))
  clear hb HP
  go_wp2_with fail
  go_ret
  exact ⟨_, rfl, two_in G2.out, K2.out⟩
set_option maxRecDepth 100000 in
set_option maxHeartbeats 2000000 in
theorem putField_free {t : List Nat} (ta : Option Addr) (tc z : Nat) (w : World) (hB : BytesIn w (.slice ta t.length tc) t) (hn : ta = none → t.length = 0 ∧ tc = 0) (hl : t.length < 1000000) :
    Calls Tryz.prog 63 #[.agg #[.int .i64 (-1), .slice ta t.length tc], .int .i64 (z : Int)] w fun e w' => ∃ v, e = .returned v ∧ w'.ownsRow w.heap.size 5 1 v t.length (u8s t) ∧ Below w.heap.size w w' := by
  have HA := Lib.hid (al_any w (.cells #[.int .i64 (-1), .slice ta t.length tc] 67))
  have HS := Lib.hid (bytes_src (bytes_below hB HA.out))
  have HN := Lib.hid hn
  have HL := Lib.hid hl
  clear hB hn hl
  go_enter Tryz.func63, Tryz.ntmps63
  go_wp2_with (at_builtin; refine wpList_mark ?_)
  refine Lib.hid ?_
  refine append_own rfl (.tmp 18) (.tmp 20) rfl w.heap.size (.slice none 0 0) 0 [] rfl (World.ownsRow_nil _ _ _ _) ta t.length tc t rfl rfl HN.out HS.out (by have := HL.out; omega) HA.out.size ?_
  intro v' w' hown hgr _
  have HO := Lib.hid (show w'.ownsRow w.heap.size 5 1 v' t.length (u8s t) from by simpa using hown)
  have K := Lib.hid (below_own HA.out hgr (World.ownsRow_nil _ w.heap.size 5 1))
  obtain ⟨va, vc, rfl⟩ := own_form HO.out
  clear hown hgr HS HN HL
  go_wp2_with fail
  go_ret
  exact ⟨_, rfl, HO.out, K.out⟩
set_option maxRecDepth 100000 in
set_option maxHeartbeats 4000000 in
theorem putField_at {t : List Nat} (a : Nat) (ta : Option Addr) (tc z : Nat) (w : World) (hB : BytesIn w (.slice ta t.length tc) t) (hn : ta = none → t.length = 0 ∧ tc = 0) (hl : t.length < 1000000) (ha : a < z) (h2 : z ≤ 16383) :
    Calls Tryz.prog 63 #[.agg #[.int .i64 (a : Int), .slice ta t.length tc], .int .i64 (z : Int)] w fun e w' => ∃ v, e = .returned v ∧ w'.ownsRow w.heap.size 5 1 v (3 + t.length) (u8s (17 :: Adr.first a z :: Adr.second a z :: t)) ∧ Below w.heap.size w w' := by
  have HA := Lib.hid (al_any w (.cells #[.int .i64 (a : Int), .slice ta t.length tc] 67))
  have HG := Lib.hid (heap_alloc_new w (.cells #[.int .i64 (a : Int), .slice ta t.length tc] 67))
  have HS := Lib.hid fun W hb => bytes_src (bytes_below hB (w1 := W) hb)
  have HN := Lib.hid hn
  have HL := Lib.hid hl
  have HP := Lib.hid fun W => putAddr_any a z W ha h2
  have e0 : ((a : Int) != -1) = true := by simp
  clear hB hn hl ha h2
  generalize Adr.first a z = q1 at *
  generalize Adr.second a z = q2 at *
  go_enter Tryz.func63, Tryz.ntmps63
  go_upto_region 1 with (fail)
  generalize w.alloc (.cells #[.int .i64 (a : Int), .slice ta t.length tc] 67) = w1 at *
  have HLT := Lib.hid (there_lt HG.out)
  have c0 := cell_of_row w1 w.heap.size 0 _ _ (0, 0) HG.out
  go_wp2_with (at_builtin; refine wpList_mark ?_)
  clear c0
  refine Lib.hid ?_
  have A1 := al_any w1 (.cells (u8s [17]).toArray 5)
  refine append_own rfl (.tmp 9) (.tmp 10) rfl w1.heap.size (.slice none 0 0) 0 [] rfl (World.ownsRow_nil _ _ _ _) (some ⟨w1.heap.size, 0, none⟩) 1 1 [17] rfl rfl nofun (bytes_src (lit_in w1 [17])) (by decide) A1.size ?_
  intro v2 w2 hown hgr _
  have HO2 := Lib.hid (show w2.ownsRow w1.heap.size 5 1 v2 1 (u8s [17]) from by simpa using hown)
  have K2 := Lib.hid (below_own (kept_trans HA.out A1) hgr (World.ownsRow_nil _ w.heap.size 5 1))
  have G2 := Lib.hid (blk_g (blk HG.out A1) hgr nofun)
  have B2 := Lib.hid (Nat.le_trans A1.size hgr.size)
  obtain ⟨va2, vc2, rfl⟩ := own_form HO2.out
  have OB2 := Lib.hid (own_blocks HO2.out)
  clear hown hgr A1
  have c0 := cell_of_row _ w.heap.size 0 _ _ (0, 0) G2.out
  have c1 := cell_of_row _ w.heap.size 1 _ _ (0, 0) G2.out
  go_wp2_with fail
  with_reducible refine (HP.out _).mono ?_
  rintro e w3 ⟨g, rfl, hB3, hb⟩
  have HO3 := Lib.hid (own_below HO2.out hb)
  have K3 := kept_hid K2 hb
  have B3 := Lib.hid (Nat.le_trans B2.out hb.size)
  have G3 := Lib.hid (blk G2.out hb)
  have HS3 := Lib.hid (bytes_src hB3)
  clear hb hB3 HP c0 c1
  go_wp2_with (at_builtin; refine wpList_mark ?_)
  refine Lib.hid ?_
  refine append_own rfl (.tmp 12) (.tmp 16) rfl w1.heap.size _ 1 _ rfl HO3.out (some ⟨g, 0, none⟩) 2 2 [q1, q2] rfl rfl nofun HS3.out (by decide) B3.out ?_
  intro v4 w4 hown hgr _
  have HO4 := Lib.hid (show w4.ownsRow w1.heap.size 5 1 v4 3 (u8s [17, q1, q2]) from hown)
  have K4 := Lib.hid (below_own K3.out hgr (own_mono HO3.out HA.out.size))
  have G4 := Lib.hid (blk_g G3.out hgr (by
    intro e
    cases va2 with
    | none => cases e
    | some x => injection e with e; have := (OB2.out x rfl).1; have := HLT.out; omega))
  have B4 := Lib.hid (Nat.le_trans B3.out hgr.size)
  obtain ⟨va4, vc4, rfl⟩ := own_form HO4.out
  clear hown hgr HO3 K3 G3 HS3 OB2 HO2 K2 G2
  have c0 := cell_of_row w4 w.heap.size 0 _ _ (0, 0) G4.out
  have c1 := cell_of_row w4 w.heap.size 1 _ _ (0, 0) G4.out
  have HS4 := Lib.hid (HS.out w4 K4.out)
  go_wp2_with (at_builtin; refine wpList_mark ?_)
  clear c0 c1
  refine Lib.hid ?_
  refine append_own rfl (.tmp 18) (.tmp 20) rfl w1.heap.size _ 3 _ rfl HO4.out ta t.length tc t rfl rfl HN.out HS4.out (by have := HL.out; omega) B4.out ?_
  intro v5 w5 hown hgr _
  have HO5 := Lib.hid (show w5.ownsRow w1.heap.size 5 1 v5 (3 + t.length) (u8s (17 :: q1 :: q2 :: t)) from hown)
  have K5 := Lib.hid (below_own K4.out hgr (own_mono HO4.out HA.out.size))
  obtain ⟨va5, vc5, rfl⟩ := own_form HO5.out
  clear hown hgr HS4 HN HL HS HO4 K4
  go_wp2_with fail
  go_ret
  exact ⟨_, rfl, own_mono HO5.out HA.out.size, K5.out⟩
end Inp
end Go.Proofs.YtpdlpmbjhopnnaaGreatDoor
/- Write of package input returns what the plain function says. -/
namespace Go.Proofs.YtpdlpmbjhopnnaaGreatDoor
open Go.RowKit Sha Cut Err Six Att Apd
namespace Inp
theorem fw_all {z : Nat} {alone : Bool} : ∀ (fs : List F) (i : Nat), (fw z alone i fs).1 = 0 → ∀ j, j < fs.length → fwrong z alone (fs.getD j noneF) = 0 := by
  intro fs
  induction fs with
  | nil => intro i _ j hj; simp at hj
  | cons f fs ih =>
    intro i h j hj
    have hw : fwrong z alone f = 0 := by
      by_cases hw : fwrong z alone f = 0
      · exact hw
      · simp [fw, hw] at h
    simp only [fw, hw, ne_eq, not_true_eq_false, if_false] at h
    cases j with
    | zero => simpa using hw
    | succ j => simpa using ih (i + 1) h j (by simpa using hj)
theorem fwrong_cases {z : Nat} {alone : Bool} {f : F} (h : fwrong z alone f = 0) : f.a = -1 ∨ (0 ≤ f.a ∧ f.a < z) := by
  by_cases hn : (alone && f.a == -1) = true
  · simp only [Bool.and_eq_true, beq_iff_eq] at hn
    exact .inl hn.2
  · right
    by_cases hr : f.a < 0 ∨ (z : Int) ≤ f.a
    · unfold fwrong at h
      rw [if_pos ⟨by simpa using hn, hr⟩] at h
      cases h
    · omega
theorem putField_any {f : F} (alone : Bool) (ta : Option Addr) (tn tc z : Nat) (w : World) (hB : BytesIn w (.slice ta tn tc) f.t) (hn : ta = none → tn = 0 ∧ tc = 0) (hl : f.t.length < 1000000) (hw : fwrong z alone f = 0) (h2 : z ≤ 16383) :
    Calls Tryz.prog 63 #[.agg #[.int .i64 f.a, .slice ta tn tc], .int .i64 (z : Int)] w fun e w' => ∃ v, e = .returned v ∧ w'.ownsRow w.heap.size 5 1 v (fb z f).length (u8s (fb z f)) ∧ Below w.heap.size w w' := by
  have hlen : tn = f.t.length := by
    obtain ⟨_, _, hv, _⟩ := hB
    injection hv
  subst hlen
  obtain ⟨a, t⟩ := f
  simp only at hB hn hl ⊢
  rcases fwrong_cases hw with h | ⟨h0, h1⟩
  · simp only at h
    subst h
    have e : fb z ⟨-1, t⟩ = t := by unfold fb; rw [if_neg (show ¬ (0 : Int) ≤ -1 by decide)]
    rw [e]
    exact putField_free ta tc z w hB hn hl
  · simp only at h0 h1
    obtain ⟨k, rfl⟩ := Int.eq_ofNat_of_zero_le h0
    have e : fb z ⟨(k : Int), t⟩ = 17 :: Adr.first k z :: Adr.second k z :: t := by unfold fb; rw [if_pos h0, Int.toNat_natCast]
    rw [e]
    have := putField_at k ta tc z w hB hn hl (by omega) h2
    rw [show 3 + t.length = (17 :: Adr.first k z :: Adr.second k z :: t).length by simp only [List.length_cons]; omega] at this
    exact this
theorem take_f {os : List F} {k : Nat} (h : k < os.length) : os.take (k + 1) = os.take k ++ [os.getD k noneF] := by
  rw [List.take_succ_eq_append_getElem h, List.getD_eq_getElem?_getD, List.getElem?_eq_getElem h]; rfl
theorem fbs_append (z : Nat) (a b : List F) : fbs z (a ++ b) = fbs z a ++ fbs z b := by
  induction a with
  | nil => rfl
  | cons f a ih => simp only [List.cons_append, fbs, ih, List.append_assoc]
theorem fbs_take {z : Nat} {os : List F} {k : Nat} (h : k < os.length) : fbs z (os.take (k + 1)) = fbs z (os.take k) ++ fb z (os.getD k noneF) := by
  rw [take_f h, fbs_append]; simp [fbs]
theorem fbs_take_le (z : Nat) (os : List F) (k : Nat) : (fbs z (os.take k)).length ≤ (fbs z os).length := by
  conv => rhs; rw [← List.take_append_drop k os]
  rw [fbs_append, List.length_append]; omega
theorem said_0 (w : World) : Said w .nilIface 0 (-1) := .inl ⟨rfl, rfl⟩
theorem Said.none {w : World} {ev : Value} {c : Nat} {p : Int} (h : Said w ev c p) (hc : c = 0) : ev = .nilIface := by
  rcases h with ⟨_, h⟩ | ⟨h, _⟩
  · exact h
  · exact absurd hc h
theorem Said.told {w : World} {ev : Value} {c : Nat} {p : Int} (h : Said w ev c p) (hp : c = 0 → p = -1) : Err.Told w ev (c : Int) p := by
  rcases h with ⟨h0, rfl⟩ | ⟨_, ⟨rfl, rfl⟩ | ⟨_, _, h⟩⟩
  · subst h0
    rw [hp rfl]
    exact .inl ⟨rfl, rfl, rfl⟩
  · exact .inr (.inl ⟨rfl, rfl⟩)
  · exact h
set_option maxRecDepth 100000 in
set_option maxHeartbeats 4000000 in
/-- What isn't right isn't written. -/
theorem write_wrong (x : I) (ad : Option Addr) (n cap z : Nat) (w : World) (hk : x.aid < 256) (ho : FldsIn w 0 (.slice ad n cap) x.fs) (hs : Sound x.fs) (hl : x.fs.length < 1000000) (h1 : 1 ≤ z) (h2 : z ≤ 16383) (R : Nat × Int) (hR : R = iright x z) (h0 : R.1 ≠ 0) :
    Calls Tryz.prog 27 #[.agg #[.int .u8 (x.aid : Int), .int .i64 x.cur, .slice ad n cap], .int .i64 (z : Int)] w fun e w' => ∃ ev, e = .returned (.tuple #[.slice none 0 0, ev]) ∧ Below w.heap.size w w' ∧ Said w' ev R.1 R.2 := by
  have HA := Lib.hid (al_any w (.cells #[.int .u8 (x.aid : Int), .int .i64 x.cur, .slice ad n cap] 46))
  have HG := Lib.hid (heap_alloc_new w (.cells #[.int .u8 (x.aid : Int), .int .i64 x.cur, .slice ad n cap] 46))
  have HR := Lib.hid fun W hb => right_any x ad n cap z W hk (ho.below hb) hs hl h1 h2 R hR
  obtain ⟨k, cur, os⟩ := x
  simp only at HA HG HR ⊢
  have H0 := Lib.hid h0
  clear hk ho hs hl h1 h2 hR h0
  go_enter Tryz.func27, Tryz.ntmps27
  go_wp2_with fail
  with_reducible refine (HR.out _ HA.out).mono ?_
  rintro e w2 ⟨ev, rfl, hb, hE⟩
  have K2 := kept_hid HA hb
  have HE := Lib.hid hE
  clear hb hE HR HG
  rcases HE.out with ⟨h, _⟩ | ⟨_, ⟨_, rfl⟩ | ⟨b, rfl, _⟩⟩
  · exact absurd h H0.out
  all_goals
    go_wp2_with fail
    go_ret2
    exact ⟨_, rfl, K2.out, HE.out⟩
set_option maxRecDepth 100000 in
set_option maxHeartbeats 4000000 in
theorem write_bare (x : I) (ad : Option Addr) (n cap z : Nat) (w : World) (hk : x.aid < 256) (ho : FldsIn w 0 (.slice ad n cap) x.fs) (hs : Sound x.fs) (hl : x.fs.length < 1000000) (h1 : 1 ≤ z) (h2 : z ≤ 16383) (h0 : (iright x z).1 = 0) (hb : bare x.aid = true) :
    Calls Tryz.prog 27 #[.agg #[.int .u8 (x.aid : Int), .int .i64 x.cur, .slice ad n cap], .int .i64 (z : Int)] w fun e w' => ∃ va cp, e = .returned (.tuple #[.slice va 1 cp, .nilIface]) ∧ Below w.heap.size w w' ∧ w'.ownsRow w.heap.size 5 1 (.slice va 1 cp) 1 (u8s [x.aid]) := by
  have HA := Lib.hid (al_any w (.cells #[.int .u8 (x.aid : Int), .int .i64 x.cur, .slice ad n cap] 46))
  have HG := Lib.hid (heap_alloc_new w (.cells #[.int .u8 (x.aid : Int), .int .i64 x.cur, .slice ad n cap] 46))
  have HR := Lib.hid fun W hb => right_any x ad n cap z W hk (ho.below hb) hs hl h1 h2 _ rfl
  have HBARE := Lib.hid fun W => bare_any x.aid W hk
  rw [hb] at HBARE
  obtain ⟨k, cur, os⟩ := x
  simp only at HA HG HR HBARE ⊢
  have H0 := Lib.hid h0
  generalize iright _ z = R at *
  clear hk ho hs hl h1 h2 h0 hb
  go_enter Tryz.func27, Tryz.ntmps27
  go_upto_region 1 with (fail)
  generalize w.alloc (.cells #[.int .u8 (k : Int), .int .i64 cur, .slice ad n cap] 46) = w1 at *
  obtain ⟨c0, c1, c2⟩ := cells3 HG.out
  go_wp2_with fail
  with_reducible refine (HR.out _ HA.out).mono ?_
  rintro e w2 ⟨ev, rfl, hb, hE⟩
  obtain rfl := hE.none H0.out
  have K2 := kept_hid HA hb
  have G2 := Lib.hid (blk HG.out hb)
  have hlt := there_lt G2.out
  clear hb hE HR HG c0 c1 c2
  obtain ⟨c0, c1, c2⟩ := cells3 G2.out
  have HO := Lib.hid (own_lit w2 w.heap.size [k] (Nat.le_of_lt hlt) (by show 1 < 1000000; decide))
  have K3 := kept_alloc K2 (.cells (u8s [k]).toArray 5)
  go_wp2_with fail
  with_reducible refine (HBARE.out _).mono ?_
  rintro e w' ⟨rfl, rfl⟩
  go_wp2_with fail
  go_ret2
  exact ⟨_, _, rfl, K3.out, HO.out⟩
set_option maxRecDepth 100000 in
set_option maxHeartbeats 8000000 in
theorem write_flds (x : I) (ad : Option Addr) (n cap z : Nat) (w : World) (hk : x.aid < 256) (ho : FldsIn w 0 (.slice ad n cap) x.fs) (hs : Sound x.fs) (hl : x.fs.length < 1000000) (h1 : 1 ≤ z) (h2 : z ≤ 16383) (h0 : (iright x z).1 = 0) (hb : bare x.aid = false) (c : Nat) (hc : x.cur = (c : Int)) (hcz : c < z) (hfw : (fw z (x.fs.length == 1) 0 x.fs).1 = 0) :
    Calls Tryz.prog 27 #[.agg #[.int .u8 (x.aid : Int), .int .i64 x.cur, .slice ad n cap], .int .i64 (z : Int)] w fun e w' => ∃ va m cp ev, e = .returned (.tuple #[.slice va m cp, ev]) ∧ Below w.heap.size w w' ∧
      (((fbs z x.fs).length + 3 ≤ 8192 ∧ ev = .nilIface ∧ m = (fbs z x.fs).length + 3 ∧ w'.ownsRow w.heap.size 5 1 (.slice va m cp) m (u8s (x.aid :: Adr.first c z :: Adr.second c z :: fbs z x.fs))) ∨
       (8192 < (fbs z x.fs).length + 3 ∧ ev = .iface 71 (.int .i64 6) ∧ va = none ∧ m = 0 ∧ cp = 0)) := by
  obtain rfl := ho.len
  have HA := Lib.hid (al_any w (.cells #[.int .u8 (x.aid : Int), .int .i64 x.cur, .slice ad x.fs.length cap] 46))
  have HG := Lib.hid (heap_alloc_new w (.cells #[.int .u8 (x.aid : Int), .int .i64 x.cur, .slice ad x.fs.length cap] 46))
  have HR := Lib.hid fun W hb => right_any x ad x.fs.length cap z W hk (ho.below hb) hs hl h1 h2 _ rfl
  have HBARE := Lib.hid fun W => bare_any x.aid W hk
  rw [hb] at HBARE
  have HP := Lib.hid fun W => putAddr_any c z W hcz h2
  have HF := Lib.hid (fw_all x.fs 0 hfw)
  obtain ⟨k, cur, os⟩ := x
  simp only at HA HG HR HBARE HF hc ho hs hl ⊢
  subst hc
  have HO := Lib.hid ho
  have HS := Lib.hid hs
  have HL := Lib.hid hl
  have HZ2 := Lib.hid h2
  have H0 := Lib.hid h0
  generalize iright _ z = R at *
  generalize (os.length == 1) = alone at *
  generalize Adr.first c z = q1 at *
  generalize Adr.second c z = q2 at *
  clear hk ho hs hl h1 h2 h0 hb hcz hfw
  go_enter Tryz.func27, Tryz.ntmps27
  go_upto_region 1 with (fail)
  generalize w.alloc (.cells #[.int .u8 (k : Int), .int .i64 (c : Int), .slice ad os.length cap] 46) = w1 at *
  obtain ⟨c0, c1, c2⟩ := cells3 HG.out
  go_wp2_with fail
  with_reducible refine (HR.out _ HA.out).mono ?_
  rintro e w2 ⟨ev, rfl, hb, hE⟩
  obtain rfl := hE.none H0.out
  have K2 := kept_hid HA hb
  have G2 := Lib.hid (blk HG.out hb)
  clear hb hE HR HG c0 c1 c2
  obtain ⟨c0, c1, c2⟩ := cells3 G2.out
  have hlt := there_lt G2.out
  have HO2 := Lib.hid (own_lit w2 w2.heap.size [k] (Nat.le_refl _) (by show 1 < 1000000; decide))
  have A3 := al_any w2 (.cells (u8s [k]).toArray 5)
  have K3 := kept_hid K2 A3
  have G3 := Lib.hid (blk G2.out A3)
  have B3 := Lib.hid A3.size
  have HLT := Lib.hid hlt
  clear A3 G2
  go_wp2_with fail
  clear hlt c0 c1 c2
  have HO3 : Hid ((w2.alloc (.cells #[.int .u8 (k : Int)] 5)).ownsRow w2.heap.size 5 1 (.slice (some ⟨w2.heap.size, 0, none⟩) 1 1) 1 (u8s [k])) := HO2
  have K3 : Hid (Below w.heap.size w (w2.alloc (.cells #[.int .u8 (k : Int)] 5))) := K3
  have G3 : Hid ((w2.alloc (.cells #[.int .u8 (k : Int)] 5)).heap[w.heap.size]? = some (.cells #[.int .u8 (k : Int), .int .i64 (c : Int), .slice ad os.length cap] 46 (0, 0))) := G3
  have B3 : Hid (w2.heap.size ≤ (w2.alloc (.cells #[.int .u8 (k : Int)] 5)).heap.size) := B3
  have HB2 := Lib.hid K2.out.size
  clear HO2 K2
  generalize w2.alloc (.cells #[.int .u8 (k : Int)] 5) = w3 at *
  generalize w2.heap.size = L at *
  with_reducible refine (HBARE.out _).mono ?_
  rintro e w' ⟨rfl, rfl⟩
  obtain ⟨c0, c1, c2⟩ := cells3 G3.out
  go_wp2_with fail
  with_reducible refine (HP.out _).mono ?_
  rintro e w4 ⟨g, rfl, hB4, hb⟩
  have HO4 := Lib.hid (own_below HO3.out hb)
  have K4 := kept_hid K3 hb
  have G4 := Lib.hid (blk G3.out hb)
  have B4 := Lib.hid (Nat.le_trans B3.out hb.size)
  have HS4 := Lib.hid (bytes_src hB4)
  clear hb hB4 HP HBARE c0 c1 c2 HO3 K3 G3 B3
  go_wp2_with (at_builtin; refine wpList_mark ?_)
  refine Lib.hid ?_
  refine append_own rfl (.tmp 23) (.tmp 27) rfl L _ 1 _ rfl HO4.out (some ⟨g, 0, none⟩) 2 2 [q1, q2] rfl rfl nofun HS4.out (by decide) B4.out ?_
  intro v5 w5 hown hgr _
  have HO5 := Lib.hid (show w5.ownsRow L 5 1 v5 3 (u8s [k, q1, q2]) from hown)
  have K5 := Lib.hid (below_own K4.out hgr (own_mono HO4.out HB2.out))
  have G5 := Lib.hid (blk_g G4.out hgr (by intro e; injection e with e; have h9 := HLT.out; simp only at e; omega))
  have B5 := Lib.hid (Nat.le_trans B4.out hgr.size)
  obtain ⟨va5, vc5, rfl⟩ := own_form HO5.out
  clear hown hgr HO4 K4 G4 B4 HS4
  obtain ⟨c0, c1, c2⟩ := cells3 G5.out
  go_wp2_with fail
  clear c0 c1 c2 G5
  go_loopg [7, 32] (os.length + 1) (fun m vb i wr => ∃ k' : Nat, k' ≤ os.length ∧ m = os.length + 1 - k' ∧ i = .int .i64 k' ∧ (∃ ba bc, vb = .slice ba ((fbs z (os.take k')).length + 3) bc ∧ Hid (wr.ownsRow L 5 1 (.slice ba ((fbs z (os.take k')).length + 3) bc) ((fbs z (os.take k')).length + 3) (u8s (k :: q1 :: q2 :: fbs z (os.take k'))))) ∧ Hid (Below w.heap.size w wr) ∧ Hid (L ≤ wr.heap.size) ∧ Hid ((fbs z (os.take k')).length + 3 ≤ 8192))
  case atStart => exact ⟨0, Nat.zero_le _, rfl, rfl, ⟨_, _, rfl, HO5⟩, K5, B5, Lib.hid (by show 3 ≤ 8192; decide)⟩
  case round =>
    clear HO5 K5 B5
    obtain ⟨j, hj, rfl, rfl, ⟨ba, bc, rfl, HO8⟩, HB, HBL, H8192⟩ := hrel
    have ew : IntKind.i64.wrap ((j : Int) + 1) = (j : Int) + 1 := by
      have := HL.out
      rw [IntWalk.i64_in] <;> omega
    by_cases hlt : j < os.length
    · obtain ⟨pa, pt, ex⟩ := f_eta (os.getD j noneF)
      obtain ⟨b1, o1, ta, tn, tc, rfl, g0, g1, B1, N1⟩ := (HO.out.below HB.out).cells hlt ex
      have lb1 := cell_lt g0
      have hi0 : (0 : Int) ≤ (j : Int) := by omega
      have hi1 : (j : Int) < (os.length : Int) := by omega
      have sx := sound_at HS.out j
      rw [ex] at sx
      have hfj := HF.out j hlt
      rw [ex] at hfj
      have HAL := Lib.hid (al_any wr (.cells #[.int .i64 pa, .slice ta tn tc] 67))
      have HPF := Lib.hid (putField_any (f := ⟨pa, pt⟩) alone ta tn tc z _ (bytes_below B1 HAL.out) N1 sx.2 hfj HZ2.out)
      have HTK := Lib.hid (show fbs z (os.take (j + 1)) = fbs z (os.take j) ++ fb z ⟨pa, pt⟩ by rw [fbs_take hlt, ex])
      have HFL := Lib.hid (show (fb z ⟨pa, pt⟩).length ≤ 1000003 by
        have h := sx.2
        unfold fb
        split
        · simp only [List.length_cons] at h ⊢; omega
        · simp only at h ⊢; omega)
      have HTL := Lib.hid (fbs_take_le z os (j + 1))
      clear B1 N1 sx hfj
      simp only at HPF
      generalize fb z ⟨pa, pt⟩ = bs at *
      go_wp2_with fail
      clear g0 g1 lb1
      with_reducible refine HPF.out.mono ?_
      rintro e w3 ⟨v, rfl, hown, hb⟩
      have K3 := kept_hid (kept_hid HB HAL.out) hb
      have HO3 := Lib.hid (own_below (own_below HO8.out HAL.out) hb)
      have B3 := Lib.hid (Nat.le_trans (Nat.le_trans HBL.out HAL.out.size) hb.size)
      obtain ⟨va, vc, rfl⟩ := own_form hown
      have HNN := Lib.hid (own_nil hown)
      have HSV := Lib.hid (bytes_src (own_bytes hown))
      clear hown hb HPF HAL HO8 HB HBL
      go_wp2_with (at_builtin; refine wpList_mark ?_)
      refine Lib.hid ?_
      refine append_own rfl (.tmp 36) (.tmp 39) rfl L _ _ _ rfl HO3.out va _ vc _ rfl rfl HNN.out HSV.out (by have h1 := H8192.out; have h2 := HFL.out; omega) B3.out ?_
      intro v2 w4 hown hgr _
      have K4 := Lib.hid (below_own K3.out hgr (own_mono HO3.out HB2.out))
      have B4 := Lib.hid (Nat.le_trans B3.out hgr.size)
      have HO4 := Lib.hid (show w4.ownsRow L 5 1 v2 ((fbs z (os.take (j + 1))).length + 3) (u8s (k :: q1 :: q2 :: fbs z (os.take (j + 1)))) by
        rw [HTK.out]
        have e1 : (fbs z (os.take j) ++ bs).length + 3 = (fbs z (os.take j)).length + 3 + bs.length := by rw [List.length_append]; omega
        rw [e1]
        have e2 : u8s (k :: q1 :: q2 :: (fbs z (os.take j) ++ bs)) = u8s (k :: q1 :: q2 :: fbs z (os.take j)) ++ u8s bs := by simp [u8s]
        rw [e2]; exact hown)
      have HLL := Lib.hid (show (fbs z (os.take j)).length + 3 + bs.length = (fbs z (os.take (j + 1))).length + 3 by rw [HTK.out, List.length_append]; omega)
      obtain ⟨va2, vc2, rfl⟩ := own_form HO4.out
      clear hown hgr K3 HO3 B3 HNN HSV HTK HFL H8192
      obtain ⟨T, hT⟩ : ∃ T, T = fbs z (os.take (j + 1)) := ⟨_, rfl⟩
      rw [← hT] at HO4 HLL HTL ⊢
      have HT := Lib.hid hT
      clear hT
      obtain ⟨M, hM⟩ : ∃ M, M = T.length + 3 := ⟨_, rfl⟩
      have HM := Lib.hid hM
      rw [← hM] at HO4 ⊢
      clear hM
      by_cases hbig : 8192 < M
      · have hb : (8192 : Int) < (M : Int) := by omega
        have HBG := Lib.hid hbig
        clear hbig
        go_wp2_with fail
        go_ret2
        exact ⟨_, _, _, _, rfl, K4.out, .inr ⟨by have := HTL.out; have := HBG.out; have := HM.out; omega, rfl, rfl, rfl, rfl⟩⟩
      · have hb : ¬ (8192 : Int) < (M : Int) := by omega
        have HBG := Lib.hid hbig
        clear hbig
        go_wp2_with fail
        go_roundg (os.length + 1 - (j + 1))
        case measure => omega
        case rel => exact ⟨j + 1, by omega, rfl, rfl, ⟨va2, vc2, by rw [← HT.out, HM.out], by rw [← HT.out, ← HM.out]; exact HO4⟩, K4, B4, Lib.hid (by rw [← HT.out, ← HM.out]; exact Nat.le_of_not_lt HBG.out)⟩
    · have hkl : j = os.length := by omega
      have HE := Lib.hid (show os.take j = os by rw [hkl]; exact List.take_length)
      rw [HE.out] at HO8 H8192 ⊢
      have hn0 : ¬ (j : Int) < (os.length : Int) := by omega
      clear hlt hkl hj
      obtain ⟨M, hM⟩ : ∃ M, M = (fbs z os).length + 3 := ⟨_, rfl⟩
      have HM := Lib.hid hM
      rw [← hM] at HO8 H8192 ⊢
      clear hM
      go_wp2_with fail
      go_ret2
      exact ⟨_, _, _, _, rfl, HB.out, .inl ⟨by have := H8192.out; have := HM.out; omega, rfl, HM.out, own_mono HO8.out HB2.out⟩⟩
/-- Write of whatever submission. -/
theorem write_any (x : I) (ad : Option Addr) (n cap z : Nat) (w : World) (hk : x.aid < 256) (ho : FldsIn w 0 (.slice ad n cap) x.fs) (hs : Sound x.fs) (hl : x.fs.length < 1000000) (h1 : 1 ≤ z) (h2 : z ≤ 16383) (R : List Nat × Nat × Int) (hR : R = iwrite x z) :
    Calls Tryz.prog 27 #[.agg #[.int .u8 (x.aid : Int), .int .i64 x.cur, .slice ad n cap], .int .i64 (z : Int)] w fun e w' => ∃ va cp ev, e = .returned (.tuple #[.slice va R.1.length cp, ev]) ∧ Below w.heap.size w w' ∧ Said w' ev R.2.1 R.2.2 ∧ w'.ownsRow w.heap.size 5 1 (.slice va R.1.length cp) R.1.length (u8s R.1) := by
  have hnil : ∀ W : World, W.ownsRow w.heap.size 5 1 (.slice none 0 0) 0 (u8s []) := fun W => by simpa [u8s] using World.ownsRow_nil W w.heap.size 5 1
  by_cases h0 : (iright x z).1 = 0
  · cases hb : bare x.aid with
    | true =>
      have e : R = ([x.aid], 0, -1) := by
        rw [hR]; unfold iwrite ibytes
        rw [if_neg (by rw [h0]; simp), if_pos hb, if_neg (by simp)]
      subst e
      refine (write_bare x ad n cap z w hk ho hs hl h1 h2 h0 hb).mono ?_
      rintro e w' ⟨va, cp, rfl, hb, hown⟩
      exact ⟨_, _, _, rfl, hb, said_0 _, hown⟩
    | false =>
      have h0' := h0
      unfold iright at h0'
      by_cases ha : aid x.aid = false
      · rw [if_pos ha] at h0'; cases h0'
      rw [if_neg ha, if_neg (by rw [hb]; decide)] at h0'
      by_cases hc : x.cur < 0 ∨ (z : Int) ≤ x.cur
      · rw [if_pos hc] at h0'; cases h0'
      rw [if_neg hc] at h0'
      by_cases hf : (fw z (x.fs.length == 1) 0 x.fs).1 ≠ 0
      · rw [if_pos hf] at h0'; exact absurd h0' hf
      have hf : (fw z (x.fs.length == 1) 0 x.fs).1 = 0 := Classical.not_not.1 hf
      have hcc : x.cur = ((x.cur.toNat : Nat) : Int) := (Int.toNat_of_nonneg (by omega)).symm
      have hib : ibytes x z = x.aid :: Adr.first x.cur.toNat z :: Adr.second x.cur.toNat z :: fbs z x.fs := by unfold ibytes; rw [if_neg (by rw [hb]; decide)]
      have e : R = if 8192 < (fbs z x.fs).length + 3 then ([], 6, -1) else (x.aid :: Adr.first x.cur.toNat z :: Adr.second x.cur.toNat z :: fbs z x.fs, 0, -1) := by
        rw [hR]; unfold iwrite
        rw [if_neg (by rw [h0]; simp), hib]
        simp only [List.length_cons]
      refine (write_flds x ad n cap z w hk ho hs hl h1 h2 h0 hb x.cur.toNat hcc (by omega) hf).mono ?_
      rintro e' w' ⟨va, m, cp, ev, rfl, hb, ⟨h3, rfl, rfl, hown⟩ | ⟨h3, rfl, rfl, rfl, rfl⟩⟩
      · rw [if_neg (by omega)] at e
        subst e
        exact ⟨_, _, _, rfl, hb, said_0 _, hown⟩
      · rw [if_pos h3] at e
        subst e
        exact ⟨_, _, _, rfl, hb, .inr ⟨by show (6 : Nat) ≠ 0; decide, .inl ⟨rfl, rfl⟩⟩, hnil _⟩
  · have e : R = ([], iright x z) := by
      rw [hR]; unfold iwrite; rw [if_pos h0]
    subst e
    refine (write_wrong x ad n cap z w hk ho hs hl h1 h2 _ rfl h0).mono ?_
    rintro e w' ⟨ev, rfl, hb, hS⟩
    exact ⟨_, _, _, rfl, hb, hS, hnil _⟩
end Inp
end Go.Proofs.YtpdlpmbjhopnnaaGreatDoor
/- Plain: what Write writes are bytes. -/
namespace Go.Proofs.YtpdlpmbjhopnnaaGreatDoor
open Go.RowKit Sha Cut Err Six Att Apd
namespace Inp
theorem iright_right {x : I} {z : Nat} (h : (iright x z).1 = 0) : (iright x z).2 = -1 := by
  unfold iright at h ⊢
  by_cases ha : aid x.aid = false
  · rw [if_pos ha] at h; cases h
  rw [if_neg ha] at h ⊢
  by_cases hb : bare x.aid = true
  · rw [if_pos hb] at h ⊢
    by_cases hn : x.cur ≠ 0 ∨ x.fs ≠ []
    · rw [if_pos hn] at h; cases h
    · rw [if_neg hn]
  rw [if_neg hb] at h ⊢
  by_cases hc : x.cur < 0 ∨ (z : Int) ≤ x.cur
  · rw [if_pos hc] at h; cases h
  rw [if_neg hc] at h ⊢
  by_cases hf : (fw z (x.fs.length == 1) 0 x.fs).1 ≠ 0
  · rw [if_pos hf] at h; exact absurd h hf
  · rw [if_neg hf]
theorem iwrite_right {x : I} {z : Nat} (h : (iwrite x z).2.1 = 0) : (iwrite x z).2.2 = -1 := by
  unfold iwrite at h ⊢
  by_cases h0 : (iright x z).1 ≠ 0
  · rw [if_pos h0] at h; exact absurd h h0
  rw [if_neg h0] at h ⊢
  by_cases h1 : 8192 < (ibytes x z).length
  · rw [if_pos h1] at h; cases h
  · rw [if_neg h1]
theorem iwrite_fails {x : I} {z : Nat} (h : (iwrite x z).2.1 ≠ 0) : (iwrite x z).1 = [] := by
  unfold iwrite at h ⊢
  by_cases h0 : (iright x z).1 ≠ 0
  · rw [if_pos h0]
  rw [if_neg h0] at h ⊢
  by_cases h1 : 8192 < (ibytes x z).length
  · rw [if_pos h1]
  · rw [if_neg h1] at h; exact absurd rfl h
theorem second_lt (a n : Nat) : Adr.second a n < 256 := by
  unfold Adr.second
  split
  · exact put_lt _ (Nat.mod_lt _ (by decide))
  · omega
theorem fbs_lt {z : Nat} (hz : z ≤ 16383) (alone : Bool) : ∀ (fs : List F) (i : Nat), (fw z alone i fs).1 = 0 → (∀ o ∈ fs, ∀ x ∈ o.t, x < 256) → ∀ y ∈ fbs z fs, y < 256 := by
  intro fs
  induction fs with
  | nil => intro i _ _ y hy; simp [fbs] at hy
  | cons f fs ih =>
    intro i h hs y hy
    have hw : fwrong z alone f = 0 := by
      by_cases hw : fwrong z alone f = 0
      · exact hw
      · simp [fw, hw] at h
    simp only [fw, hw, ne_eq, not_true_eq_false, if_false] at h
    simp only [fbs, List.mem_append] at hy
    rcases hy with hy | hy
    · unfold fb at hy
      split at hy
      · rename_i h0
        rcases fwrong_cases hw with ha | ⟨_, ha⟩
        · omega
        have hlt := And.intro (Adr.first_lt f.a.toNat z (by omega) hz) (second_lt f.a.toNat z)
        rcases List.mem_cons.1 hy with rfl | hy
        · omega
        rcases List.mem_cons.1 hy with rfl | hy
        · exact hlt.1
        rcases List.mem_cons.1 hy with rfl | hy
        · exact hlt.2
        · exact hs f (by simp) y hy
      · exact hs f (by simp) y hy
    · exact ih (i + 1) h (fun o ho => hs o (by simp [ho])) y hy
theorem iwrite_bytes {x : I} {z : Nat} (hz : z ≤ 16383) (hk : x.aid < 256) (hs : Sound x.fs) : (∀ y ∈ (iwrite x z).1, y < 256) ∧ (iwrite x z).1.length ≤ 8192 := by
  unfold iwrite
  by_cases h0 : (iright x z).1 ≠ 0
  · rw [if_pos h0]; simp
  rw [if_neg h0]
  by_cases h1 : 8192 < (ibytes x z).length
  · rw [if_pos h1]; simp
  rw [if_neg h1]
  refine ⟨fun y hy => ?_, by simpa using h1⟩
  have h0 := Classical.not_not.1 h0
  simp only at hy
  unfold ibytes at hy
  split at hy
  · simp only [List.mem_singleton] at hy; omega
  · rename_i hb
    unfold iright at h0
    by_cases ha : aid x.aid = false
    · rw [if_pos ha] at h0; cases h0
    rw [if_neg ha, if_neg hb] at h0
    by_cases hc : x.cur < 0 ∨ (z : Int) ≤ x.cur
    · rw [if_pos hc] at h0; cases h0
    rw [if_neg hc] at h0
    by_cases hf : (fw z (x.fs.length == 1) 0 x.fs).1 ≠ 0
    · rw [if_pos hf] at h0; exact absurd h0 hf
    have hf : (fw z (x.fs.length == 1) 0 x.fs).1 = 0 := Classical.not_not.1 hf
    have hlt := And.intro (Adr.first_lt x.cur.toNat z (by omega) hz) (second_lt x.cur.toNat z)
    rcases List.mem_cons.1 hy with rfl | hy
    · exact hk
    rcases List.mem_cons.1 hy with rfl | hy
    · exact hlt.1
    rcases List.mem_cons.1 hy with rfl | hy
    · exact hlt.2
    · exact fbs_lt hz _ x.fs 0 hf (fun o ho => (hs o ho).1) y hy
end Inp
end Go.Proofs.YtpdlpmbjhopnnaaGreatDoor
