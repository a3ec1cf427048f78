/- Plain: submissions, their bytes, and what bytes are as a submission. -/
import Derived.Test.YtpdlpmbjhopnnaaDoorBunPlain
namespace Go.Proofs.YtpdlpmbjhopnnaaDoor
open Six
namespace Inp
open Att Adr
/-- A field: the cell at which it begins (-1: at none), and its letters. -/
structure F where
  a : Int
  t : List Nat
/-- A submission: its key, the cursor, its fields. -/
structure I where
  aid : Nat
  cur : Int
  fs : List F
def noneF : F := ⟨0, []⟩
def noneI : I := ⟨0, 0, []⟩
/-- A character but 0. -/
def letter (b : Nat) : Bool := b != 0 && char b
/-- What is wrong with a field (0: nothing); alone: it is the one field. -/
def fwrong (z : Nat) (alone : Bool) (f : F) : Nat :=
  if (alone && f.a == -1) = false ∧ (f.a < 0 ∨ (z : Int) ≤ f.a) then 4
  else if f.t.all letter = false then 3
  else if (alone && f.a == -1) = true ∧ f.t = [] then 1
  else 0
/-- What is wrong with fields (0: nothing), and at which. -/
def fw (z : Nat) (alone : Bool) : Nat → List F → Nat × Nat
  | _, [] => (0, 0)
  | i, f :: fs => if fwrong z alone f ≠ 0 then (fwrong z alone f, i) else fw z alone (i + 1) fs
/-- A field's bytes. -/
def fb (z : Nat) (f : F) : List Nat := if 0 ≤ f.a then 17 :: first f.a.toNat z :: second f.a.toNat z :: f.t else f.t
/-- The fields' bytes, one behind the other. -/
def fbs (z : Nat) : List F → List Nat
  | [] => []
  | f :: fs => fb z f ++ fbs z fs
/-- What is wrong with a submission but its length (0: nothing), and where. -/
def iright (c : I) (z : Nat) : Nat × Int :=
  if aid c.aid = false then (3, -1)
  else if bare c.aid = true then if c.cur ≠ 0 ∨ c.fs ≠ [] then (1, -1) else (0, -1)
  else if c.cur < 0 ∨ (z : Int) ≤ c.cur then (4, -1)
  else if (fw z (c.fs.length == 1) 0 c.fs).1 ≠ 0 then ((fw z (c.fs.length == 1) 0 c.fs).1, ((fw z (c.fs.length == 1) 0 c.fs).2 : Int))
  else (0, -1)
/-- The bytes of a right submission. -/
def ibytes (c : I) (z : Nat) : List Nat := if bare c.aid = true then [c.aid] else c.aid :: first c.cur.toNat z :: second c.cur.toNat z :: fbs z c.fs
/-- A submission's bytes; or what is wrong, and where (-1: at no place). -/
def iwrite (c : I) (z : Nat) : List Nat × Nat × Int :=
  if (iright c z).1 ≠ 0 then ([], iright c z)
  else if 8192 < (ibytes c z).length then ([], 6, -1)
  else (ibytes c z, 0, -1)
/-- The letters that stand ahead of all else, and what stands behind them. -/
def lets (ys : List Nat) : List Nat := ys.takeWhile letter
def rest (ys : List Nat) : List Nat := ys.dropWhile letter
/-- The fields that bytes are (f: fuel, at_: their place); or what is wrong, and where. -/
def flds (z : Nat) : Nat → Nat → List Nat → List F × Nat × Nat
  | 0, at_, _ => ([], 0, at_)
  | _ + 1, at_, [] => ([], 0, at_)
  | f + 1, at_, y :: r =>
    if y ≠ 17 then ([], 3, at_)
    else if (aspec r z).2.1 ≠ 0 then ([], (aspec r z).2.1, at_ + 1)
    else if (flds z f (at_ + 3 + (lets (r.drop 2)).length) (rest (r.drop 2))).2.1 ≠ 0 then ([], (flds z f (at_ + 3 + (lets (r.drop 2)).length) (rest (r.drop 2))).2)
    else (⟨((aspec r z).1 : Int), lets (r.drop 2)⟩ :: (flds z f (at_ + 3 + (lets (r.drop 2)).length) (rest (r.drop 2))).1, (flds z f (at_ + 3 + (lets (r.drop 2)).length) (rest (r.drop 2))).2)
/-- The submission that bytes are; or what is wrong, and where. -/
def iread (ys : List Nat) (z : Nat) : I × Nat × Int :=
  if 8192 < ys.length then (noneI, 6, 8192)
  else match ys with
  | [] => (noneI, 2, 0)
  | c :: r =>
    if aid c = false then (noneI, 3, 0)
    else if bare c = true then if r ≠ [] then (noneI, 1, 1) else (⟨c, 0, []⟩, 0, -1)
    else if (aspec r z).2.1 ≠ 0 then (noneI, (aspec r z).2.1, 1)
    else if lets (r.drop 2) ≠ [] then if rest (r.drop 2) ≠ [] then (noneI, 3, 3 + (lets (r.drop 2)).length) else (⟨c, ((aspec r z).1 : Int), [⟨-1, r.drop 2⟩]⟩, 0, -1)
    else if (flds z r.length 3 (r.drop 2)).2.1 ≠ 0 then (noneI, (flds z r.length 3 (r.drop 2)).2.1, ((flds z r.length 3 (r.drop 2)).2.2 : Int))
    else (⟨c, ((aspec r z).1 : Int), (flds z r.length 3 (r.drop 2)).1⟩, 0, -1)
theorem letter_17 : letter 17 = false := by decide
theorem lets_rest (ys : List Nat) : lets ys ++ rest ys = ys := List.takeWhile_append_dropWhile
theorem lets_all (ys : List Nat) : (lets ys).all letter = true := by
  rw [List.all_eq_true]; intro x hx
  unfold lets at hx
  induction ys with
  | nil => simp at hx
  | cons y r ih =>
    simp only [List.takeWhile] at hx
    cases h : letter y with
    | false => simp [h] at hx
    | true =>
      simp only [h, List.mem_cons] at hx
      rcases hx with rfl | hx
      · exact h
      · exact ih hx
theorem rest_head {ys : List Nat} {y : Nat} {r : List Nat} (h : rest ys = y :: r) : letter y = false := by
  unfold rest at h
  induction ys with
  | nil => simp at h
  | cons x xs ih =>
    simp only [List.dropWhile] at h
    cases hx : letter x with
    | true => rw [hx] at h; exact ih h
    | false => rw [hx] at h; injection h with h _; rw [← h]; exact hx
theorem lets_app {t u : List Nat} (ht : t.all letter = true) (hu : ∀ y r, u = y :: r → letter y = false) : lets (t ++ u) = t ∧ rest (t ++ u) = u := by
  induction t with
  | nil =>
    cases u with
    | nil => simp [lets, rest]
    | cons y r => have := hu y r rfl; simp [lets, rest, this]
  | cons x t ih =>
    simp only [List.all_cons, Bool.and_eq_true] at ht
    have := ih ht.2
    simp only [lets, rest] at this
    simp [lets, rest, ht.1, this]
/-- Fields with addresses, as they are written, begin with 17. -/
theorem fbs_head {z : Nat} {fs : List F} (h : ∀ f ∈ fs, 0 ≤ f.a) : ∀ y r, fbs z fs = y :: r → letter y = false := by
  intro y r he
  cases fs with
  | nil => simp [fbs] at he
  | cons f fs =>
    have h0 := h f (by simp)
    simp only [fbs, fb, if_pos h0, List.cons_append] at he
    injection he with he _
    rw [← he]; exact letter_17
/-- Fields with addresses that are written are read as they were. -/
theorem flds_put (z : Nat) (hz : z ≤ 16383) (alone : Bool) : ∀ (fs : List F) (i f at_ : Nat), (∀ x ∈ fs, 0 ≤ x.a) → (fw z alone i fs).1 = 0 → (fbs z fs).length ≤ f → flds z f at_ (fbs z fs) = (fs, 0, at_ + (fbs z fs).length) := by
  intro fs
  induction fs with
  | nil => intro i f at_ _ _ _; cases f <;> simp [fbs, flds]
  | cons x fs ih =>
    intro i f at_ h0 h hf
    have hw : fwrong z alone x = 0 := by
      by_cases hw : fwrong z alone x = 0
      · exact hw
      · simp [fw, hw] at h
    simp only [fw, hw, ne_eq, not_true_eq_false, if_false] at h
    have hx := h0 x (by simp)
    have hs := fun y hy => h0 y (List.mem_cons_of_mem _ hy)
    have hne : (alone && x.a == -1) = false := by
      have : (x.a == -1) = false := by simp; omega
      simp [this]
    have hlt : x.a < (z : Int) := by
      by_cases hh : x.a < 0 ∨ (z : Int) ≤ x.a
      · simp [fwrong, hne, hh] at hw
      · omega
    have hall : x.t.all letter = true := by
      cases hh : x.t.all letter with
      | true => rfl
      | false => exfalso; unfold fwrong at hw; rw [if_neg (by omega), if_pos hh] at hw; cases hw
    simp only [fbs, fb, if_pos hx, List.cons_append, List.length_cons, List.length_append] at hf ⊢
    have hl := lets_app (u := fbs z fs) hall (fbs_head hs)
    cases f with
    | zero => omega
    | succ f =>
      have ha := aspec_put x.a.toNat z (x.t ++ fbs z fs) (by omega) hz
      have h2 := ih (i + 1) f (at_ + 3 + x.t.length) hs h (by omega)
      simp only [flds, ne_eq, not_true_eq_false, if_false, ha, List.drop_succ_cons, List.drop_zero, hl.1, hl.2, h2]
      obtain ⟨a, t⟩ := x
      have : ((a.toNat : Nat) : Int) = a := Int.toNat_of_nonneg hx
      simp [this]; omega
/-- Fields that are read are written as they stood, and have addresses. -/
theorem flds_written (z : Nat) (alone : Bool) : ∀ (f : Nat) (ys : List Nat) (i at_ : Nat), (∀ y ∈ ys, y < 256) → ys.length ≤ f → (flds z f at_ ys).2.1 = 0 →
    (fw z alone i (flds z f at_ ys).1).1 = 0 ∧ fbs z (flds z f at_ ys).1 = ys ∧ ∀ x ∈ (flds z f at_ ys).1, 0 ≤ x.a := by
  intro f
  induction f with
  | zero => intro ys i at_ _ hl _; have : ys = [] := List.eq_nil_of_length_eq_zero (by omega); subst this; simp [flds, fw, fbs]
  | succ f ih =>
    intro ys i at_ h8 hl h
    cases ys with
    | nil => simp [flds, fw, fbs]
    | cons y r =>
      by_cases h17 : y = 17
      · subst h17
        by_cases ha : (aspec r z).2.1 = 0
        · obtain ⟨a, r2, haz, hz, hr, hsp⟩ := put_aspec r z (fun x hx => h8 x (List.mem_cons_of_mem _ hx)) ha
          simp only [flds, ne_eq, not_true_eq_false, if_false, hsp] at h ⊢
          have hd : r.drop 2 = r2 := by rw [hr]; rfl
          rw [hd] at h ⊢
          by_cases h2 : (flds z f (at_ + 3 + (lets r2).length) (rest r2)).2.1 = 0
          · rw [if_neg (by rw [h2]; simp)]
            have hlr := lets_rest r2
            have hlen := congrArg List.length hlr
            simp only [List.length_append] at hlen
            have hrl := congrArg List.length hr
            simp only [List.length_cons] at hl hrl
            have hk := ih (rest r2) (i + 1) (at_ + 3 + (lets r2).length) (fun x hx => h8 x (by
              rw [hr, ← hlr]; simp [hx])) (by omega) h2
            have hfw : fwrong z alone ⟨(a : Int), lets r2⟩ = 0 := by
              have hna : ((a : Int) == -1) = false := by simp
              simp only [fwrong, hna, Bool.and_false, lets_all]
              rw [if_neg (by omega)]; simp
            refine ⟨?_, ?_, ?_⟩
            · simp only [fw, hfw, ne_eq, not_true_eq_false, if_false]
              exact hk.1
            · simp only [fbs, fb, if_pos (show (0 : Int) ≤ (a : Int) by omega), Int.toNat_natCast, hk.2.1, List.cons_append, hlr]
              rw [← hr]
            · intro x hx
              rcases List.mem_cons.mp hx with rfl | hx
              · simp
              · exact hk.2.2 x hx
          · rw [if_pos h2] at h; exact absurd h h2
        · simp [flds, ha] at h
      · simp [flds, h17] at h
/-- Each field is right: it is at a cell, or it is the one field at none. -/
theorem fw_pos {z : Nat} : ∀ (fs : List F) (i : Nat), (fw z false i fs).1 = 0 → ∀ x ∈ fs, 0 ≤ x.a := by
  intro fs
  induction fs with
  | nil => intro i _ x hx; cases hx
  | cons y fs ih =>
    intro i h x hx
    have hw : fwrong z false y = 0 := by
      by_cases hw : fwrong z false y = 0
      · exact hw
      · simp [fw, hw] at h
    simp only [fw, hw, ne_eq, not_true_eq_false, if_false] at h
    rcases List.mem_cons.mp hx with rfl | hx
    · by_cases hh : x.a < 0
      · simp [fwrong, hh] at hw
      · omega
    · exact ih (i + 1) h x hx
/-- The fields of a right submission: all at cells, or the one field of letters alone. -/
theorem fw_cases {z : Nat} {fs : List F} (h : (fw z (fs.length == 1) 0 fs).1 = 0) : (∀ x ∈ fs, 0 ≤ x.a) ∨ ∃ t, fs = [⟨-1, t⟩] ∧ t.all letter = true ∧ t ≠ [] := by
  by_cases h1 : fs.length = 1
  · match fs, h1 with
    | [x], _ =>
      obtain ⟨a, t⟩ := x
      by_cases ha : a = -1
      · subst ha
        right
        refine ⟨t, rfl, ?_⟩
        simp only [fw, fwrong, List.length_singleton, beq_self_eq_true, Bool.and_self] at h
        cases hh : t.all letter with
        | false => simp [hh] at h
        | true =>
          refine ⟨rfl, ?_⟩
          rintro rfl
          simp at h
      · left
        intro x hx
        simp only [List.mem_singleton] at hx
        subst hx
        have hna : (a == -1) = false := by simpa using ha
        by_cases hh : a < 0
        · simp [fw, fwrong, hna, hh] at h
        · show 0 ≤ a; omega
  · left
    have : (fs.length == 1) = false := by simpa using h1
    rw [this] at h
    exact fw_pos fs 0 h
/-- A submission that is written is read as it was. -/
theorem iread_write {c : I} {z : Nat} (hz : z ≤ 16383) (h : (iwrite c z).2.1 = 0) : iread (iwrite c z).1 z = (c, 0, -1) := by
  obtain ⟨k, cur, fs⟩ := c
  unfold iwrite at h ⊢
  by_cases hr : (iright ⟨k, cur, fs⟩ z).1 = 0
  · rw [if_neg (by rw [hr]; simp)] at h ⊢
    by_cases hl : 8192 < (ibytes ⟨k, cur, fs⟩ z).length
    · rw [if_pos hl] at h; cases h
    rw [if_neg hl]
    unfold iread
    rw [if_neg hl]
    unfold iright at hr
    unfold ibytes at hl ⊢
    simp only at hr hl ⊢
    cases ha : aid k with
    | false => simp [ha] at hr
    | true =>
      simp only [ha, Bool.true_eq_false, if_false] at hr
      cases hb : bare k with
      | true =>
        simp only [hb, if_true] at hr ⊢
        by_cases hn : cur ≠ 0 ∨ fs ≠ []
        · rw [if_pos hn] at hr; cases hr
        · have h1 : cur = 0 := by by_cases h1 : cur = 0; exact h1; exact absurd (.inl h1) hn
          have h2 : fs = [] := by by_cases h2 : fs = []; exact h2; exact absurd (.inr h2) hn
          subst h1 h2
          simp [ha]
      | false =>
        simp only [hb, Bool.false_eq_true, if_false] at hr hl ⊢
        by_cases hc : cur < 0 ∨ (z : Int) ≤ cur
        · rw [if_pos hc] at hr; cases hr
        · rw [if_neg hc] at hr
          by_cases hw : (fw z (fs.length == 1) 0 fs).1 = 0
          · have hp := aspec_put cur.toNat z (fbs z fs) (by omega) hz
            have hcc : ((cur.toNat : Nat) : Int) = cur := Int.toNat_of_nonneg (by omega)
            simp only [ha, Bool.true_eq_false, if_false, hp, ne_eq, not_true_eq_false, List.drop_succ_cons, List.drop_zero, hcc]
            rcases fw_cases hw with hpos | ⟨t, rfl, ht, hne⟩
            · have hl0 := lets_app (t := []) (u := fbs z fs) rfl (fbs_head hpos)
              simp only [List.nil_append] at hl0
              rw [if_neg (by rw [hl0.1]; simp)]
              have hf := flds_put z hz (fs.length == 1) fs 0 ((first cur.toNat z :: second cur.toNat z :: fbs z fs).length) 3 hpos hw (by simp only [List.length_cons]; omega)
              rw [if_neg (by rw [hf]; simp), hf]
            · have hl0 := lets_app (t := t) (u := []) ht (by intro y r h; cases h)
              simp only [List.append_nil] at hl0
              have e : fbs z [⟨-1, t⟩] = t := by simp [fbs, fb]
              rw [e, if_pos (by rw [hl0.1]; exact hne), if_neg (by rw [hl0.2]; simp)]
          · rw [if_pos hw] at hr; exact absurd hr hw
  · rw [if_pos hr] at h; exact absurd h hr
/-- A submission that is read is written as it stood, and is right. -/
theorem iwrite_read {ys : List Nat} {z : Nat} (h8 : ∀ y ∈ ys, y < 256) (h : (iread ys z).2.1 = 0) : iwrite (iread ys z).1 z = (ys, 0, -1) ∧ iright (iread ys z).1 z = (0, -1) := by
  unfold iread at h ⊢
  by_cases hl : 8192 < ys.length
  · rw [if_pos hl] at h; cases h
  rw [if_neg hl] at h ⊢
  cases ys with
  | nil => cases h
  | cons c r =>
    simp only at h ⊢
    cases ha : aid c with
    | false => simp [ha] at h
    | true =>
      simp only [ha, Bool.true_eq_false, if_false] at h ⊢
      cases hb : bare c with
      | true =>
        simp only [hb, if_true] at h ⊢
        by_cases hn : r = []
        · subst hn
          simp [iwrite, iright, ibytes, ha, hb]
        · simp [hn] at h
      | false =>
        simp only [hb, Bool.false_eq_true, if_false] at h ⊢
        by_cases hs : (aspec r z).2.1 = 0
        · obtain ⟨a, r2, haz, hz, hr, hsp⟩ := put_aspec r z (fun x hx => h8 x (List.mem_cons_of_mem _ hx)) hs
          have hd : r.drop 2 = r2 := by rw [hr]; rfl
          rw [if_neg (by rw [hs]; simp)] at h ⊢
          rw [hd] at h ⊢
          have hrl := congrArg List.length hr
          simp only [List.length_cons] at hrl hl
          have key : ∀ fs : List F, (fw z (fs.length == 1) 0 fs).1 = 0 → fbs z fs = r2 → iwrite ⟨c, ((aspec r z).1 : Int), fs⟩ z = (c :: r, 0, -1) ∧ iright ⟨c, ((aspec r z).1 : Int), fs⟩ z = (0, -1) := by
            intro fs h1 h2
            have hri : iright ⟨c, ((aspec r z).1 : Int), fs⟩ z = (0, -1) := by
              unfold iright
              simp only [ha, hb, Bool.true_eq_false, Bool.false_eq_true, if_false, hsp]
              rw [if_neg (by omega), if_neg (by rw [h1]; simp)]
            refine ⟨?_, hri⟩
            unfold iwrite
            rw [hri, if_neg (by simp)]
            have hib : ibytes ⟨c, ((aspec r z).1 : Int), fs⟩ z = c :: r := by
              unfold ibytes
              simp only [hb, Bool.false_eq_true, if_false, hsp, h2, Int.toNat_natCast]
              rw [← hr]
            rw [hib, if_neg (by simpa using hl)]
          by_cases h3 : lets r2 = []
          · rw [if_neg (by rw [h3]; simp)] at h ⊢
            by_cases h4 : (flds z r.length 3 r2).2.1 = 0
            · rw [if_neg (by rw [h4]; simp)]
              have hk := flds_written z ((flds z r.length 3 r2).1.length == 1) r.length r2 0 3 (fun x hx => h8 x (by rw [hr]; simp [hx])) (by omega) h4
              exact key _ hk.1 hk.2.1
            · rw [if_pos h4] at h; exact absurd h h4
          · rw [if_pos (by simpa using h3)] at h ⊢
            by_cases h5 : rest r2 = []
            · rw [if_neg (by rw [h5]; simp)]
              have hlr := lets_rest r2
              rw [h5, List.append_nil] at hlr
              have hall : r2.all letter = true := by rw [← hlr]; exact lets_all r2
              have hne : r2 ≠ [] := by rintro rfl; exact h3 (by simp [lets])
              refine key _ ?_ (by simp [fbs, fb])
              have hfw : fwrong z true ⟨-1, r2⟩ = 0 := by
                unfold fwrong
                rw [if_neg (by simp), if_neg (by rw [hall]; decide), if_neg (by simpa using hne)]
              simp [fw, hfw]
            · rw [if_pos (by simpa using h5)] at h; cases h
        · rw [if_pos hs] at h; exact absurd h hs
/-- Two submissions that can be written are one just if their bytes are. -/
theorem iwrite_inj {c d : I} {z : Nat} (hz : z ≤ 16383) (h : (iwrite c z).2.1 = 0) (h' : (iwrite d z).2.1 = 0) : (iwrite c z).1 = (iwrite d z).1 ↔ c = d := by
  constructor
  · intro e
    have h1 := iread_write hz h
    have h2 := iread_write hz h'
    rw [e, h2] at h1
    exact (congrArg Prod.fst h1).symm
  · rintro rfl; rfl
/-- How many bytes a field has. -/
def flen (f : F) : Nat := f.t.length + if 0 ≤ f.a then 3 else 0
def flens : List F → Nat
  | [] => 0
  | f :: fs => flen f + flens fs
theorem fbs_len (z : Nat) (fs : List F) : (fbs z fs).length = flens fs := by
  induction fs with
  | nil => rfl
  | cons f fs ih =>
    simp only [fbs, flens, List.length_append, ih, fb, flen]
    split <;> simp
theorem ibytes_len (c : I) (z : Nat) : (ibytes c z).length = if bare c.aid = true then 1 else 3 + flens c.fs := by
  unfold ibytes
  split
  · rfl
  · simp only [List.length_cons, fbs_len]; omega
end Inp
end Go.Proofs.YtpdlpmbjhopnnaaDoor
