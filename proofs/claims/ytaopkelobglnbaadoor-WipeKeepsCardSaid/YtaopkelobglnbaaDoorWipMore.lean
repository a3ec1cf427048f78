/- Plain: keys that wipe, one behind the other, and behind a letter. -/
import Derived.Test.YtaopkelobglnbaaDoorWipSpec
namespace Go.Proofs.YtaopkelobglnbaaDoor
set_option linter.unusedVariables false
namespace Wip
open Grd Fld Edt
/-- The characters behind q deletions. -/
def dv (s : S) (k q i : Nat) : Nat := if i + q < lineLen s.cs k then ch s k (i + q) else 0
/-- The screen behind q deletions. -/
def dels (s : S) (k q : Nat) : S := if q = 0 then s else wl s k (dv s k q)
theorem dels_step {s : S} {k q : Nat} (hcur : s.cur = (k : Int)) (hk : k < s.cs.length) (hlk : s.lk = false) (ho : open_ s.cs k = true) : wdo (dels s k q) 12 = (dels s k (q + 1), 0, -1) := by
  unfold dels
  by_cases hq : q = 0
  · subst hq
    rw [if_pos rfl, if_neg (by omega)]
    rw [wdo_0 (by decide) hlk (by decide) (by rw [hcur]; exact ho), hcur]
    rw [show ((k : Int)).toNat = k from rfl, wl_congr (v' := dv s k 1) fun i hi => ?_]
    unfold wv dv
    simp
  · rw [if_neg hq, if_neg (by omega)]
    have ha := wl_alikn hk (dv s k q)
    rw [wdo_0 (s := wl s k (dv s k q)) (kind := 12) (by decide) hlk (by decide) (by show open_ (wl s k (dv s k q)).cs s.cur.toNat = true; rw [hcur, alike_open ha.1]; exact ho)]
    show (wl (wl s k (dv s k q)) s.cur.toNat (wv (wl s k (dv s k q)) s.cur.toNat 12), 0, -1) = _
    rw [hcur, show ((k : Int)).toNat = k from rfl, wl_wl hk, wl_congr (v' := dv s k (q + 1)) fun i hi => ?_]
    unfold wv
    rw [show lineLen (wl s k (dv s k q)).cs k = lineLen s.cs k by rw [← line_length, wl_line hk, line_length]]
    by_cases h1 : i + 1 < lineLen s.cs k
    · rw [if_pos ⟨rfl, h1⟩, ch_wl hk _ h1]
      unfold dv
      rw [show i + 1 + q = i + (q + 1) by omega]
    · rw [if_neg (fun h => h1 h.2)]
      unfold dv
      rw [if_neg (by omega)]
/-- As many deletions as the line has cells are as erasing to its end. -/
theorem dels_all {s : S} {k : Nat} (hcur : s.cur = (k : Int)) (hk : k < s.cs.length) (hlk : s.lk = false) (ho : open_ s.cs k = true) : wdo s 13 = (dels s k (lineLen s.cs k), 0, -1) := by
  have := (lineLen_pos hk ho).1
  unfold dels
  rw [if_neg (by omega), wdo_0 (by decide) hlk (by decide) (by rw [hcur]; exact ho), hcur, show ((k : Int)).toNat = k from rfl, wl_congr (v' := dv s k (lineLen s.cs k)) fun i hi => ?_]
  unfold wv dv
  rw [if_neg (fun h => absurd h.1 (by decide)), if_neg (by omega)]
theorem ends_twice {s : S} {k : Nat} (hcur : s.cur = (k : Int)) (hk : k < s.cs.length) (hlk : s.lk = false) (ho : open_ s.cs k = true) : wdo (wdo s 13).1 13 = wdo s 13 := by
  rw [wdo_0 (by decide) hlk (by decide) (by rw [hcur]; exact ho), hcur, show ((k : Int)).toNat = k from rfl]
  have ha := wl_alikn hk (wv s k 13)
  show wdo (wl s k (wv s k 13)) 13 = _
  rw [wdo_0 (s := wl s k (wv s k 13)) (kind := 13) (by decide) hlk (by decide) (by show open_ (wl s k _).cs s.cur.toNat = true; rw [hcur, alike_open ha.1]; exact ho)]
  show (wl (wl s k (wv s k 13)) s.cur.toNat (wv (wl s k (wv s k 13)) s.cur.toNat 13), 0, -1) = _
  rw [hcur, show ((k : Int)).toNat = k from rfl, wl_wl hk, wl_congr (v' := wv s k 13) fun i hi => ?_]
  unfold wv
  rw [if_neg (fun h => absurd h.1 (by decide)), if_neg (fun h => absurd h.1 (by decide))]
theorem wall_twice (s : S) : wall (wall s) = wall s := by
  have e : Hst.hclean (wall s) = Hst.hclean (Hst.hclean s) := rfl
  show ({ Hst.hclean (wall s) with ins := s.ins } : S) = _
  rw [e, Hst.hclean_twice]; rfl
theorem alls_twice {s : S} (hlk : s.lk = false) : wdo s 14 = (wall s, 0, -1) ∧ wdo (wall s) 14 = (wall s, 0, -1) := by
  refine ⟨wdo_14 hlk, ?_⟩
  rw [wdo_14 (show (wall s).lk = false from rfl), wall_twice]
/-- A letter put by putq is one of these. -/
theorem putq_wq (l : List Nat) (cs : List C) (c : Nat) : ∀ q, putq l cs c q = wq l (chr cs l c) cs q
  | 0 => rfl
  | q + 1 => by rw [putq, wq, putq_wq l cs c q]
/-- A letter typed with Insert where the line's first empty cell is its last one. -/
theorem laid_wl {s : S} {k c : Nat} (hk : k < s.cs.length) (ho : open_ s.cs k = true) (hf : far s k + 1 = lineLen s.cs k) : ({ s with cs := laid s k c } : S) = wl s k (fun i => if i = 0 then c else ch s k (i - 1)) := by
  have e : lineTo s k = line s.cs k := by
    unfold lineTo
    rw [List.take_of_length_le (by rw [line_length]; omega)]
  have h := putq_laid (c := c) hk ho
  rw [e, putq_wq, hf, ← line_length] at h
  unfold wl
  rw [← h, wq_congr (l := line s.cs k) (cs := (modif s k).cs) (v := chr (modif s k).cs (line s.cs k) c) (v' := fun i => if i = 0 then c else ch s k (i - 1)) _ fun i hi => ?_]
  unfold chr ch
  by_cases h0 : i = 0
  · rw [if_pos h0, if_pos h0]
  · rw [if_neg h0, if_neg h0, modif_at hk, if_neg (line_nb hk (by rw [line_length] at hi; omega))]
/-- What is typed with Insert and deleted there; what is erased to the end can be typed anew. -/
theorem undoes {s : S} {k c : Nat} (hr : sright s = true) (hcur : s.cur = (k : Int)) (hk : k < s.cs.length) (hi : s.ins = true) (hl : ∀ i, i < lineLen s.cs k → (ch s k i = 0 ↔ i + 1 = lineLen s.cs k)) (ht : (typ s c).2.1 = 0) :
    s.lk = false ∧ sright { (typ s c).1 with cur := s.cur } = true ∧ (wdo { (typ s c).1 with cur := s.cur } 12) = (modif s k, 0, -1) ∧ ∃ v, wdo { (typ s c).1 with cur := s.cur } 13 = (v, 0, -1) ∧ v.cs.length = s.cs.length ∧ sright v = true ∧ (typ v c).2.1 = 0 := by
  rcases typ_cases s c with ⟨code, _, h0, h | h⟩ | ⟨h, c1, c2, c3, c4, c5⟩
  · rw [h] at ht; exact absurd ht h0
  · rw [h] at ht; exact absurd ht h0
  obtain ⟨j, hj⟩ := c5 hi
  obtain ⟨j1, j2, j3⟩ := free_some hj
  rw [hcur, show ((k : Int)).toNat = k from rfl] at h c3 c4 hj j1 j2 j3
  rw [line_length] at j1
  have hjl : j + 1 = lineLen s.cs k := (hl j j1).1 j2
  have hfar : far s k = j := by unfold far; rw [hi, hj]; rfl
  have hwl := laid_wl (c := c) hk c3 (by omega)
  have et : ({ (typ s c).1 with cur := s.cur } : S) = wl s k (fun i => if i = 0 then c else ch s k (i - 1)) := by rw [h, ← hwl]; rfl
  rw [et]
  have hrt : sright (wl s k (fun i => if i = 0 then c else ch s k (i - 1))) = true := wl_right hr hk fun i hi' => by
    split
    · exact (ltr_char c1).1
    · exact ch_char hr hk (by omega)
  generalize hv : (fun i => if i = 0 then c else ch s k (i - 1)) = v at *
  have ha := wl_alikn hk v
  have hll : lineLen (wl s k v).cs k = lineLen s.cs k := by rw [← line_length, wl_line hk, line_length]
  have hop : open_ (wl s k v).cs (wl s k v).cur.toNat = true := by
    show open_ (wl s k v).cs s.cur.toNat = true
    rw [hcur, alike_open ha.1]; exact c3
  have hck : (wl s k v).cur.toNat = k := by show s.cur.toNat = k; rw [hcur]; rfl
  refine ⟨c2, hrt, ?_, wl s k (wv (wl s k v) k 13), ?_, wl_length _ _ _, ?_, ?_⟩
  · rw [wdo_0 (s := wl s k v) (kind := 12) (by decide) c2 (by decide) hop, hck, wl_wl hk, wl_own hk fun i hi' => ?_]
    unfold wv
    rw [hll]
    by_cases h1 : i + 1 < lineLen s.cs k
    · rw [if_pos ⟨rfl, h1⟩, ch_wl hk v h1, ← hv]
      simp
    · rw [if_neg (fun h => h1 h.2), (hl i hi').2 (by omega)]
  · rw [wdo_0 (s := wl s k v) (kind := 13) (by decide) c2 (by decide) hop, hck, wl_wl hk]
  · exact wl_right hr hk fun i hi' => by
      unfold wv
      rw [if_neg (fun h => absurd h.1 (by decide))]
      exact char_zero
  · generalize hu : wv (wl s k v) k 13 = u
    have hu0 : ∀ i, u i = 0 := fun i => by
      rw [← hu]; unfold wv
      rw [if_neg (fun h => absurd h.1 (by decide))]
    have hb := wl_alikn hk u
    have hlp := (lineLen_pos hk c3).1
    have hfr : ∃ j, free (wl s k u).cs (line (wl s k u).cs k) = some j := by
      cases hf : free (wl s k u).cs (line (wl s k u).cs k) with
      | some j => exact ⟨j, rfl⟩
      | none =>
        have := free_none hf 0 (by rw [wl_line hk, line_length]; exact hlp)
        rw [wl_line hk, (wl_at hk u).1 0 hlp] at this
        exact absurd (hu0 0) this
    obtain ⟨j', hj'⟩ := hfr
    have hck2 : (wl s k u).cur.toNat = k := by show s.cur.toNat = k; rw [hcur]; rfl
    unfold typ
    simp only
    rw [hck2, if_neg (by rw [c1]; decide), if_neg (by show ¬ s.lk = true; rw [c2]; decide), if_neg (by rw [alike_open hb.1, c3]; decide), (alikn_attr hb k).1, if_neg (by rw [c4]; decide), if_neg (by rw [hj']; simp)]
/-- What changes: open cells, and whether attributes are modified; but of all input, in the cursor's own field alone, whose attribute is modified then. -/
theorem wdo_change {s : S} {k : Nat} {kind : Int} (hcur : s.cur = (k : Int)) (hk : k < s.cs.length) {i : Nat} (hi : i < s.cs.length) (h : (wdo s kind).1.cs.getD i noC ≠ s.cs.getD i noC) :
    (wdo s kind).2.1 = 0 ∧ (kind = 14 ∨ begin_ s.cs i = begin_ s.cs k) ∧
    (((s.cs.getD i noC).f = true ∧ { (wdo s kind).1.cs.getD i noC with m := (s.cs.getD i noC).m } = s.cs.getD i noC) ∨ ((s.cs.getD i noC).f = false ∧ open_ s.cs i = true ∧ ((wdo s kind).1.cs.getD i noC).f = false)) := by
  rcases wdo_cases s kind with ⟨code, _, h' | h'⟩ | ⟨hk14, _, h'⟩ | ⟨_, _, ho, h'⟩
  · rw [h'] at h; exact absurd rfl h
  · rw [h'] at h; exact absurd rfl h
  · rw [h'] at h ⊢
    refine ⟨rfl, .inl hk14, ?_⟩
    have e := Hst.hclean_getD s i hi
    change (Hst.hclean s).cs.getD i noC ≠ _ at h
    show ((s.cs.getD i noC).f = true ∧ { (Hst.hclean s).cs.getD i noC with m := (s.cs.getD i noC).m } = s.cs.getD i noC) ∨ ((s.cs.getD i noC).f = false ∧ open_ s.cs i = true ∧ ((Hst.hclean s).cs.getD i noC).f = false)
    rw [e] at h ⊢
    cases hop : open_ s.cs i with
    | true =>
      right
      have hf := open_nfat hop
      rw [if_pos rfl]
      exact ⟨hf, rfl, ((Hst.unmod_fp false _).1).trans hf⟩
    | false =>
      left
      rw [hop, if_neg (by decide)] at h
      rw [if_neg (by decide)]
      unfold Hst.unmod at h ⊢
      generalize s.cs.getD i noC = o at *
      obtain ⟨f, p, n, q, m, c⟩ := o
      simp only at h ⊢
      split at h
      · rename_i h2
        rw [if_pos h2]
        simp only [Bool.and_eq_true] at h2
        exact ⟨h2.1, rfl⟩
      · exact absurd rfl h
  · rw [h'] at h ⊢
    rw [hcur, show ((k : Int)).toNat = k from rfl] at h ho ⊢
    refine ⟨rfl, ?_⟩
    obtain ⟨h1, h2, h3⟩ := wl_at hk (wv s k kind)
    by_cases hbi : begin_ s.cs k = (i : Int)
    · obtain ⟨b, hb, _, hbf⟩ := begin_fat hk (by omega)
      have : b = i := by omega
      subst this
      refine ⟨.inr (by rw [hbi]; exact begin_self hi hbf), .inl ⟨hbf, ?_⟩⟩
      show { (wl s k (wv s k kind)).cs.getD b noC with m := (s.cs.getD b noC).m } = _
      rw [h2 b hbi]
    · by_cases hq : ∃ q, q < lineLen s.cs k ∧ i = (line s.cs k).getD q 0
      · obtain ⟨q, hq, rfl⟩ := hq
        have hx := line_cell hk hq
        rw [← line_getD hq] at hx
        have hf := open_nfat hx.2
        refine ⟨.inr hx.1, .inr ⟨hf, hx.2, ?_⟩⟩
        show ((wl s k (wv s k kind)).cs.getD _ noC).f = false
        rw [h1 q hq]; exact hf
      · exact absurd (h3 i hbi fun q hq' he => hq ⟨q, hq', he⟩) h
/-- The field's attribute is modified then. -/
theorem wdo_mod {s : S} {k : Nat} {kind : Int} (hcur : s.cur = (k : Int)) (hk : k < s.cs.length) (h : (wdo s kind).2.1 = 0) (h2 : kind ≠ 14) {b : Nat} (hb : begin_ s.cs k = (b : Int)) : ((wdo s kind).1.cs.getD b noC).m = true := by
  rcases wdo_cases s kind with ⟨code, h0, h' | h'⟩ | ⟨hk14, _, h'⟩ | ⟨_, _, ho, h'⟩
  · rw [h'] at h; exact absurd h h0
  · rw [h'] at h; exact absurd h h0
  · exact absurd hk14 h2
  · rw [h', hcur, show ((k : Int)).toNat = k from rfl]
    show ((wl s k (wv s k kind)).cs.getD b noC).m = true
    rw [(wl_at hk _).2.1 b hb]
theorem dels_length (s : S) (k q : Nat) : (dels s k q).cs.length = s.cs.length := by
  unfold dels; split
  · rfl
  · exact wl_length _ _ _
theorem dels_form (s : S) (k q : Nat) : dels s k q = ⟨s.rows, s.cols, (dels s k q).cs, s.cur, s.lk, s.ins⟩ := by
  unfold dels; split <;> rfl
theorem dels_right {s : S} (h : sright s = true) {k : Nat} (hk : k < s.cs.length) (q : Nat) : sright (dels s k q) = true := by
  unfold dels; split
  · exact h
  · refine wl_right h hk fun i hi => ?_
    unfold dv; split
    · rename_i h2; exact ch_char h hk h2
    · exact char_zero
/-- Erasing to the end behind deletions. -/
theorem ends_any {s : S} {k : Nat} (hcur : s.cur = (k : Int)) (hk : k < s.cs.length) (hlk : s.lk = false) (ho : open_ s.cs k = true) (q : Nat) : wdo (dels s k q) 13 = (dels s k (lineLen s.cs k), 0, -1) := by
  have hp := (lineLen_pos hk ho).1
  by_cases hq : q = 0
  · subst hq; exact dels_all hcur hk hlk ho
  · have e : dels s k q = wl s k (dv s k q) := by unfold dels; rw [if_neg hq]
    have e2 : dels s k (lineLen s.cs k) = wl s k (dv s k (lineLen s.cs k)) := by unfold dels; rw [if_neg (by omega)]
    rw [e, e2]
    have ha := wl_alikn hk (dv s k q)
    rw [wdo_0 (s := wl s k (dv s k q)) (kind := 13) (by decide) hlk (by decide) (by show open_ (wl s k (dv s k q)).cs s.cur.toNat = true; rw [hcur, alike_open ha.1]; exact ho)]
    show (wl (wl s k (dv s k q)) s.cur.toNat (wv (wl s k (dv s k q)) s.cur.toNat 13), 0, -1) = _
    rw [hcur, show ((k : Int)).toNat = k from rfl, wl_wl hk, wl_congr (v' := dv s k (lineLen s.cs k)) fun i hi => ?_]
    unfold wv dv
    rw [if_neg (fun h => absurd h.1 (by decide)), if_neg (by omega)]
end Wip
end Go.Proofs.YtaopkelobglnbaaDoor
