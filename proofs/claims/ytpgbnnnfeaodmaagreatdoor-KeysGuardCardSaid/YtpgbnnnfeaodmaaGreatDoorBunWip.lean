/- WipSpec, WipMore in one text (by tools/bundle.py). -/
import Derived.Test.YtpgbnnnfeaodmaaGreatDoorBunEdp
import Derived.Test.YtpgbnnnfeaodmaaGreatDoorBunHst
/- Plain: what is deleted and erased. -/
namespace Go.Proofs.YtpgbnnnfeaodmaaGreatDoor
set_option linter.unusedVariables false
namespace Wip
open Grd Fld Edt
/-- The first q cells of a list get these characters. -/
def wq (l : List Nat) (v : Nat → Nat) (cs : List C) : Nat → List C
  | 0 => cs
  | q + 1 => (wq l v cs q).set (l.getD q 0) { (wq l v cs q).getD (l.getD q 0) noC with c := v q }
theorem wq_length (l : List Nat) (v : Nat → Nat) (cs : List C) : ∀ q, (wq l v cs q).length = cs.length
  | 0 => rfl
  | q + 1 => by rw [wq, List.length_set, wq_length l v cs q]
theorem wq_at {l : List Nat} {cs : List C} {v : Nat → Nat} (hl : ∀ i, i < l.length → l.getD i 0 < cs.length) (hd : ∀ i j, i < l.length → j < l.length → l.getD i 0 = l.getD j 0 → i = j) : ∀ q, q ≤ l.length →
    (∀ i, i < q → (wq l v cs q).getD (l.getD i 0) noC = { cs.getD (l.getD i 0) noC with c := v i }) ∧ ∀ x, (∀ i, i < q → x ≠ l.getD i 0) → (wq l v cs q).getD x noC = cs.getD x noC
  | 0, _ => ⟨fun i h => absurd h (Nat.not_lt_zero _), fun _ _ => rfl⟩
  | q + 1, hq => by
    obtain ⟨h1, h2⟩ := wq_at (v := v) hl hd q (by omega)
    have h3 : (wq l v cs q).getD (l.getD q 0) noC = cs.getD (l.getD q 0) noC := h2 _ fun i hi he => by
      have := hd _ _ (show q < l.length by omega) (show i < l.length by omega) he
      omega
    refine ⟨fun i hi => ?_, fun x hx => ?_⟩
    · rw [wq, Edt.getD_set, h3]
      by_cases hiq : i = q
      · subst hiq; rw [if_pos ⟨rfl, by rw [wq_length]; exact hl _ (by omega)⟩]
      · rw [if_neg (fun h => by have := hd _ _ (show q < l.length by omega) (show i < l.length by omega) h.1; omega)]
        exact h1 i (by omega)
    · rw [wq, Edt.getD_set, if_neg (fun h => hx q (by omega) h.1.symm)]
      exact h2 x fun i hi => hx i (by omega)
theorem wq_congr {l : List Nat} {v v' : Nat → Nat} {cs : List C} : ∀ q, (∀ i, i < q → v i = v' i) → wq l v cs q = wq l v' cs q
  | 0, _ => rfl
  | q + 1, h => by rw [wq, wq, wq_congr q (fun i hi => h i (by omega)), h q (by omega)]
/-- The i-th character of the cell's line. -/
def ch (s : S) (k i : Nat) : Nat := (s.cs.getD ((line s.cs k).getD i 0) noC).c
/-- The line's characters are these, the field modified. -/
def wl (s : S) (k : Nat) (v : Nat → Nat) : S := { s with cs := wq (line s.cs k) v (modif s k).cs (line s.cs k).length }
theorem line_hl {s : S} {k : Nat} (hk : k < s.cs.length) : ∀ i, i < (line s.cs k).length → (line s.cs k).getD i 0 < (modif s k).cs.length := fun i hi => by
  rw [line_length] at hi
  rw [line_getD hi, modif_length]; exact on_lt (by omega) _ _
theorem line_hd {s : S} {k : Nat} (hk : k < s.cs.length) : ∀ i j, i < (line s.cs k).length → j < (line s.cs k).length → (line s.cs k).getD i 0 = (line s.cs k).getD j 0 → i = j := fun i j hi hj he => by
  rw [line_length] at hi hj
  rw [line_getD hi, line_getD hj] at he
  exact line_inj hk hi hj he
theorem wl_length (s : S) (k : Nat) (v : Nat → Nat) : (wl s k v).cs.length = s.cs.length := by
  show (wq _ _ _ _).length = _
  rw [wq_length, modif_length]
/-- A line's cell is not where its field begins. -/
theorem line_nb {cs : List C} {k : Nat} (hk : k < cs.length) {q : Nat} (hq : q < lineLen cs k) : begin_ cs k ≠ (((line cs k).getD q 0 : Nat) : Int) := fun he => by
  obtain ⟨b, hb, hbl, hbf⟩ := begin_fat hk (by rw [he]; omega)
  rw [line_getD hq] at he
  have e : b = on cs.length (k : Int) (q : Int) := by rw [hb] at he; omega
  have := open_nfat (line_cell hk hq).2
  rw [← e, hbf] at this; cases this
/-- Each cell then. -/
theorem wl_at {s : S} {k : Nat} (hk : k < s.cs.length) (v : Nat → Nat) :
    (∀ i, i < lineLen s.cs k → (wl s k v).cs.getD ((line s.cs k).getD i 0) noC = { s.cs.getD ((line s.cs k).getD i 0) noC with c := v i }) ∧
    (∀ x : Nat, begin_ s.cs k = (x : Int) → (wl s k v).cs.getD x noC = { s.cs.getD x noC with m := true }) ∧
    ∀ x : Nat, begin_ s.cs k ≠ (x : Int) → (∀ i, i < lineLen s.cs k → x ≠ (line s.cs k).getD i 0) → (wl s k v).cs.getD x noC = s.cs.getD x noC := by
  obtain ⟨h1, h2⟩ := wq_at (v := v) (line_hl hk) (line_hd hk) (line s.cs k).length (Nat.le_refl _)
  have hll := line_length s.cs k
  refine ⟨fun i hi => ?_, fun x hx => ?_, fun x hx hn => ?_⟩
  · refine (h1 i (by omega)).trans ?_
    rw [modif_at hk, if_neg (line_nb hk hi)]
  · refine (h2 x fun i hi he => ?_).trans ?_
    · exact line_nb hk (show i < lineLen s.cs k by omega) (by rw [← he]; exact hx)
    · rw [modif_at hk, if_pos hx]
  · refine (h2 x fun i hi => hn i (by omega)).trans ?_
    rw [modif_at hk, if_neg hx]
theorem wl_cell {s : S} {k : Nat} (hk : k < s.cs.length) (v : Nat → Nat) (i : Nat) : ∃ m x, (wl s k v).cs.getD i noC = { s.cs.getD i noC with m := m, c := x } := by
  obtain ⟨h1, h2, h3⟩ := wl_at hk v
  by_cases hb : begin_ s.cs k = (i : Int)
  · exact ⟨_, _, h2 i hb⟩
  · by_cases hq : ∃ q, q < lineLen s.cs k ∧ i = (line s.cs k).getD q 0
    · obtain ⟨q, hq, rfl⟩ := hq
      exact ⟨_, _, h1 q hq⟩
    · refine ⟨(s.cs.getD i noC).m, (s.cs.getD i noC).c, ?_⟩
      rw [h3 i hb fun q hq' he => hq ⟨q, hq', he⟩]
theorem wl_alikn {s : S} {k : Nat} (hk : k < s.cs.length) (v : Nat → Nat) : Alikn (wl s k v).cs s.cs := by
  refine ⟨⟨wl_length s k v, fun i => ?_⟩, fun i => ?_⟩ <;> obtain ⟨m, x, h⟩ := wl_cell hk v i <;> rw [h]
  exact ⟨rfl, rfl⟩
/-- Lines of screens whose fields are alike are the same. -/
theorem alike_line {xs ys : List C} (h : Fld.Alike xs ys) (a : Nat) : line xs a = line ys a := by
  unfold line lineLen
  rw [h.1, alike_open h, any_congr h, alike_clen h]
theorem wl_congr {s : S} {k : Nat} {v v' : Nat → Nat} (h : ∀ i, i < lineLen s.cs k → v i = v' i) : wl s k v = wl s k v' := by
  unfold wl
  rw [wq_congr _ (fun i hi => h i (by rw [← line_length]; exact hi))]
theorem s_ext {s t : S} (h1 : s.rows = t.rows) (h2 : s.cols = t.cols) (h3 : s.cs = t.cs) (h4 : s.cur = t.cur) (h5 : s.lk = t.lk) (h6 : s.ins = t.ins) : s = t := by
  obtain ⟨r, c, cs, cur, lk, ins⟩ := s
  obtain ⟨r', c', cs', cur', lk', ins'⟩ := t
  simp only at h1 h2 h3 h4 h5 h6
  subst h1 h2 h3 h4 h5 h6
  rfl
theorem wl_line {s : S} {k : Nat} (hk : k < s.cs.length) (v : Nat → Nat) : line (wl s k v).cs k = line s.cs k := alike_line (wl_alikn hk v).1 k
/-- A line's characters stored twice. -/
theorem wl_wl {s : S} {k : Nat} (hk : k < s.cs.length) (v v' : Nat → Nat) : wl (wl s k v) k v' = wl s k v' := by
  have ha := wl_alikn hk v
  have hkv : k < (wl s k v).cs.length := by rw [wl_length]; exact hk
  have hl := wl_line hk v
  have hll : lineLen (wl s k v).cs k = lineLen s.cs k := by rw [← line_length, hl, line_length]
  have hb : begin_ (wl s k v).cs k = begin_ s.cs k := alike_begin ha.1 k
  obtain ⟨h1, h2, h3⟩ := wl_at hk v
  obtain ⟨g1, g2, g3⟩ := wl_at hk v'
  obtain ⟨d1, d2, d3⟩ := wl_at hkv v'
  rw [hl, hll] at d1 d3
  rw [hb] at d2 d3
  refine s_ext rfl rfl (c_ext (by rw [wl_length, wl_length, wl_length]) fun i hi => ?_) rfl rfl rfl
  by_cases hbi : begin_ s.cs k = (i : Int)
  · rw [d2 i hbi, h2 i hbi, g2 i hbi]
  · by_cases hq : ∃ q, q < lineLen s.cs k ∧ i = (line s.cs k).getD q 0
    · obtain ⟨q, hq, rfl⟩ := hq
      rw [d1 q hq, h1 q hq, g1 q hq]
    · have hn : ∀ q, q < lineLen s.cs k → i ≠ (line s.cs k).getD q 0 := fun q hq' he => hq ⟨q, hq', he⟩
      rw [d3 i hbi hn, h3 i hbi hn, g3 i hbi hn]
/-- A line's own characters stored. -/
theorem wl_own {s : S} {k : Nat} (hk : k < s.cs.length) {v : Nat → Nat} (h : ∀ i, i < lineLen s.cs k → v i = ch s k i) : wl s k v = modif s k := by
  obtain ⟨h1, h2, h3⟩ := wl_at hk v
  obtain ⟨m1, m2, m3, m4, m5⟩ := modif_rest s k
  refine s_ext m1.symm m2.symm (c_ext (by rw [wl_length, modif_length]) fun i hi => ?_) m3.symm m4.symm m5.symm
  rw [modif_at hk]
  by_cases hbi : begin_ s.cs k = (i : Int)
  · rw [h2 i hbi, if_pos hbi]
  · rw [if_neg hbi]
    by_cases hq : ∃ q, q < lineLen s.cs k ∧ i = (line s.cs k).getD q 0
    · obtain ⟨q, hq, rfl⟩ := hq
      rw [h1 q hq, h q hq]; rfl
    · exact h3 i hbi fun q hq' he => hq ⟨q, hq', he⟩
theorem ch_wl {s : S} {k : Nat} (hk : k < s.cs.length) (v : Nat → Nat) {i : Nat} (hi : i < lineLen s.cs k) : ch (wl s k v) k i = v i := by
  unfold ch
  rw [wl_line hk v, (wl_at hk v).1 i hi]
def isWipe (kind : Int) : Bool := decide (12 ≤ kind) && decide (kind ≤ 14)
/-- The line's characters behind a deletion (12), or an erasure. -/
def wv (s : S) (k : Nat) (kind : Int) (i : Nat) : Nat := if kind = 12 ∧ i + 1 < lineLen s.cs k then ch s k (i + 1) else 0
/-- All input. -/
def wall (s : S) : S := { Hst.hclean s with ins := s.ins }
/-- What a key that wipes makes: the screen, the error's number (0: none), its place. -/
def wdo (s : S) (kind : Int) : S × Nat × Int :=
  if isWipe kind = false then (s, 1, -1)
  else if s.lk then (s, 7, -1)
  else if kind = 14 then (wall s, 0, -1)
  else if open_ s.cs s.cur.toNat = false then (deny s, 8, s.cur)
  else (wl s s.cur.toNat (wv s s.cur.toNat kind), 0, -1)
theorem wdo_1 {s : S} {kind : Int} (h : isWipe kind = false) : wdo s kind = (s, 1, -1) := by unfold wdo; rw [if_pos h]
theorem wdo_7 {s : S} {kind : Int} (h : isWipe kind = true) (h2 : s.lk = true) : wdo s kind = (s, 7, -1) := by unfold wdo; rw [if_neg (by rw [h]; decide), if_pos h2]
theorem wdo_14 {s : S} (h2 : s.lk = false) : wdo s 14 = (wall s, 0, -1) := by unfold wdo; rw [if_neg (by decide), if_neg (by rw [h2]; decide), if_pos rfl]
theorem wdo_8 {s : S} {kind : Int} (h : isWipe kind = true) (h2 : s.lk = false) (h3 : kind ≠ 14) (h4 : open_ s.cs s.cur.toNat = false) : wdo s kind = (deny s, 8, s.cur) := by unfold wdo; rw [if_neg (by rw [h]; decide), if_neg (by rw [h2]; decide), if_neg h3, if_pos h4]
theorem wdo_0 {s : S} {kind : Int} (h : isWipe kind = true) (h2 : s.lk = false) (h3 : kind ≠ 14) (h4 : open_ s.cs s.cur.toNat = true) : wdo s kind = (wl s s.cur.toNat (wv s s.cur.toNat kind), 0, -1) := by unfold wdo; rw [if_neg (by rw [h]; decide), if_neg (by rw [h2]; decide), if_neg h3, if_neg (by rw [h4]; decide)]
/-- The cases of a key that wipes. -/
theorem wdo_cases (s : S) (kind : Int) : ((∃ code : Nat, code ≠ 0 ∧ (wdo s kind = (s, code, -1) ∨ wdo s kind = (deny s, code, s.cur)))) ∨ (kind = 14 ∧ s.lk = false ∧ wdo s kind = (wall s, 0, -1)) ∨ (kind ≠ 14 ∧ s.lk = false ∧ open_ s.cs s.cur.toNat = true ∧ wdo s kind = (wl s s.cur.toNat (wv s s.cur.toNat kind), 0, -1)) := by
  cases h1 : isWipe kind with
  | false => exact .inl ⟨1, by decide, .inl (wdo_1 h1)⟩
  | true =>
    cases h2 : s.lk with
    | true => exact .inl ⟨7, by decide, .inl (wdo_7 h1 h2)⟩
    | false =>
      by_cases h3 : kind = 14
      · subst h3; exact .inr (.inl ⟨rfl, rfl, wdo_14 h2⟩)
      · cases h4 : open_ s.cs s.cur.toNat with
        | false => exact .inl ⟨8, by decide, .inr (wdo_8 h1 h2 h3 h4)⟩
        | true => exact .inr (.inr ⟨h3, rfl, rfl, wdo_0 h1 h2 h3 h4⟩)
theorem wall_length (s : S) : (wall s).cs.length = s.cs.length := Hst.hclean_length s
theorem wdo_length (s : S) (kind : Int) : (wdo s kind).1.cs.length = s.cs.length ∧ (wdo s kind).1.rows = s.rows ∧ (wdo s kind).1.cols = s.cols := by
  rcases wdo_cases s kind with ⟨code, _, h | h⟩ | ⟨_, _, h⟩ | ⟨_, _, _, h⟩ <;> rw [h]
  · exact ⟨rfl, rfl, rfl⟩
  · exact ⟨rfl, rfl, rfl⟩
  · exact ⟨wall_length s, rfl, rfl⟩
  · exact ⟨wl_length _ _ _, rfl, rfl⟩
theorem char_zero : Att.char 0 = true := by decide +kernel
theorem ch_char {s : S} (h : sright s = true) {k i : Nat} (hk : k < s.cs.length) (hi : i < lineLen s.cs k) : Att.char (ch s k i) = true := by
  unfold ch
  have hx := (line_cell hk hi).2
  rw [← line_getD hi] at hx
  exact (cright_char (cell_right h (by rw [line_getD hi]; exact on_lt (by omega) _ _)) (open_nfat hx)).1
theorem wl_right {s : S} (h : sright s = true) {k : Nat} (hk : k < s.cs.length) {v : Nat → Nat} (hv : ∀ i, i < lineLen s.cs k → Att.char (v i) = true) : sright (wl s k v) = true := by
  obtain ⟨_, _, g3, g4, _⟩ := sright_parts h
  refine Hst.sright_of h rfl rfl (wl_length s k v) (fun o ho => ?_) g3 g4 s.lk s.ins
  obtain ⟨i, hi, rfl⟩ := Pnt.mem_getD ho
  rw [wl_length] at hi
  obtain ⟨h1, h2, h3⟩ := wl_at hk v
  show cright ((wl s k v).cs.getD i noC) = true
  by_cases hbi : begin_ s.cs k = (i : Int)
  · rw [h2 i hbi]
    obtain ⟨b, hb, _, hbf⟩ := begin_fat hk (by omega)
    have : b = i := by omega
    subst this
    exact cright_mod (cell_right h hi) hbf
  · by_cases hq : ∃ q, q < lineLen s.cs k ∧ i = (line s.cs k).getD q 0
    · obtain ⟨q, hq, rfl⟩ := hq
      rw [h1 q hq]
      have hx := (line_cell hk hq).2
      rw [← line_getD hq] at hx
      exact (cright_char (cell_right h hi) (open_nfat hx)).2 _ (hv q hq)
    · rw [h3 i hbi fun q hq' he => hq ⟨q, hq', he⟩]; exact cell_right h hi
theorem wv_char {s : S} (h : sright s = true) {k : Nat} (hk : k < s.cs.length) (kind : Int) {i : Nat} (hi : i < lineLen s.cs k) : Att.char (wv s k kind i) = true := by
  unfold wv
  split
  · rename_i h2; exact ch_char h hk h2.2
  · exact char_zero
theorem wdo_right {s : S} (h : sright s = true) (kind : Int) : sright (wdo s kind).1 = true := by
  obtain ⟨k, e1, e2, hk⟩ := cur_nat h
  rcases wdo_cases s kind with ⟨code, _, h' | h'⟩ | ⟨_, _, h'⟩ | ⟨_, _, ho, h'⟩ <;> rw [h']
  · exact h
  · exact deny_right h
  · exact Hst.hclean_right h
  · rw [e2]; exact wl_right h hk fun i hi => wv_char h hk kind hi
end Wip
end Go.Proofs.YtpgbnnnfeaodmaaGreatDoor
/- Plain: keys that wipe, one behind the other, and behind a letter. -/
namespace Go.Proofs.YtpgbnnnfeaodmaaGreatDoor
set_option linter.unusedVariables false
namespace Wip
open Grd Fld Edt
/-- The characters behind q deletions. -/
def dv (s : S) (k q i : Nat) : Nat := if i + q < lineLen s.cs k then ch s k (i + q) else 0
/-- The screen behind q deletions. -/
def dels (s : S) (k q : Nat) : S := if q = 0 then s else wl s k (dv s k q)
theorem dels_step {s : S} {k q : Nat} (hcur : s.cur = (k : Int)) (hk : k < s.cs.length) (hlk : s.lk = false) (ho : open_ s.cs k = true) : wdo (dels s k q) 12 = (dels s k (q + 1), 0, -1) := by
  unfold dels
  by_cases hq : q = 0
  · subst hq
    rw [if_pos rfl, if_neg (by omega)]
    rw [wdo_0 (by decide) hlk (by decide) (by rw [hcur]; exact ho), hcur]
    rw [show ((k : Int)).toNat = k from rfl, wl_congr (v' := dv s k 1) fun i hi => ?_]
    unfold wv dv
    simp
  · rw [if_neg hq, if_neg (by omega)]
    have ha := wl_alikn hk (dv s k q)
    rw [wdo_0 (s := wl s k (dv s k q)) (kind := 12) (by decide) hlk (by decide) (by show open_ (wl s k (dv s k q)).cs s.cur.toNat = true; rw [hcur, alike_open ha.1]; exact ho)]
    show (wl (wl s k (dv s k q)) s.cur.toNat (wv (wl s k (dv s k q)) s.cur.toNat 12), 0, -1) = _
    rw [hcur, show ((k : Int)).toNat = k from rfl, wl_wl hk, wl_congr (v' := dv s k (q + 1)) fun i hi => ?_]
    unfold wv
    rw [show lineLen (wl s k (dv s k q)).cs k = lineLen s.cs k by rw [← line_length, wl_line hk, line_length]]
    by_cases h1 : i + 1 < lineLen s.cs k
    · rw [if_pos ⟨rfl, h1⟩, ch_wl hk _ h1]
      unfold dv
      rw [show i + 1 + q = i + (q + 1) by omega]
    · rw [if_neg (fun h => h1 h.2)]
      unfold dv
      rw [if_neg (by omega)]
/-- As many deletions as the line has cells are as erasing to its end. -/
theorem dels_all {s : S} {k : Nat} (hcur : s.cur = (k : Int)) (hk : k < s.cs.length) (hlk : s.lk = false) (ho : open_ s.cs k = true) : wdo s 13 = (dels s k (lineLen s.cs k), 0, -1) := by
  have := (lineLen_pos hk ho).1
  unfold dels
  rw [if_neg (by omega), wdo_0 (by decide) hlk (by decide) (by rw [hcur]; exact ho), hcur, show ((k : Int)).toNat = k from rfl, wl_congr (v' := dv s k (lineLen s.cs k)) fun i hi => ?_]
  unfold wv dv
  rw [if_neg (fun h => absurd h.1 (by decide)), if_neg (by omega)]
theorem ends_twice {s : S} {k : Nat} (hcur : s.cur = (k : Int)) (hk : k < s.cs.length) (hlk : s.lk = false) (ho : open_ s.cs k = true) : wdo (wdo s 13).1 13 = wdo s 13 := by
  rw [wdo_0 (by decide) hlk (by decide) (by rw [hcur]; exact ho), hcur, show ((k : Int)).toNat = k from rfl]
  have ha := wl_alikn hk (wv s k 13)
  show wdo (wl s k (wv s k 13)) 13 = _
  rw [wdo_0 (s := wl s k (wv s k 13)) (kind := 13) (by decide) hlk (by decide) (by show open_ (wl s k _).cs s.cur.toNat = true; rw [hcur, alike_open ha.1]; exact ho)]
  show (wl (wl s k (wv s k 13)) s.cur.toNat (wv (wl s k (wv s k 13)) s.cur.toNat 13), 0, -1) = _
  rw [hcur, show ((k : Int)).toNat = k from rfl, wl_wl hk, wl_congr (v' := wv s k 13) fun i hi => ?_]
  unfold wv
  rw [if_neg (fun h => absurd h.1 (by decide)), if_neg (fun h => absurd h.1 (by decide))]
theorem wall_twice (s : S) : wall (wall s) = wall s := by
  have e : Hst.hclean (wall s) = Hst.hclean (Hst.hclean s) := rfl
  show ({ Hst.hclean (wall s) with ins := s.ins } : S) = _
  rw [e, Hst.hclean_twice]; rfl
theorem alls_twice {s : S} (hlk : s.lk = false) : wdo s 14 = (wall s, 0, -1) ∧ wdo (wall s) 14 = (wall s, 0, -1) := by
  refine ⟨wdo_14 hlk, ?_⟩
  rw [wdo_14 (show (wall s).lk = false from rfl), wall_twice]
/-- A letter put by putq is one of these. -/
theorem putq_wq (l : List Nat) (cs : List C) (c : Nat) : ∀ q, putq l cs c q = wq l (chr cs l c) cs q
  | 0 => rfl
  | q + 1 => by rw [putq, wq, putq_wq l cs c q]
/-- A letter typed with Insert where the line's first empty cell is its last one. -/
theorem laid_wl {s : S} {k c : Nat} (hk : k < s.cs.length) (ho : open_ s.cs k = true) (hf : far s k + 1 = lineLen s.cs k) : ({ s with cs := laid s k c } : S) = wl s k (fun i => if i = 0 then c else ch s k (i - 1)) := by
  have e : lineTo s k = line s.cs k := by
    unfold lineTo
    rw [List.take_of_length_le (by rw [line_length]; omega)]
  have h := putq_laid (c := c) hk ho
  rw [e, putq_wq, hf, ← line_length] at h
  unfold wl
  rw [← h, wq_congr (l := line s.cs k) (cs := (modif s k).cs) (v := chr (modif s k).cs (line s.cs k) c) (v' := fun i => if i = 0 then c else ch s k (i - 1)) _ fun i hi => ?_]
  unfold chr ch
  by_cases h0 : i = 0
  · rw [if_pos h0, if_pos h0]
  · rw [if_neg h0, if_neg h0, modif_at hk, if_neg (line_nb hk (by rw [line_length] at hi; omega))]
/-- What is typed with Insert and deleted there; what is erased to the end can be typed anew. -/
theorem undoes {s : S} {k c : Nat} (hr : sright s = true) (hcur : s.cur = (k : Int)) (hk : k < s.cs.length) (hi : s.ins = true) (hl : ∀ i, i < lineLen s.cs k → (ch s k i = 0 ↔ i + 1 = lineLen s.cs k)) (ht : (typ s c).2.1 = 0) :
    s.lk = false ∧ sright { (typ s c).1 with cur := s.cur } = true ∧ (wdo { (typ s c).1 with cur := s.cur } 12) = (modif s k, 0, -1) ∧ ∃ v, wdo { (typ s c).1 with cur := s.cur } 13 = (v, 0, -1) ∧ v.cs.length = s.cs.length ∧ sright v = true ∧ (typ v c).2.1 = 0 := by
  rcases typ_cases s c with ⟨code, _, h0, h | h⟩ | ⟨h, c1, c2, c3, c4, c5⟩
  · rw [h] at ht; exact absurd ht h0
  · rw [h] at ht; exact absurd ht h0
  obtain ⟨j, hj⟩ := c5 hi
  obtain ⟨j1, j2, j3⟩ := free_some hj
  rw [hcur, show ((k : Int)).toNat = k from rfl] at h c3 c4 hj j1 j2 j3
  rw [line_length] at j1
  have hjl : j + 1 = lineLen s.cs k := (hl j j1).1 j2
  have hfar : far s k = j := by unfold far; rw [hi, hj]; rfl
  have hwl := laid_wl (c := c) hk c3 (by omega)
  have et : ({ (typ s c).1 with cur := s.cur } : S) = wl s k (fun i => if i = 0 then c else ch s k (i - 1)) := by rw [h, ← hwl]; rfl
  rw [et]
  have hrt : sright (wl s k (fun i => if i = 0 then c else ch s k (i - 1))) = true := wl_right hr hk fun i hi' => by
    split
    · exact (ltr_char c1).1
    · exact ch_char hr hk (by omega)
  generalize hv : (fun i => if i = 0 then c else ch s k (i - 1)) = v at *
  have ha := wl_alikn hk v
  have hll : lineLen (wl s k v).cs k = lineLen s.cs k := by rw [← line_length, wl_line hk, line_length]
  have hop : open_ (wl s k v).cs (wl s k v).cur.toNat = true := by
    show open_ (wl s k v).cs s.cur.toNat = true
    rw [hcur, alike_open ha.1]; exact c3
  have hck : (wl s k v).cur.toNat = k := by show s.cur.toNat = k; rw [hcur]; rfl
  refine ⟨c2, hrt, ?_, wl s k (wv (wl s k v) k 13), ?_, wl_length _ _ _, ?_, ?_⟩
  · rw [wdo_0 (s := wl s k v) (kind := 12) (by decide) c2 (by decide) hop, hck, wl_wl hk, wl_own hk fun i hi' => ?_]
    unfold wv
    rw [hll]
    by_cases h1 : i + 1 < lineLen s.cs k
    · rw [if_pos ⟨rfl, h1⟩, ch_wl hk v h1, ← hv]
      simp
    · rw [if_neg (fun h => h1 h.2), (hl i hi').2 (by omega)]
  · rw [wdo_0 (s := wl s k v) (kind := 13) (by decide) c2 (by decide) hop, hck, wl_wl hk]
  · exact wl_right hr hk fun i hi' => by
      unfold wv
      rw [if_neg (fun h => absurd h.1 (by decide))]
      exact char_zero
  · generalize hu : wv (wl s k v) k 13 = u
    have hu0 : ∀ i, u i = 0 := fun i => by
      rw [← hu]; unfold wv
      rw [if_neg (fun h => absurd h.1 (by decide))]
    have hb := wl_alikn hk u
    have hlp := (lineLen_pos hk c3).1
    have hfr : ∃ j, free (wl s k u).cs (line (wl s k u).cs k) = some j := by
      cases hf : free (wl s k u).cs (line (wl s k u).cs k) with
      | some j => exact ⟨j, rfl⟩
      | none =>
        have := free_none hf 0 (by rw [wl_line hk, line_length]; exact hlp)
        rw [wl_line hk, (wl_at hk u).1 0 hlp] at this
        exact absurd (hu0 0) this
    obtain ⟨j', hj'⟩ := hfr
    have hck2 : (wl s k u).cur.toNat = k := by show s.cur.toNat = k; rw [hcur]; rfl
    unfold typ
    simp only
    rw [hck2, if_neg (by rw [c1]; decide), if_neg (by show ¬ s.lk = true; rw [c2]; decide), if_neg (by rw [alike_open hb.1, c3]; decide), (alikn_attr hb k).1, if_neg (by rw [c4]; decide), if_neg (by rw [hj']; simp)]
/-- What changes: open cells, and whether attributes are modified; but of all input, in the cursor's own field alone, whose attribute is modified then. -/
theorem wdo_change {s : S} {k : Nat} {kind : Int} (hcur : s.cur = (k : Int)) (hk : k < s.cs.length) {i : Nat} (hi : i < s.cs.length) (h : (wdo s kind).1.cs.getD i noC ≠ s.cs.getD i noC) :
    (wdo s kind).2.1 = 0 ∧ (kind = 14 ∨ begin_ s.cs i = begin_ s.cs k) ∧
    (((s.cs.getD i noC).f = true ∧ { (wdo s kind).1.cs.getD i noC with m := (s.cs.getD i noC).m } = s.cs.getD i noC) ∨ ((s.cs.getD i noC).f = false ∧ open_ s.cs i = true ∧ ((wdo s kind).1.cs.getD i noC).f = false)) := by
  rcases wdo_cases s kind with ⟨code, _, h' | h'⟩ | ⟨hk14, _, h'⟩ | ⟨_, _, ho, h'⟩
  · rw [h'] at h; exact absurd rfl h
  · rw [h'] at h; exact absurd rfl h
  · rw [h'] at h ⊢
    refine ⟨rfl, .inl hk14, ?_⟩
    have e := Hst.hclean_getD s i hi
    change (Hst.hclean s).cs.getD i noC ≠ _ at h
    show ((s.cs.getD i noC).f = true ∧ { (Hst.hclean s).cs.getD i noC with m := (s.cs.getD i noC).m } = s.cs.getD i noC) ∨ ((s.cs.getD i noC).f = false ∧ open_ s.cs i = true ∧ ((Hst.hclean s).cs.getD i noC).f = false)
    rw [e] at h ⊢
    cases hop : open_ s.cs i with
    | true =>
      right
      have hf := open_nfat hop
      rw [if_pos rfl]
      exact ⟨hf, rfl, ((Hst.unmod_fp false _).1).trans hf⟩
    | false =>
      left
      rw [hop, if_neg (by decide)] at h
      rw [if_neg (by decide)]
      unfold Hst.unmod at h ⊢
      generalize s.cs.getD i noC = o at *
      obtain ⟨f, p, n, q, m, c⟩ := o
      simp only at h ⊢
      split at h
      · rename_i h2
        rw [if_pos h2]
        simp only [Bool.and_eq_true] at h2
        exact ⟨h2.1, rfl⟩
      · exact absurd rfl h
  · rw [h'] at h ⊢
    rw [hcur, show ((k : Int)).toNat = k from rfl] at h ho ⊢
    refine ⟨rfl, ?_⟩
    obtain ⟨h1, h2, h3⟩ := wl_at hk (wv s k kind)
    by_cases hbi : begin_ s.cs k = (i : Int)
    · obtain ⟨b, hb, _, hbf⟩ := begin_fat hk (by omega)
      have : b = i := by omega
      subst this
      refine ⟨.inr (by rw [hbi]; exact begin_self hi hbf), .inl ⟨hbf, ?_⟩⟩
      show { (wl s k (wv s k kind)).cs.getD b noC with m := (s.cs.getD b noC).m } = _
      rw [h2 b hbi]
    · by_cases hq : ∃ q, q < lineLen s.cs k ∧ i = (line s.cs k).getD q 0
      · obtain ⟨q, hq, rfl⟩ := hq
        have hx := line_cell hk hq
        rw [← line_getD hq] at hx
        have hf := open_nfat hx.2
        refine ⟨.inr hx.1, .inr ⟨hf, hx.2, ?_⟩⟩
        show ((wl s k (wv s k kind)).cs.getD _ noC).f = false
        rw [h1 q hq]; exact hf
      · exact absurd (h3 i hbi fun q hq' he => hq ⟨q, hq', he⟩) h
/-- The field's attribute is modified then. -/
theorem wdo_mod {s : S} {k : Nat} {kind : Int} (hcur : s.cur = (k : Int)) (hk : k < s.cs.length) (h : (wdo s kind).2.1 = 0) (h2 : kind ≠ 14) {b : Nat} (hb : begin_ s.cs k = (b : Int)) : ((wdo s kind).1.cs.getD b noC).m = true := by
  rcases wdo_cases s kind with ⟨code, h0, h' | h'⟩ | ⟨hk14, _, h'⟩ | ⟨_, _, ho, h'⟩
  · rw [h'] at h; exact absurd h h0
  · rw [h'] at h; exact absurd h h0
  · exact absurd hk14 h2
  · rw [h', hcur, show ((k : Int)).toNat = k from rfl]
    show ((wl s k (wv s k kind)).cs.getD b noC).m = true
    rw [(wl_at hk _).2.1 b hb]
theorem dels_length (s : S) (k q : Nat) : (dels s k q).cs.length = s.cs.length := by
  unfold dels; split
  · rfl
  · exact wl_length _ _ _
theorem dels_form (s : S) (k q : Nat) : dels s k q = ⟨s.rows, s.cols, (dels s k q).cs, s.cur, s.lk, s.ins⟩ := by
  unfold dels; split <;> rfl
theorem dels_right {s : S} (h : sright s = true) {k : Nat} (hk : k < s.cs.length) (q : Nat) : sright (dels s k q) = true := by
  unfold dels; split
  · exact h
  · refine wl_right h hk fun i hi => ?_
    unfold dv; split
    · rename_i h2; exact ch_char h hk h2
    · exact char_zero
/-- Erasing to the end behind deletions. -/
theorem ends_any {s : S} {k : Nat} (hcur : s.cur = (k : Int)) (hk : k < s.cs.length) (hlk : s.lk = false) (ho : open_ s.cs k = true) (q : Nat) : wdo (dels s k q) 13 = (dels s k (lineLen s.cs k), 0, -1) := by
  have hp := (lineLen_pos hk ho).1
  by_cases hq : q = 0
  · subst hq; exact dels_all hcur hk hlk ho
  · have e : dels s k q = wl s k (dv s k q) := by unfold dels; rw [if_neg hq]
    have e2 : dels s k (lineLen s.cs k) = wl s k (dv s k (lineLen s.cs k)) := by unfold dels; rw [if_neg (by omega)]
    rw [e, e2]
    have ha := wl_alikn hk (dv s k q)
    rw [wdo_0 (s := wl s k (dv s k q)) (kind := 13) (by decide) hlk (by decide) (by show open_ (wl s k (dv s k q)).cs s.cur.toNat = true; rw [hcur, alike_open ha.1]; exact ho)]
    show (wl (wl s k (dv s k q)) s.cur.toNat (wv (wl s k (dv s k q)) s.cur.toNat 13), 0, -1) = _
    rw [hcur, show ((k : Int)).toNat = k from rfl, wl_wl hk, wl_congr (v' := dv s k (lineLen s.cs k)) fun i hi => ?_]
    unfold wv dv
    rw [if_neg (fun h => absurd h.1 (by decide)), if_neg (by omega)]
end Wip
end Go.Proofs.YtpgbnnnfeaodmaaGreatDoor
