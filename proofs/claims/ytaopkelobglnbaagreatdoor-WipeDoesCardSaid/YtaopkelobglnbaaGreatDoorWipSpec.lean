/- Plain: what is deleted and erased. -/
import Derived.Test.YtaopkelobglnbaaGreatDoorEdtPutq
import Derived.Test.YtaopkelobglnbaaGreatDoorBunHst
namespace Go.Proofs.YtaopkelobglnbaaGreatDoor
set_option linter.unusedVariables false
namespace Wip
open Grd Fld Edt
/-- The first q cells of a list get these characters. -/
def wq (l : List Nat) (v : Nat → Nat) (cs : List C) : Nat → List C
  | 0 => cs
  | q + 1 => (wq l v cs q).set (l.getD q 0) { (wq l v cs q).getD (l.getD q 0) noC with c := v q }
theorem wq_length (l : List Nat) (v : Nat → Nat) (cs : List C) : ∀ q, (wq l v cs q).length = cs.length
  | 0 => rfl
  | q + 1 => by rw [wq, List.length_set, wq_length l v cs q]
theorem wq_at {l : List Nat} {cs : List C} {v : Nat → Nat} (hl : ∀ i, i < l.length → l.getD i 0 < cs.length) (hd : ∀ i j, i < l.length → j < l.length → l.getD i 0 = l.getD j 0 → i = j) : ∀ q, q ≤ l.length →
    (∀ i, i < q → (wq l v cs q).getD (l.getD i 0) noC = { cs.getD (l.getD i 0) noC with c := v i }) ∧ ∀ x, (∀ i, i < q → x ≠ l.getD i 0) → (wq l v cs q).getD x noC = cs.getD x noC
  | 0, _ => ⟨fun i h => absurd h (Nat.not_lt_zero _), fun _ _ => rfl⟩
  | q + 1, hq => by
    obtain ⟨h1, h2⟩ := wq_at (v := v) hl hd q (by omega)
    have h3 : (wq l v cs q).getD (l.getD q 0) noC = cs.getD (l.getD q 0) noC := h2 _ fun i hi he => by
      have := hd _ _ (show q < l.length by omega) (show i < l.length by omega) he
      omega
    refine ⟨fun i hi => ?_, fun x hx => ?_⟩
    · rw [wq, Edt.getD_set, h3]
      by_cases hiq : i = q
      · subst hiq; rw [if_pos ⟨rfl, by rw [wq_length]; exact hl _ (by omega)⟩]
      · rw [if_neg (fun h => by have := hd _ _ (show q < l.length by omega) (show i < l.length by omega) h.1; omega)]
        exact h1 i (by omega)
    · rw [wq, Edt.getD_set, if_neg (fun h => hx q (by omega) h.1.symm)]
      exact h2 x fun i hi => hx i (by omega)
theorem wq_congr {l : List Nat} {v v' : Nat → Nat} {cs : List C} : ∀ q, (∀ i, i < q → v i = v' i) → wq l v cs q = wq l v' cs q
  | 0, _ => rfl
  | q + 1, h => by rw [wq, wq, wq_congr q (fun i hi => h i (by omega)), h q (by omega)]
/-- The i-th character of the cell's line. -/
def ch (s : S) (k i : Nat) : Nat := (s.cs.getD ((line s.cs k).getD i 0) noC).c
/-- The line's characters are these, the field modified. -/
def wl (s : S) (k : Nat) (v : Nat → Nat) : S := { s with cs := wq (line s.cs k) v (modif s k).cs (line s.cs k).length }
theorem line_hl {s : S} {k : Nat} (hk : k < s.cs.length) : ∀ i, i < (line s.cs k).length → (line s.cs k).getD i 0 < (modif s k).cs.length := fun i hi => by
  rw [line_length] at hi
  rw [line_getD hi, modif_length]; exact on_lt (by omega) _ _
theorem line_hd {s : S} {k : Nat} (hk : k < s.cs.length) : ∀ i j, i < (line s.cs k).length → j < (line s.cs k).length → (line s.cs k).getD i 0 = (line s.cs k).getD j 0 → i = j := fun i j hi hj he => by
  rw [line_length] at hi hj
  rw [line_getD hi, line_getD hj] at he
  exact line_inj hk hi hj he
theorem wl_length (s : S) (k : Nat) (v : Nat → Nat) : (wl s k v).cs.length = s.cs.length := by
  show (wq _ _ _ _).length = _
  rw [wq_length, modif_length]
/-- A line's cell is not where its field begins. -/
theorem line_nb {cs : List C} {k : Nat} (hk : k < cs.length) {q : Nat} (hq : q < lineLen cs k) : begin_ cs k ≠ (((line cs k).getD q 0 : Nat) : Int) := fun he => by
  obtain ⟨b, hb, hbl, hbf⟩ := begin_fat hk (by rw [he]; omega)
  rw [line_getD hq] at he
  have e : b = on cs.length (k : Int) (q : Int) := by rw [hb] at he; omega
  have := open_nfat (line_cell hk hq).2
  rw [← e, hbf] at this; cases this
/-- Each cell then. -/
theorem wl_at {s : S} {k : Nat} (hk : k < s.cs.length) (v : Nat → Nat) :
    (∀ i, i < lineLen s.cs k → (wl s k v).cs.getD ((line s.cs k).getD i 0) noC = { s.cs.getD ((line s.cs k).getD i 0) noC with c := v i }) ∧
    (∀ x : Nat, begin_ s.cs k = (x : Int) → (wl s k v).cs.getD x noC = { s.cs.getD x noC with m := true }) ∧
    ∀ x : Nat, begin_ s.cs k ≠ (x : Int) → (∀ i, i < lineLen s.cs k → x ≠ (line s.cs k).getD i 0) → (wl s k v).cs.getD x noC = s.cs.getD x noC := by
  obtain ⟨h1, h2⟩ := wq_at (v := v) (line_hl hk) (line_hd hk) (line s.cs k).length (Nat.le_refl _)
  have hll := line_length s.cs k
  refine ⟨fun i hi => ?_, fun x hx => ?_, fun x hx hn => ?_⟩
  · refine (h1 i (by omega)).trans ?_
    rw [modif_at hk, if_neg (line_nb hk hi)]
  · refine (h2 x fun i hi he => ?_).trans ?_
    · exact line_nb hk (show i < lineLen s.cs k by omega) (by rw [← he]; exact hx)
    · rw [modif_at hk, if_pos hx]
  · refine (h2 x fun i hi => hn i (by omega)).trans ?_
    rw [modif_at hk, if_neg hx]
theorem wl_cell {s : S} {k : Nat} (hk : k < s.cs.length) (v : Nat → Nat) (i : Nat) : ∃ m x, (wl s k v).cs.getD i noC = { s.cs.getD i noC with m := m, c := x } := by
  obtain ⟨h1, h2, h3⟩ := wl_at hk v
  by_cases hb : begin_ s.cs k = (i : Int)
  · exact ⟨_, _, h2 i hb⟩
  · by_cases hq : ∃ q, q < lineLen s.cs k ∧ i = (line s.cs k).getD q 0
    · obtain ⟨q, hq, rfl⟩ := hq
      exact ⟨_, _, h1 q hq⟩
    · refine ⟨(s.cs.getD i noC).m, (s.cs.getD i noC).c, ?_⟩
      rw [h3 i hb fun q hq' he => hq ⟨q, hq', he⟩]
theorem wl_alikn {s : S} {k : Nat} (hk : k < s.cs.length) (v : Nat → Nat) : Alikn (wl s k v).cs s.cs := by
  refine ⟨⟨wl_length s k v, fun i => ?_⟩, fun i => ?_⟩ <;> obtain ⟨m, x, h⟩ := wl_cell hk v i <;> rw [h]
  exact ⟨rfl, rfl⟩
/-- Lines of screens whose fields are alike are the same. -/
theorem alike_line {xs ys : List C} (h : Fld.Alike xs ys) (a : Nat) : line xs a = line ys a := by
  unfold line lineLen
  rw [h.1, alike_open h, any_congr h, alike_clen h]
theorem wl_congr {s : S} {k : Nat} {v v' : Nat → Nat} (h : ∀ i, i < lineLen s.cs k → v i = v' i) : wl s k v = wl s k v' := by
  unfold wl
  rw [wq_congr _ (fun i hi => h i (by rw [← line_length]; exact hi))]
theorem s_ext {s t : S} (h1 : s.rows = t.rows) (h2 : s.cols = t.cols) (h3 : s.cs = t.cs) (h4 : s.cur = t.cur) (h5 : s.lk = t.lk) (h6 : s.ins = t.ins) : s = t := by
  obtain ⟨r, c, cs, cur, lk, ins⟩ := s
  obtain ⟨r', c', cs', cur', lk', ins'⟩ := t
  simp only at h1 h2 h3 h4 h5 h6
  subst h1 h2 h3 h4 h5 h6
  rfl
theorem wl_line {s : S} {k : Nat} (hk : k < s.cs.length) (v : Nat → Nat) : line (wl s k v).cs k = line s.cs k := alike_line (wl_alikn hk v).1 k
/-- A line's characters stored twice. -/
theorem wl_wl {s : S} {k : Nat} (hk : k < s.cs.length) (v v' : Nat → Nat) : wl (wl s k v) k v' = wl s k v' := by
  have ha := wl_alikn hk v
  have hkv : k < (wl s k v).cs.length := by rw [wl_length]; exact hk
  have hl := wl_line hk v
  have hll : lineLen (wl s k v).cs k = lineLen s.cs k := by rw [← line_length, hl, line_length]
  have hb : begin_ (wl s k v).cs k = begin_ s.cs k := alike_begin ha.1 k
  obtain ⟨h1, h2, h3⟩ := wl_at hk v
  obtain ⟨g1, g2, g3⟩ := wl_at hk v'
  obtain ⟨d1, d2, d3⟩ := wl_at hkv v'
  rw [hl, hll] at d1 d3
  rw [hb] at d2 d3
  refine s_ext rfl rfl (c_ext (by rw [wl_length, wl_length, wl_length]) fun i hi => ?_) rfl rfl rfl
  by_cases hbi : begin_ s.cs k = (i : Int)
  · rw [d2 i hbi, h2 i hbi, g2 i hbi]
  · by_cases hq : ∃ q, q < lineLen s.cs k ∧ i = (line s.cs k).getD q 0
    · obtain ⟨q, hq, rfl⟩ := hq
      rw [d1 q hq, h1 q hq, g1 q hq]
    · have hn : ∀ q, q < lineLen s.cs k → i ≠ (line s.cs k).getD q 0 := fun q hq' he => hq ⟨q, hq', he⟩
      rw [d3 i hbi hn, h3 i hbi hn, g3 i hbi hn]
/-- A line's own characters stored. -/
theorem wl_own {s : S} {k : Nat} (hk : k < s.cs.length) {v : Nat → Nat} (h : ∀ i, i < lineLen s.cs k → v i = ch s k i) : wl s k v = modif s k := by
  obtain ⟨h1, h2, h3⟩ := wl_at hk v
  obtain ⟨m1, m2, m3, m4, m5⟩ := modif_rest s k
  refine s_ext m1.symm m2.symm (c_ext (by rw [wl_length, modif_length]) fun i hi => ?_) m3.symm m4.symm m5.symm
  rw [modif_at hk]
  by_cases hbi : begin_ s.cs k = (i : Int)
  · rw [h2 i hbi, if_pos hbi]
  · rw [if_neg hbi]
    by_cases hq : ∃ q, q < lineLen s.cs k ∧ i = (line s.cs k).getD q 0
    · obtain ⟨q, hq, rfl⟩ := hq
      rw [h1 q hq, h q hq]; rfl
    · exact h3 i hbi fun q hq' he => hq ⟨q, hq', he⟩
theorem ch_wl {s : S} {k : Nat} (hk : k < s.cs.length) (v : Nat → Nat) {i : Nat} (hi : i < lineLen s.cs k) : ch (wl s k v) k i = v i := by
  unfold ch
  rw [wl_line hk v, (wl_at hk v).1 i hi]
def isWipe (kind : Int) : Bool := decide (12 ≤ kind) && decide (kind ≤ 14)
/-- The line's characters behind a deletion (12), or an erasure. -/
def wv (s : S) (k : Nat) (kind : Int) (i : Nat) : Nat := if kind = 12 ∧ i + 1 < lineLen s.cs k then ch s k (i + 1) else 0
/-- All input. -/
def wall (s : S) : S := { Hst.hclean s with ins := s.ins }
/-- What a key that wipes makes: the screen, the error's number (0: none), its place. -/
def wdo (s : S) (kind : Int) : S × Nat × Int :=
  if isWipe kind = false then (s, 1, -1)
  else if s.lk then (s, 7, -1)
  else if kind = 14 then (wall s, 0, -1)
  else if open_ s.cs s.cur.toNat = false then (deny s, 8, s.cur)
  else (wl s s.cur.toNat (wv s s.cur.toNat kind), 0, -1)
theorem wdo_1 {s : S} {kind : Int} (h : isWipe kind = false) : wdo s kind = (s, 1, -1) := by unfold wdo; rw [if_pos h]
theorem wdo_7 {s : S} {kind : Int} (h : isWipe kind = true) (h2 : s.lk = true) : wdo s kind = (s, 7, -1) := by unfold wdo; rw [if_neg (by rw [h]; decide), if_pos h2]
theorem wdo_14 {s : S} (h2 : s.lk = false) : wdo s 14 = (wall s, 0, -1) := by unfold wdo; rw [if_neg (by decide), if_neg (by rw [h2]; decide), if_pos rfl]
theorem wdo_8 {s : S} {kind : Int} (h : isWipe kind = true) (h2 : s.lk = false) (h3 : kind ≠ 14) (h4 : open_ s.cs s.cur.toNat = false) : wdo s kind = (deny s, 8, s.cur) := by unfold wdo; rw [if_neg (by rw [h]; decide), if_neg (by rw [h2]; decide), if_neg h3, if_pos h4]
theorem wdo_0 {s : S} {kind : Int} (h : isWipe kind = true) (h2 : s.lk = false) (h3 : kind ≠ 14) (h4 : open_ s.cs s.cur.toNat = true) : wdo s kind = (wl s s.cur.toNat (wv s s.cur.toNat kind), 0, -1) := by unfold wdo; rw [if_neg (by rw [h]; decide), if_neg (by rw [h2]; decide), if_neg h3, if_neg (by rw [h4]; decide)]
/-- The cases of a key that wipes. -/
theorem wdo_cases (s : S) (kind : Int) : ((∃ code : Nat, code ≠ 0 ∧ (wdo s kind = (s, code, -1) ∨ wdo s kind = (deny s, code, s.cur)))) ∨ (kind = 14 ∧ s.lk = false ∧ wdo s kind = (wall s, 0, -1)) ∨ (kind ≠ 14 ∧ s.lk = false ∧ open_ s.cs s.cur.toNat = true ∧ wdo s kind = (wl s s.cur.toNat (wv s s.cur.toNat kind), 0, -1)) := by
  cases h1 : isWipe kind with
  | false => exact .inl ⟨1, by decide, .inl (wdo_1 h1)⟩
  | true =>
    cases h2 : s.lk with
    | true => exact .inl ⟨7, by decide, .inl (wdo_7 h1 h2)⟩
    | false =>
      by_cases h3 : kind = 14
      · subst h3; exact .inr (.inl ⟨rfl, rfl, wdo_14 h2⟩)
      · cases h4 : open_ s.cs s.cur.toNat with
        | false => exact .inl ⟨8, by decide, .inr (wdo_8 h1 h2 h3 h4)⟩
        | true => exact .inr (.inr ⟨h3, rfl, rfl, wdo_0 h1 h2 h3 h4⟩)
theorem wall_length (s : S) : (wall s).cs.length = s.cs.length := Hst.hclean_length s
theorem wdo_length (s : S) (kind : Int) : (wdo s kind).1.cs.length = s.cs.length ∧ (wdo s kind).1.rows = s.rows ∧ (wdo s kind).1.cols = s.cols := by
  rcases wdo_cases s kind with ⟨code, _, h | h⟩ | ⟨_, _, h⟩ | ⟨_, _, _, h⟩ <;> rw [h]
  · exact ⟨rfl, rfl, rfl⟩
  · exact ⟨rfl, rfl, rfl⟩
  · exact ⟨wall_length s, rfl, rfl⟩
  · exact ⟨wl_length _ _ _, rfl, rfl⟩
theorem char_zero : Att.char 0 = true := by decide +kernel
theorem ch_char {s : S} (h : sright s = true) {k i : Nat} (hk : k < s.cs.length) (hi : i < lineLen s.cs k) : Att.char (ch s k i) = true := by
  unfold ch
  have hx := (line_cell hk hi).2
  rw [← line_getD hi] at hx
  exact (cright_char (cell_right h (by rw [line_getD hi]; exact on_lt (by omega) _ _)) (open_nfat hx)).1
theorem wl_right {s : S} (h : sright s = true) {k : Nat} (hk : k < s.cs.length) {v : Nat → Nat} (hv : ∀ i, i < lineLen s.cs k → Att.char (v i) = true) : sright (wl s k v) = true := by
  obtain ⟨_, _, g3, g4, _⟩ := sright_parts h
  refine Hst.sright_of h rfl rfl (wl_length s k v) (fun o ho => ?_) g3 g4 s.lk s.ins
  obtain ⟨i, hi, rfl⟩ := Pnt.mem_getD ho
  rw [wl_length] at hi
  obtain ⟨h1, h2, h3⟩ := wl_at hk v
  show cright ((wl s k v).cs.getD i noC) = true
  by_cases hbi : begin_ s.cs k = (i : Int)
  · rw [h2 i hbi]
    obtain ⟨b, hb, _, hbf⟩ := begin_fat hk (by omega)
    have : b = i := by omega
    subst this
    exact cright_mod (cell_right h hi) hbf
  · by_cases hq : ∃ q, q < lineLen s.cs k ∧ i = (line s.cs k).getD q 0
    · obtain ⟨q, hq, rfl⟩ := hq
      rw [h1 q hq]
      have hx := (line_cell hk hq).2
      rw [← line_getD hq] at hx
      exact (cright_char (cell_right h hi) (open_nfat hx)).2 _ (hv q hq)
    · rw [h3 i hbi fun q hq' he => hq ⟨q, hq', he⟩]; exact cell_right h hi
theorem wv_char {s : S} (h : sright s = true) {k : Nat} (hk : k < s.cs.length) (kind : Int) {i : Nat} (hi : i < lineLen s.cs k) : Att.char (wv s k kind i) = true := by
  unfold wv
  split
  · rename_i h2; exact ch_char h hk h2.2
  · exact char_zero
theorem wdo_right {s : S} (h : sright s = true) (kind : Int) : sright (wdo s kind).1 = true := by
  obtain ⟨k, e1, e2, hk⟩ := cur_nat h
  rcases wdo_cases s kind with ⟨code, _, h' | h'⟩ | ⟨_, _, h'⟩ | ⟨_, _, ho, h'⟩ <;> rw [h']
  · exact h
  · exact deny_right h
  · exact Hst.hclean_right h
  · rw [e2]; exact wl_right h hk fun i hi => wv_char h hk kind hi
end Wip
end Go.Proofs.YtaopkelobglnbaaGreatDoor
