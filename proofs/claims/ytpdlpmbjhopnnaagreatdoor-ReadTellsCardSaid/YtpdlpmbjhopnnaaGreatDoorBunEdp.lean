/- FldCov, EdtSpec, EdtMore, EdtRight, EdtFirst, EdtPutq in one text (by tools/bundle.py). -/
import Derived.Test.YtpdlpmbjhopnnaaGreatDoorBunFld
import Derived.Test.YtpdlpmbjhopnnaaGreatDoorBunPlain
/- Plain: fields part a screen: what was counted of the first i fields, and of k cells of the next one. -/
namespace Go.Proofs.YtpdlpmbjhopnnaaGreatDoor
set_option linter.unusedVariables false
namespace Fld
open Grd
/-- One where p says so, zero elsewhere. -/
def ind (p : Nat → Bool) (z : Nat) : List Nat := (List.range z).map fun c => if p c then 1 else 0
theorem ind_len (p : Nat → Bool) (z : Nat) : (ind p z).length = z := by simp [ind]
theorem ind_getD {p : Nat → Bool} {z c : Nat} (hc : c < z) : (ind p z).getD c 0 = if p c then 1 else 0 := by
  simp [ind, List.getD_eq_getElem?_getD, hc]
theorem ind_congr {p q : Nat → Bool} {z : Nat} (h : ∀ c, c < z → p c = q c) : ind p z = ind q z := by
  unfold ind
  exact List.map_congr_left fun c hc => by rw [h c (List.mem_range.1 hc)]
theorem ind_set {p : Nat → Bool} {z c : Nat} (hc : c < z) : (ind p z).set c 1 = ind (fun x => p x || x == c) z := by
  refine List.ext_getElem (by simp [ind]) fun i h1 h2 => ?_
  have hi : i < z := by simpa [ind] using h2
  rw [List.getElem_set]
  by_cases hic : c = i
  · subst hic; simp [ind]
  · have hic' : ¬ i = c := fun e => hic e.symm
    rw [if_neg hic]
    simp [ind, hic']
theorem ind_zero (z : Nat) : ind (fun _ => false) z = List.replicate z 0 := by
  refine List.ext_getElem (by simp [ind]) fun i h1 h2 => by simp [ind]
theorem mem_begins {cs : List C} {c : Nat} : c ∈ begins cs ↔ c < cs.length ∧ fat cs c = true := by
  unfold begins; simp [List.mem_filter]
theorem begins_at {cs : List C} {i : Nat} (h : i < (begins cs).length) : (begins cs).getD i 0 < cs.length ∧ fat cs ((begins cs).getD i 0) = true := by
  have : (begins cs).getD i 0 ∈ begins cs := by
    rw [List.getD_eq_getElem?_getD, List.getElem?_eq_getElem h]
    exact List.getElem_mem h
  exact mem_begins.1 this
theorem begins_rise {cs : List C} {i j : Nat} (hij : i < j) (h : j < (begins cs).length) : (begins cs).getD i 0 < (begins cs).getD j 0 := by
  have hp : (begins cs).Pairwise (· < ·) := List.Pairwise.filter _ List.pairwise_lt_range
  have := List.pairwise_iff_getElem.1 hp i j (by omega) h hij
  rwa [List.getD_eq_getElem?_getD, List.getElem?_eq_getElem (by omega), List.getD_eq_getElem?_getD, List.getElem?_eq_getElem h]
theorem begins_all {cs : List C} {c : Nat} (hc : c < cs.length) (h : fat cs c = true) : ∃ j, j < (begins cs).length ∧ (begins cs).getD j 0 = c := by
  obtain ⟨j, hj, he⟩ := List.getElem_of_mem (mem_begins.2 ⟨hc, h⟩)
  exact ⟨j, hj, by rw [List.getD_eq_getElem?_getD, List.getElem?_eq_getElem hj]; exact he⟩
theorem begins_none {cs : List C} (h : fmt cs = false) : (begins cs).length = 0 := by
  cases hb : begins cs with
  | nil => rfl
  | cons x l =>
    have hx : x ∈ begins cs := by rw [hb]; exact List.mem_cons_self
    have := fmt_iff.2 ⟨x, (mem_begins.1 hx).1, (mem_begins.1 hx).2⟩
    rw [h] at this; cases this
/-- The cell lies in one of the first i fields, or begins it. -/
def cov (cs : List C) (i c : Nat) : Bool := (List.range i).any fun j => decide (begin_ cs c = (((begins cs).getD j 0 : Nat) : Int))
theorem cov_iff {cs : List C} {i c : Nat} : cov cs i c = true ↔ ∃ j, j < i ∧ begin_ cs c = (((begins cs).getD j 0 : Nat) : Int) := by
  unfold cov; simp
/-- .. or begins field i, or is one of its first k cells. -/
def covk (cs : List C) (i k c : Nat) : Bool := cov cs i c || (c == (begins cs).getD i 0 || (List.range k).any fun j => on cs.length (((begins cs).getD i 0 : Nat) : Int) ((j : Int) + 1) == c)
theorem covk_iff {cs : List C} {i k c : Nat} : covk cs i k c = true ↔ cov cs i c = true ∨ c = (begins cs).getD i 0 ∨ ∃ j, j < k ∧ on cs.length (((begins cs).getD i 0 : Nat) : Int) ((j : Int) + 1) = c := by
  unfold covk; simp [Bool.or_eq_true]
theorem cov_of_begin {cs : List C} {i c : Nat} (hi : i < (begins cs).length) (h : begin_ cs c = (((begins cs).getD i 0 : Nat) : Int)) : cov cs i c = false := by
  cases hc : cov cs i c with
  | false => rfl
  | true =>
    obtain ⟨j, hj, he⟩ := cov_iff.1 hc
    rw [h] at he
    have := begins_rise hj hi
    omega
theorem cov_new {cs : List C} {i : Nat} (hi : i < (begins cs).length) : cov cs i ((begins cs).getD i 0) = false :=
  cov_of_begin hi (begin_self (begins_at hi).1 (begins_at hi).2)
theorem covk_start (cs : List C) (i c : Nat) : covk cs i 0 c = (cov cs i c || c == (begins cs).getD i 0) := by
  unfold covk; simp
theorem covk_new {cs : List C} {i k : Nat} (hi : i < (begins cs).length) (hk : k < clen cs (((begins cs).getD i 0 : Nat) : Int)) : covk cs i k (on cs.length (((begins cs).getD i 0 : Nat) : Int) ((k : Int) + 1)) = false := by
  obtain ⟨h1, h2⟩ := begins_at hi
  obtain ⟨g1, g2, _⟩ := clen_some h1 h2
  cases hc : covk cs i k (on cs.length (((begins cs).getD i 0 : Nat) : Int) ((k : Int) + 1)) with
  | false => rfl
  | true =>
    exfalso
    rcases covk_iff.1 hc with h | h | ⟨j, hj, h⟩
    · rw [cov_of_begin hi (begin_of_cell h1 h2 hk)] at h; cases h
    · have := g2 k hk
      rw [h, h2] at this; cases this
    · have := on_inj2 (by omega) (by omega) h
      omega
theorem covk_step (cs : List C) (i k c : Nat) : covk cs i (k + 1) c = (covk cs i k c || c == on cs.length (((begins cs).getD i 0 : Nat) : Int) ((k : Int) + 1)) := by
  rw [Bool.eq_iff_iff, Bool.or_eq_true, covk_iff, covk_iff, beq_iff_eq]
  constructor
  · rintro (h | h | ⟨j, hj, h⟩)
    · exact .inl (.inl h)
    · exact .inl (.inr (.inl h))
    · by_cases hjk : j = k
      · subst hjk; exact .inr h.symm
      · exact .inl (.inr (.inr ⟨j, by omega, h⟩))
  · rintro ((h | h | ⟨j, hj, h⟩) | h)
    · exact .inl h
    · exact .inr (.inl h)
    · exact .inr (.inr ⟨j, by omega, h⟩)
    · exact .inr (.inr ⟨k, by omega, h.symm⟩)
theorem covk_end {cs : List C} {i c : Nat} (hi : i < (begins cs).length) (hc : c < cs.length) : covk cs i (clen cs (((begins cs).getD i 0 : Nat) : Int)) c = cov cs (i + 1) c := by
  obtain ⟨h1, h2⟩ := begins_at hi
  rw [Bool.eq_iff_iff, covk_iff, cov_iff, cov_iff]
  constructor
  · rintro (⟨j, hj, h⟩ | h | ⟨j, hj, h⟩)
    · exact ⟨j, by omega, h⟩
    · exact ⟨i, by omega, by rw [h]; exact begin_self h1 h2⟩
    · exact ⟨i, by omega, by rw [← h]; exact begin_of_cell h1 h2 hj⟩
  · rintro ⟨j, hj, h⟩
    by_cases hji : j = i
    · subst hji
      cases hf : fat cs c with
      | true =>
        rw [begin_self hc hf] at h
        exact .inr (.inl (by omega))
      | false =>
        obtain ⟨b, q, e1, _, _, e2, e3⟩ := cell_of_begin hc (fmt_iff.2 ⟨_, h1, h2⟩) hf
        obtain rfl : b = (begins cs).getD j 0 := by omega
        exact .inr (.inr ⟨q, e2, e3⟩)
    · exact .inl ⟨j, by omega, h⟩
theorem cov_zero (cs : List C) (c : Nat) : cov cs 0 c = false := by unfold cov; simp
theorem cov_all {cs : List C} {c : Nat} (hf : fmt cs = true) (hc : c < cs.length) : cov cs (begins cs).length c = true := by
  obtain ⟨_, b, _, _, h1, h2, h3, _⟩ := begin_some hc hf
  obtain ⟨j, hj, he⟩ := begins_all h2 h3
  exact cov_iff.2 ⟨j, hj, by rw [h1, he]⟩
theorem attr_cell {cs : List C} {b k : Nat} (hb : b < cs.length) (h : fat cs b = true) (hk : k < clen cs (b : Int)) : attrOf cs (on cs.length (b : Int) ((k : Int) + 1)) = cs.getD b noC := by
  unfold attrOf
  rw [begin_of_cell hb h hk, if_neg (by omega), Int.toNat_natCast]
theorem open_cell_ {cs : List C} {b k : Nat} (hb : b < cs.length) (h : fat cs b = true) (hk : k < clen cs (b : Int)) : open_ cs (on cs.length (b : Int) ((k : Int) + 1)) = !(cs.getD b noC).p := by
  unfold open_
  rw [attr_cell hb h hk, (clen_some hb h).2.1 k hk]; rfl
theorem open_begin {cs : List C} {b : Nat} (h : fat cs b = true) : open_ cs b = false := by unfold open_; rw [h]; rfl
theorem open_none {cs : List C} {c : Nat} (hc : c < cs.length) (h : fmt cs = false) : open_ cs c = true := by
  unfold open_ attrOf
  have hf : fat cs c = false := by
    cases hf : fat cs c with
    | false => rfl
    | true => have := fmt_iff.2 ⟨c, hc, hf⟩; rw [h] at this; cases this
  rw [hf, begin_none hc h]; rfl
end Fld
end Go.Proofs.YtpdlpmbjhopnnaaGreatDoor
/- Plain: letters, lines, what is typed. -/
namespace Go.Proofs.YtpdlpmbjhopnnaaGreatDoor
set_option linter.unusedVariables false
namespace Edt
open Grd Fld
def ltr (c : Nat) : Bool := c != 0 && Att.char c
def digit (c : Nat) : Bool := (decide (240 ≤ c) && decide (c ≤ 249)) || (c == 96 || c == 75)
/-- How many cells a line has. -/
def lineLen (cs : List C) (a : Nat) : Nat := if open_ cs a then (if fmt cs then clen cs (a : Int) + 1 else cs.length - a) else 0
/-- A cell's line. -/
def line (cs : List C) (a : Nat) : List Nat := (List.range (lineLen cs a)).map fun (i : Nat) => on cs.length (a : Int) (i : Int)
theorem line_length (cs : List C) (a : Nat) : (line cs a).length = lineLen cs a := by simp [line]
theorem line_getD {cs : List C} {a i : Nat} (h : i < lineLen cs a) : (line cs a).getD i 0 = on cs.length (a : Int) (i : Int) := by
  simp [line, List.getD_eq_getElem?_getD, h]
theorem line_lt {cs : List C} {a x : Nat} (hz : 0 < cs.length) (h : x ∈ line cs a) : x < cs.length := by
  unfold line at h
  rw [List.mem_map] at h
  obtain ⟨i, _, rfl⟩ := h
  exact on_lt hz _ _
theorem drop_to : ∀ (j n : Nat) (f : Nat → Nat), j < n → (∀ i, i < j → f i ≠ f j) → ((List.range n).map f).dropWhile (fun x => x != f j) = (List.range (n - j)).map (fun i => f (j + i))
  | 0, n + 1, f, _, _ => by
    rw [List.range_succ_eq_map, List.map_cons, List.dropWhile_cons_of_neg (by simp)]
    rw [Nat.sub_zero, List.range_succ_eq_map]
    simp
  | j + 1, n + 1, f, h, hn => by
    rw [List.range_succ_eq_map, List.map_cons, List.dropWhile_cons_of_pos (by simpa using hn 0 (by omega)), List.map_map]
    have := drop_to j n (f ∘ Nat.succ) (by omega) (fun i hi => hn (i + 1) (by omega))
    rw [show n + 1 - (j + 1) = n - j by omega]
    refine Eq.trans this ?_
    refine List.map_congr_left fun i _ => ?_
    show f (j + i + 1) = f (j + 1 + i)
    congr 1; omega
theorem line_open_fmt {cs : List C} {a : Nat} (ha : a < cs.length) (hf : fmt cs = true) (ho : open_ cs a = true) : ∃ b j : Nat, begin_ cs a = (b : Int) ∧ b < cs.length ∧ fat cs b = true ∧ j < clen cs (b : Int) ∧ on cs.length (b : Int) ((j : Int) + 1) = a ∧ clen cs (a : Int) + 1 = clen cs (b : Int) - j := by
  have hn : fat cs a = false := by
    unfold open_ at ho
    simp only [Bool.and_eq_true, Bool.not_eq_true'] at ho
    exact ho.1
  obtain ⟨b, j, e1, e2, e3, e4, e5⟩ := cell_of_begin ha hf hn
  refine ⟨b, j, e1, e2, e3, e4, e5, ?_⟩
  obtain ⟨g1, g2, g3⟩ := clen_some e2 e3
  have e : ∀ k : Nat, on cs.length (a : Int) (k : Int) = on cs.length (b : Int) (((j + k : Nat) : Int) + 1) := fun k => by
    rw [← e5, on_on (by omega)]; congr 1; omega
  have hk : firstK (fun k => fat cs (on cs.length (a : Int) (k : Int))) 1 cs.length = some (clen cs (b : Int) - j) := by
    refine firstK_is (by omega) (by omega) ?_ fun i h1 h2 => ?_
    · rw [e, show j + (clen cs (b : Int) - j) = clen cs (b : Int) by omega]; exact g3
    · rw [e]; exact g2 _ (by omega)
  have hc : clen cs (a : Int) = clen cs (b : Int) - j - 1 := by
    show (match firstK (fun k => fat cs (on cs.length (a : Int) (k : Int))) 1 cs.length with | some k => k - 1 | none => cs.length) = _
    rw [hk]
  omega
theorem line_drop {cs : List C} {a : Nat} (ha : a < cs.length) (ho : open_ cs a = true) : line cs a = (cells cs a).dropWhile (fun x => x != a) := by
  unfold line lineLen
  rw [if_pos ho]
  cases hf : fmt cs with
  | true =>
    obtain ⟨b, j, e1, e2, e3, e4, e5, e6⟩ := line_open_fmt ha hf ho
    obtain ⟨g1, _, _⟩ := clen_some e2 e3
    rw [if_pos rfl, e6]
    unfold cells cellsAt
    rw [e1]
    have h := drop_to j (clen cs (b : Int)) (fun i => on cs.length (b : Int) ((i : Int) + 1)) e4 (fun i hi he => by
      have := on_inj2 (z := cs.length) (b := b) (i := i) (j := j) (by omega) (by omega) he
      omega)
    simp only [e5] at h
    rw [h]
    refine List.map_congr_left fun i _ => ?_
    rw [← e5, on_on (by omega)]; congr 1; omega
  | false =>
    rw [if_neg (by decide)]
    unfold cells cellsAt
    rw [begin_none ha hf, clen_none (by omega) hf]
    have e : ∀ i : Nat, i < cs.length → on cs.length (-1) ((i : Int) + 1) = i := fun i hi => by
      unfold on
      rw [show (-1 : Int) + ((i : Int) + 1) = (i : Int) by omega, Int.emod_eq_of_lt (by omega) (by omega)]; omega
    have h := drop_to a cs.length (fun i => on cs.length (-1) ((i : Int) + 1)) ha (fun i hi he => by
      rw [e i (by omega), e a ha] at he; omega)
    simp only [e a ha] at h
    rw [h]
    refine List.map_congr_left fun i hi => ?_
    rw [List.mem_range] at hi
    rw [e (a + i) (by omega), on_nat, Nat.mod_eq_of_lt (by omega)]
/-- A line begins with its cell; its cells are all different, and none begins a field. -/
theorem lineLen_pos {cs : List C} {a : Nat} (ha : a < cs.length) (ho : open_ cs a = true) : 0 < lineLen cs a ∧ lineLen cs a ≤ cs.length := by
  unfold lineLen
  rw [if_pos ho]
  cases hf : fmt cs with
  | true =>
    obtain ⟨b, j, e1, e2, e3, e4, e5, e6⟩ := line_open_fmt ha hf ho
    obtain ⟨g1, _, _⟩ := clen_some e2 e3
    rw [if_pos rfl]; omega
  | false => rw [if_neg (by decide)]; omega
theorem lineLen_le {cs : List C} {a : Nat} (ha : a < cs.length) : lineLen cs a ≤ cs.length := by
  cases ho : open_ cs a with
  | true => exact (lineLen_pos ha ho).2
  | false => unfold lineLen; rw [if_neg (by rw [ho]; decide)]; omega
theorem line_inj {cs : List C} {a i j : Nat} (ha : a < cs.length) (hi : i < lineLen cs a) (hj : j < lineLen cs a) (h : on cs.length (a : Int) (i : Int) = on cs.length (a : Int) (j : Int)) : i = j := by
  have := lineLen_le ha
  exact on_inj (by omega) (by omega) h
/-- The field's attribute modified. -/
def modif (s : S) (a : Nat) : S := if begin_ s.cs a < 0 then s else { s with cs := s.cs.set (begin_ s.cs a).toNat { s.cs.getD (begin_ s.cs a).toNat noC with m := true } }
def deny (s : S) : S := { s with lk := true }
/-- The line's first cell without a character. -/
def free (cs : List C) (l : List Nat) : Option Nat := firstK (fun i => (cs.getD (l.getD i 0) noC).c == 0) 0 l.length
/-- The first j characters of a line moved on by one, into cs. -/
def shifted (cs0 : List C) (l : List Nat) : Nat → List C → List C
  | 0, cs => cs
  | j + 1, cs => (shifted cs0 l j cs).set (l.getD (j + 1) 0) { (shifted cs0 l j cs).getD (l.getD (j + 1) 0) noC with c := (cs0.getD (l.getD j 0) noC).c }
/-- The cells behind a letter that is typed at k. -/
def laid (s : S) (k c : Nat) : List C :=
  let o := if s.ins then shifted s.cs (line s.cs k) ((free s.cs (line s.cs k)).getD 0) (modif s k).cs else (modif s k).cs
  o.set k { o.getD k noC with c := c }
/-- Where the cursor goes. -/
def goes (cs : List C) (k : Nat) : Nat :=
  let at_ := on cs.length (k : Int) 1
  let x := cs.getD at_ noC
  if x.f then (if (x.p && x.n) && decide (0 ≤ next cs at_) then (next cs at_).toNat else on cs.length (at_ : Int) 1) else at_
def typed (s : S) (k c : Nat) : S := { s with cs := laid s k c, cur := (goes (laid s k c) k : Nat) }
/-- What a letter that is typed at the cursor makes: the screen, the error's number (0: none), its place. -/
def typ (s : S) (c : Nat) : S × Nat × Int :=
  let k := s.cur.toNat
  if ltr c = false then (s, 3, -1)
  else if s.lk then (s, 7, -1)
  else if open_ s.cs k = false then (deny s, 8, s.cur)
  else if ((attrOf s.cs k).n && !digit c) && (c != 28 && c != 30) then (deny s, 9, s.cur)
  else if s.ins && (free s.cs (line s.cs k)).isNone then (deny s, 10, s.cur)
  else (typed s k c, 0, -1)
end Edt
end Go.Proofs.YtpdlpmbjhopnnaaGreatDoor
/- Plain: what a letter that is typed changes. -/
namespace Go.Proofs.YtpdlpmbjhopnnaaGreatDoor
set_option linter.unusedVariables false
namespace Edt
open Grd Fld
theorem getD_set (cs : List C) (i j : Nat) (o : C) : (cs.set i o).getD j noC = if i = j ∧ i < cs.length then o else cs.getD j noC := by
  simp only [List.getD_eq_getElem?_getD, List.getElem?_set]
  by_cases h : i = j
  · subst h
    by_cases h2 : i < cs.length
    · simp [h2]
    · simp [h2]
  · simp [h]
/-- A line's cells lie in the cell's field, and are open. -/
theorem line_cell {cs : List C} {a q : Nat} (ha : a < cs.length) (hq : q < lineLen cs a) : begin_ cs (on cs.length (a : Int) (q : Int)) = begin_ cs a ∧ open_ cs (on cs.length (a : Int) (q : Int)) = true := by
  cases ho : open_ cs a with
  | false => unfold lineLen at hq; rw [if_neg (by rw [ho]; decide)] at hq; omega
  | true =>
    cases hf : fmt cs with
    | true =>
      obtain ⟨b, j, e1, e2, e3, e4, e5, e6⟩ := line_open_fmt ha hf ho
      have hl : lineLen cs a = clen cs (b : Int) - j := by unfold lineLen; rw [if_pos ho, if_pos hf, e6]
      have e : on cs.length (a : Int) (q : Int) = on cs.length (b : Int) (((j + q : Nat) : Int) + 1) := by
        rw [← e5, on_on (by omega)]; congr 1; omega
      rw [e, begin_of_cell e2 e3 (by omega), e1]
      refine ⟨rfl, ?_⟩
      have h1 := open_cell_ e2 e3 (k := j) e4
      rw [e5, ho] at h1
      rw [open_cell_ e2 e3 (by omega), ← h1]
    | false =>
      have hl := on_lt (z := cs.length) (by omega) (a : Int) (q : Int)
      rw [begin_none hl hf, begin_none ha hf]
      exact ⟨rfl, open_none hl hf⟩
theorem open_nfat {cs : List C} {i : Nat} (h : open_ cs i = true) : (cs.getD i noC).f = false := by
  unfold open_ fat at h
  simp only [Bool.and_eq_true, Bool.not_eq_true'] at h
  exact h.1
/-- Where a field begins. -/
theorem begin_fat {cs : List C} {a : Nat} (ha : a < cs.length) (h : 0 ≤ begin_ cs a) : ∃ b : Nat, begin_ cs a = (b : Int) ∧ b < cs.length ∧ (cs.getD b noC).f = true := by
  cases hf : fmt cs with
  | false => rw [begin_none ha hf] at h; omega
  | true =>
    obtain ⟨k, b, _, _, h3, h4, h5, _⟩ := begin_some ha hf
    exact ⟨b, h3, h4, h5⟩
theorem modif_length (s : S) (a : Nat) : (modif s a).cs.length = s.cs.length := by
  unfold modif; split <;> simp
theorem modif_rest (s : S) (a : Nat) : (modif s a).rows = s.rows ∧ (modif s a).cols = s.cols ∧ (modif s a).cur = s.cur ∧ (modif s a).lk = s.lk ∧ (modif s a).ins = s.ins := by
  unfold modif; split <;> exact ⟨rfl, rfl, rfl, rfl, rfl⟩
theorem modif_at {s : S} {a : Nat} (ha : a < s.cs.length) (i : Nat) : (modif s a).cs.getD i noC = if begin_ s.cs a = (i : Int) then { s.cs.getD i noC with m := true } else s.cs.getD i noC := by
  unfold modif
  by_cases h : begin_ s.cs a < 0
  · rw [if_pos h, if_neg (by omega)]
  · rw [if_neg h]
    obtain ⟨b, hb, hl, _⟩ := begin_fat ha (by omega)
    rw [hb]
    simp only [getD_set, Int.toNat_natCast]
    by_cases hi : b = i
    · subst hi; rw [if_pos ⟨rfl, hl⟩, if_pos rfl]
    · rw [if_neg (by omega), if_neg (by omega)]
theorem shifted_length (cs0 : List C) (l : List Nat) (cs : List C) : ∀ j, (shifted cs0 l j cs).length = cs.length
  | 0 => rfl
  | j + 1 => by rw [shifted, List.length_set, shifted_length cs0 l cs j]
/-- The characters that moved on, and all others. -/
theorem shifted_at {cs0 cs : List C} {l : List Nat} (hl : ∀ i, i < l.length → l.getD i 0 < cs.length) (hd : ∀ i j, i < l.length → j < l.length → l.getD i 0 = l.getD j 0 → i = j) : ∀ j, j < l.length →
    (∀ q, q < j → (shifted cs0 l j cs).getD (l.getD (q + 1) 0) noC = { cs.getD (l.getD (q + 1) 0) noC with c := (cs0.getD (l.getD q 0) noC).c }) ∧ ∀ i, (∀ q, q < j → i ≠ l.getD (q + 1) 0) → (shifted cs0 l j cs).getD i noC = cs.getD i noC
  | 0, _ => ⟨fun q h => absurd h (Nat.not_lt_zero _), fun i _ => rfl⟩
  | j + 1, hj => by
    obtain ⟨h1, h2⟩ := shifted_at (cs0 := cs0) (cs := cs) hl hd j (by omega)
    have h3 : (shifted cs0 l j cs).getD (l.getD (j + 1) 0) noC = cs.getD (l.getD (j + 1) 0) noC := h2 _ fun q hq he => by
      have := hd _ _ hj (show q + 1 < l.length by omega) he
      omega
    refine ⟨fun q hq => ?_, fun i hi => ?_⟩
    · rw [shifted, getD_set, h3]
      by_cases hqj : q = j
      · subst hqj; rw [if_pos ⟨rfl, by rw [shifted_length]; exact hl _ hj⟩]
      · rw [if_neg (fun h => by have := hd _ _ hj (show q + 1 < l.length by omega) h.1; omega)]
        exact h1 q (by omega)
    · rw [shifted, getD_set, if_neg (fun h => hi j (by omega) h.1.symm)]
      exact h2 i fun q hq => hi q (by omega)
theorem free_some {cs : List C} {l : List Nat} {j : Nat} (h : free cs l = some j) : j < l.length ∧ (cs.getD (l.getD j 0) noC).c = 0 ∧ ∀ i, i < j → (cs.getD (l.getD i 0) noC).c ≠ 0 := by
  obtain ⟨_, h2, h3, h4⟩ := firstK_some h
  refine ⟨by omega, by simpa using h3, fun i hi => ?_⟩
  have := h4 i (Nat.zero_le _) hi
  simpa using this
theorem free_none {cs : List C} {l : List Nat} (h : free cs l = none) : ∀ i, i < l.length → (cs.getD (l.getD i 0) noC).c ≠ 0 := fun i hi => by
  have := firstK_none h i (Nat.zero_le _) (by omega)
  simpa using this
/-- How far characters move on. -/
def far (s : S) (k : Nat) : Nat := if s.ins then (free s.cs (line s.cs k)).getD 0 else 0
theorem far_lt {s : S} {k : Nat} (hk : k < s.cs.length) (ho : open_ s.cs k = true) : far s k < lineLen s.cs k := by
  have h0 := (lineLen_pos hk ho).1
  unfold far
  split
  · cases h : free s.cs (line s.cs k) with
    | none => exact h0
    | some j => have := (free_some h).1; rw [line_length] at this; exact this
  · exact h0
theorem laid_eq (s : S) (k c : Nat) : laid s k c = (shifted s.cs (line s.cs k) (far s k) (modif s k).cs).set k { (shifted s.cs (line s.cs k) (far s k) (modif s k).cs).getD k noC with c := c } := by
  unfold laid far
  cases s.ins <;> rfl
theorem laid_length (s : S) (k c : Nat) : (laid s k c).length = s.cs.length := by
  rw [laid_eq, List.length_set, shifted_length, modif_length]
/-- Each cell behind a letter that is typed. -/
theorem laid_at {s : S} {k : Nat} (hk : k < s.cs.length) (ho : open_ s.cs k = true) (c : Nat) :
    (laid s k c).getD k noC = { s.cs.getD k noC with c := c } ∧
    (∀ q, q < far s k → (laid s k c).getD (on s.cs.length (k : Int) ((q : Int) + 1)) noC = { s.cs.getD (on s.cs.length (k : Int) ((q : Int) + 1)) noC with c := (s.cs.getD (on s.cs.length (k : Int) (q : Int)) noC).c }) ∧
    (∀ i : Nat, begin_ s.cs k = (i : Int) → (laid s k c).getD i noC = { s.cs.getD i noC with m := true }) ∧
    ∀ i : Nat, i ≠ k → begin_ s.cs k ≠ (i : Int) → (∀ q, q < far s k → i ≠ on s.cs.length (k : Int) ((q : Int) + 1)) → (laid s k c).getD i noC = s.cs.getD i noC := by
  have hfl := far_lt hk ho
  have hz : 0 < s.cs.length := by omega
  have hlg : ∀ i, i < lineLen s.cs k → (line s.cs k).getD i 0 = on s.cs.length (k : Int) (i : Int) := fun i hi => line_getD hi
  obtain ⟨h1, h2⟩ := shifted_at (cs0 := s.cs) (cs := (modif s k).cs) (l := line s.cs k) (fun i hi => by rw [modif_length]; rw [line_length] at hi; rw [hlg i hi]; exact on_lt hz _ _)
    (fun i j hi hj he => by rw [line_length] at hi hj; rw [hlg i hi, hlg j hj] at he; exact line_inj hk hi hj he) (far s k) (by rw [line_length]; exact hfl)
  have hnb : ∀ q, q < lineLen s.cs k → begin_ s.cs k ≠ ((on s.cs.length (k : Int) (q : Int) : Nat) : Int) := fun q hq he => by
    obtain ⟨b, hb, hbl, hbf⟩ := begin_fat hk (by rw [he]; omega)
    have e : b = on s.cs.length (k : Int) (q : Int) := by rw [hb] at he; omega
    have := open_nfat (line_cell hk hq).2
    rw [← e, hbf] at this; cases this
  have ek : on s.cs.length (k : Int) ((0 : Nat) : Int) = k := on_zero hk
  have hl0 := (lineLen_pos hk ho).1
  have hk0 : ∀ q, q < far s k → k ≠ (line s.cs k).getD (q + 1) 0 := fun q hq he => by
    rw [hlg _ (by omega), ← ek, on_on hz] at he
    have := line_inj hk hl0 (show q + 1 < lineLen s.cs k by omega) (by rw [ek]; rw [show ((0 : Nat) : Int) + ((q + 1 : Nat) : Int) = ((q + 1 : Nat) : Int) by omega] at he; rw [← he, ek])
    omega
  have hsk : (shifted s.cs (line s.cs k) (far s k) (modif s k).cs).getD k noC = s.cs.getD k noC := by
    rw [h2 k hk0, modif_at hk, if_neg]
    have := hnb 0 hl0
    rwa [ek] at this
  have hlen : (shifted s.cs (line s.cs k) (far s k) (modif s k).cs).length = s.cs.length := by rw [shifted_length, modif_length]
  rw [laid_eq, hsk]
  refine ⟨by rw [getD_set, if_pos ⟨rfl, by rw [hlen]; exact hk⟩], fun q hq => ?_, fun i hi => ?_, fun i h3 h4 h5 => ?_⟩
  · have e : (line s.cs k).getD (q + 1) 0 = on s.cs.length (k : Int) ((q : Int) + 1) := by rw [hlg _ (by omega)]; rfl
    have hne := hk0 q hq
    rw [e] at hne
    have := h1 q hq
    rw [e, hlg _ (by omega), modif_at hk, if_neg (by have := hnb (q + 1) (by omega); exact this)] at this
    rw [getD_set, if_neg (fun h => hne h.1), this]
  · have hik : i ≠ k := fun h => by
      subst h
      have := hnb 0 hl0
      rw [ek] at this
      exact this hi
    rw [getD_set, if_neg (fun h => hik h.1.symm), h2 i fun q hq he => ?_, modif_at hk, if_pos hi]
    rw [hlg _ (by omega)] at he
    exact hnb _ (show q + 1 < lineLen s.cs k by omega) (by rw [← he]; exact hi)
  · rw [getD_set, if_neg (fun h => h3 h.1.symm), h2 i fun q hq he => h5 q hq (by rw [he, hlg _ (by omega)]; rfl), modif_at hk, if_neg h4]
/-- Each cell is as it was, but for its character, or for being modified. -/
theorem laid_cell {s : S} {k : Nat} (hk : k < s.cs.length) (ho : open_ s.cs k = true) (c i : Nat) : ∃ m x, (laid s k c).getD i noC = { s.cs.getD i noC with m := m, c := x } := by
  obtain ⟨h1, h2, h3, h4⟩ := laid_at hk ho c
  by_cases hik : i = k
  · subst hik; exact ⟨_, _, h1⟩
  · by_cases hib : begin_ s.cs k = (i : Int)
    · exact ⟨_, _, h3 i hib⟩
    · by_cases hq : ∃ q, q < far s k ∧ i = on s.cs.length (k : Int) ((q : Int) + 1)
      · obtain ⟨q, hq, rfl⟩ := hq
        exact ⟨_, _, h2 q hq⟩
      · refine ⟨(s.cs.getD i noC).m, (s.cs.getD i noC).c, ?_⟩
        rw [h4 i hik hib fun q hq' he => hq ⟨q, hq', he⟩]
theorem laid_alikn {s : S} {k : Nat} (hk : k < s.cs.length) (ho : open_ s.cs k = true) (c : Nat) : Alikn (laid s k c) s.cs := by
  refine ⟨⟨laid_length s k c, fun i => ?_⟩, fun i => ?_⟩ <;> obtain ⟨m, x, h⟩ := laid_cell hk ho c i <;> rw [h]
  exact ⟨rfl, rfl⟩
/-- What changes lies in the cursor's own field, is open, and is the cursor's own cell but with Insert. -/
theorem laid_change {s : S} {k : Nat} (hk : k < s.cs.length) (ho : open_ s.cs k = true) (c i : Nat) (hb : begin_ s.cs k ≠ (i : Int)) (h : (laid s k c).getD i noC ≠ s.cs.getD i noC) : begin_ s.cs i = begin_ s.cs k ∧ open_ s.cs i = true ∧ (s.ins = true ∨ i = k) := by
  obtain ⟨h1, h2, h3, h4⟩ := laid_at hk ho c
  by_cases hik : i = k
  · subst hik; exact ⟨rfl, ho, .inr rfl⟩
  · by_cases hq : ∃ q, q < far s k ∧ i = on s.cs.length (k : Int) ((q : Int) + 1)
    · obtain ⟨q, hq, rfl⟩ := hq
      have hfl := far_lt hk ho
      obtain ⟨g1, g2⟩ := line_cell hk (show q + 1 < lineLen s.cs k by omega)
      refine ⟨g1, g2, .inl ?_⟩
      unfold far at hq
      cases hi : s.ins with
      | true => rfl
      | false => rw [hi] at hq; simp at hq
    · exact absurd (h4 i hik hb fun q hq' he => hq ⟨q, hq', he⟩) h
end Edt
end Go.Proofs.YtpdlpmbjhopnnaaGreatDoor
/- Plain: a right screen stays right behind a letter; what stood in a line stands there yet; a letter typed over another one. -/
namespace Go.Proofs.YtpdlpmbjhopnnaaGreatDoor
set_option linter.unusedVariables false
namespace Edt
open Grd Fld
theorem ltr_char {c : Nat} (h : ltr c = true) : Att.char c = true ∧ c ≠ 0 := by
  unfold ltr at h
  simp only [Bool.and_eq_true, bne_iff_ne, ne_eq] at h
  exact ⟨h.2, h.1⟩
theorem next_lt {cs : List C} (hz : 0 < cs.length) (a : Nat) : next cs a < (cs.length : Int) ∧ -1 ≤ next cs a := by
  unfold next
  split
  · rename_i k _
    have := on_lt hz (a : Int) ((k : Int) + 1)
    omega
  · omega
theorem goes_lt {cs : List C} (hz : 0 < cs.length) (k : Nat) : goes cs k < cs.length := by
  unfold goes
  have h1 := on_lt hz (k : Int) 1
  simp only
  split
  · split
    · rename_i h2
      have := next_lt hz (on cs.length (k : Int) 1)
      simp only [Bool.and_eq_true, decide_eq_true_eq] at h2
      omega
    · exact on_lt hz _ _
  · exact h1
theorem cright_char {o : C} (h : cright o = true) (hf : o.f = false) : Att.char o.c = true ∧ ∀ x, Att.char x = true → cright { o with c := x } = true := by
  obtain ⟨f, p, n, s, m, c⟩ := o
  simp only at hf
  subst hf
  simp only [cright, Bool.false_eq_true, if_false, Bool.and_eq_true] at h ⊢
  exact ⟨h.2, fun x hx => ⟨h.1, hx⟩⟩
theorem cright_mod {o : C} (h : cright o = true) (hf : o.f = true) : cright { o with m := true } = true := by
  obtain ⟨f, p, n, s, m, c⟩ := o
  simp only at hf
  subst hf
  simp only [cright, if_true] at h ⊢
  exact h
theorem cell_right {s : S} (h : sright s = true) {i : Nat} (hi : i < s.cs.length) : cright (s.cs.getD i noC) = true := by
  obtain ⟨_, _, _, _, h5⟩ := sright_parts h
  rw [List.getD_eq_getElem?_getD, List.getElem?_eq_getElem hi]
  exact h5 _ (List.getElem_mem hi)
theorem laid_right {s : S} (h : sright s = true) {k c : Nat} (hk : k < s.cs.length) (ho : open_ s.cs k = true) (hc : Att.char c = true) : ∀ i, i < s.cs.length → cright ((laid s k c).getD i noC) = true := by
  intro i hi
  obtain ⟨h1, h2, h3, h4⟩ := laid_at hk ho c
  have hfl := far_lt hk ho
  by_cases hik : i = k
  · subst hik; rw [h1]; exact (cright_char (cell_right h hi) (open_nfat ho)).2 c hc
  · by_cases hib : begin_ s.cs k = (i : Int)
    · rw [h3 i hib]
      obtain ⟨b, hb, _, hbf⟩ := begin_fat hk (by omega)
      have : b = i := by omega
      subst this
      exact cright_mod (cell_right h hi) hbf
    · by_cases hq : ∃ q, q < far s k ∧ i = on s.cs.length (k : Int) ((q : Int) + 1)
      · obtain ⟨q, hq, rfl⟩ := hq
        rw [h2 q hq]
        have o1 := (line_cell hk (show q < lineLen s.cs k by omega)).2
        have o2 := (line_cell hk (show q + 1 < lineLen s.cs k by omega)).2
        have e : on s.cs.length (k : Int) ((q + 1 : Nat) : Int) = on s.cs.length (k : Int) ((q : Int) + 1) := rfl
        rw [e] at o2
        exact (cright_char (cell_right h hi) (open_nfat o2)).2 _ (cright_char (cell_right h (on_lt (by omega) _ _)) (open_nfat o1)).1
      · rw [h4 i hik hib fun q hq' he => hq ⟨q, hq', he⟩]; exact cell_right h hi
theorem typed_right {s : S} (h : sright s = true) {k c : Nat} (hk : k < s.cs.length) (ho : open_ s.cs k = true) (hc : Att.char c = true) : sright (typed s k c) = true := by
  obtain ⟨h1, h2, h3, h4, h5⟩ := sright_parts h
  have hl := laid_length s k c
  have hg := goes_lt (cs := laid s k c) (by omega) k
  have e1 : sright (typed s k c) = (sized s.rows s.cols && (decide (((laid s k c).length : Int) = s.rows * s.cols) && (decide (0 ≤ ((goes (laid s k c) k : Nat) : Int)) && (decide (((goes (laid s k c) k : Nat) : Int) < ((laid s k c).length : Int)) && (laid s k c).all cright)))) := rfl
  rw [e1, h1, decide_eq_true (show ((laid s k c).length : Int) = s.rows * s.cols by rw [hl]; exact h2), decide_eq_true (show 0 ≤ ((goes (laid s k c) k : Nat) : Int) by omega), decide_eq_true (show ((goes (laid s k c) k : Nat) : Int) < ((laid s k c).length : Int) by omega), all_at fun i hi => laid_right h hk ho hc i (by rw [← hl]; exact hi)]
  rfl
theorem deny_right {s : S} (h : sright s = true) : sright (deny s) = true := h
/-- The screen's cursor as a number. -/
theorem cur_nat {s : S} (h : sright s = true) : ∃ k : Nat, s.cur = (k : Int) ∧ s.cur.toNat = k ∧ k < s.cs.length := by
  obtain ⟨_, _, h3, h4, _⟩ := sright_parts h
  exact ⟨s.cur.toNat, by omega, rfl, by omega⟩
/-- What a letter makes is right. -/
theorem typ_right {s : S} (h : sright s = true) (c : Nat) : sright (typ s c).1 = true := by
  obtain ⟨k, e1, e2, hk⟩ := cur_nat h
  unfold typ
  rw [e2]
  simp only
  split
  · exact h
  · split
    · exact h
    · split
      · exact deny_right h
      · split
        · exact deny_right h
        · split
          · exact deny_right h
          · rename_i h1 _ h3 _ _
            exact typed_right h hk (by simpa using h3) (ltr_char (by simpa using h1)).1
theorem typ_length {s : S} (c : Nat) : (typ s c).1.cs.length = s.cs.length ∧ (typ s c).1.rows = s.rows ∧ (typ s c).1.cols = s.cols ∧ (typ s c).1.ins = s.ins := by
  unfold typ
  simp only
  repeat' split
  all_goals exact ⟨by first | rfl | exact laid_length _ _ _, rfl, rfl, rfl⟩
/-- The cases of a letter that is typed. -/
theorem typ_cases (s : S) (c : Nat) : (∃ code : Nat, ∃ at_ : Int, code ≠ 0 ∧ ((typ s c) = (s, code, -1) ∨ typ s c = (deny s, code, s.cur))) ∨ (typ s c = (typed s s.cur.toNat c, 0, -1) ∧ ltr c = true ∧ s.lk = false ∧ open_ s.cs s.cur.toNat = true ∧ (((attrOf s.cs s.cur.toNat).n && !digit c) && (c != 28 && c != 30)) = false ∧ (s.ins = true → ∃ j, free s.cs (line s.cs s.cur.toNat) = some j)) := by
  unfold typ
  simp only
  by_cases h1 : ltr c = false
  · rw [if_pos h1]; exact .inl ⟨3, 0, by decide, .inl rfl⟩
  · rw [if_neg h1]
    by_cases h2 : s.lk = true
    · rw [if_pos h2]; exact .inl ⟨7, 0, by decide, .inl rfl⟩
    · rw [if_neg h2]
      by_cases h3 : open_ s.cs s.cur.toNat = false
      · rw [if_pos h3]; exact .inl ⟨8, 0, by decide, .inr rfl⟩
      · rw [if_neg h3]
        by_cases h4 : (((attrOf s.cs s.cur.toNat).n && !digit c) && (c != 28 && c != 30)) = true
        · rw [if_pos h4]; exact .inl ⟨9, 0, by decide, .inr rfl⟩
        · rw [if_neg h4]
          by_cases h5 : (s.ins && (free s.cs (line s.cs s.cur.toNat)).isNone) = true
          · rw [if_pos h5]; exact .inl ⟨10, 0, by decide, .inr rfl⟩
          · rw [if_neg h5]
            refine .inr ⟨rfl, by simpa using h1, by simpa using h2, by simpa using h3, by simpa using h4, fun hi => ?_⟩
            rw [hi] at h5
            cases hf : free s.cs (line s.cs s.cur.toNat) with
            | some j => exact ⟨j, rfl⟩
            | none => rw [hf] at h5; exact absurd rfl h5
/-- What is refused changes Locked alone. -/
theorem typ_no (s : S) (c : Nat) (h : (typ s c).2.1 ≠ 0) : ∃ tl, (typ s c).1 = ⟨s.rows, s.cols, s.cs, s.cur, tl, s.ins⟩ ∧ (tl = s.lk ∨ (typ s c).2.2 = s.cur) := by
  rcases typ_cases s c with ⟨code, _, _, h' | h'⟩ | ⟨h', _⟩
  · exact ⟨s.lk, by rw [h'], .inl rfl⟩
  · exact ⟨true, by rw [h']; rfl, .inr (by rw [h'])⟩
  · rw [h'] at h; exact absurd rfl h
/-- A line's characters. -/
def cz (cs : List C) (a i : Nat) : Nat := (cs.getD (on cs.length (a : Int) (i : Int)) noC).c
/-- The first q characters of a line but for the j-th. -/
def was (cs : List C) (a j q : Nat) : List Nat := ((List.range q).filter (fun i => i != j)).map (cz cs a)
theorem was_succ (cs : List C) (a j q : Nat) : was cs a j (q + 1) = if q = j then was cs a j q else was cs a j q ++ [cz cs a q] := by
  unfold was
  rw [List.range_succ, List.filter_append]
  by_cases h : q = j
  · subst h; simp
  · simp [h]
theorem was_spec (cs : List C) (a j : Nat) : ∀ q, (was cs a j q).length = (if j < q then q - 1 else q) ∧ ∀ i, i < (was cs a j q).length → (was cs a j q).getD i 0 = if i < j then cz cs a i else cz cs a (i + 1)
  | 0 => ⟨rfl, fun i h => absurd h (Nat.not_lt_zero _)⟩
  | q + 1 => by
    obtain ⟨h1, h2⟩ := was_spec cs a j q
    rw [was_succ]
    by_cases h : q = j
    · subst h
      rw [if_pos rfl]
      rw [if_neg (Nat.lt_irrefl _)] at h1
      exact ⟨by rw [h1, if_pos (by omega)]; rfl, h2⟩
    · rw [if_neg h]
      refine ⟨by rw [List.length_append, h1]; simp only [List.length_cons, List.length_nil]; split <;> split <;> omega, fun i hi => ?_⟩
      rw [List.length_append] at hi
      simp only [List.length_cons, List.length_nil] at hi
      by_cases hlt : i < (was cs a j q).length
      · rw [List.getD_eq_getElem?_getD, List.getElem?_append_left hlt, ← List.getD_eq_getElem?_getD]; exact h2 i hlt
      · have : i = (was cs a j q).length := by omega
        subst this
        rw [List.getD_eq_getElem?_getD, List.getElem?_append_right (Nat.le_refl _), Nat.sub_self]
        show cz cs a q = _
        rw [h1]
        split <;> split <;> first | rfl | (congr 1; omega) | omega
theorem was_lt {cs : List C} (h : Sound cs) (a j q : Nat) : ∀ x ∈ was cs a j q, x < 256 := by
  intro x hx
  unfold was at hx
  rw [List.mem_map] at hx
  obtain ⟨i, _, rfl⟩ := hx
  exact sound_at h _
/-- With Insert: the cursor's cell, and what stood in the line behind it. -/
theorem insert_at {s : S} {k c j : Nat} (hk : k < s.cs.length) (ho : open_ s.cs k = true) (hi : s.ins = true) (hf : free s.cs (line s.cs k) = some j) : ((laid s k c).getD k noC).c = c ∧ ∀ i, i + 1 < lineLen s.cs k → ((laid s k c).getD (on s.cs.length (k : Int) ((i + 1 : Nat) : Int)) noC).c = (was s.cs k j (lineLen s.cs k)).getD i 0 := by
  obtain ⟨h1, h2, h3, h4⟩ := laid_at hk ho c
  have hfar : far s k = j := by unfold far; rw [hi, hf]; rfl
  have hfl := far_lt hk ho
  obtain ⟨w1, w2⟩ := was_spec s.cs k j (lineLen s.cs k)
  refine ⟨by rw [h1], fun i hin => ?_⟩
  rw [if_pos (by omega)] at w1
  rw [w2 i (by omega)]
  have hz : 0 < s.cs.length := by omega
  by_cases hij : i < j
  · rw [if_pos hij]
    have := h2 i (by omega)
    have e : on s.cs.length (k : Int) ((i + 1 : Nat) : Int) = on s.cs.length (k : Int) ((i : Int) + 1) := rfl
    rw [e, this]; rfl
  · rw [if_neg hij]
    have ek : on s.cs.length (k : Int) ((0 : Nat) : Int) = k := on_zero hk
    rw [h4]
    · rfl
    · intro he
      have := line_inj hk hin (show 0 < lineLen s.cs k by omega) (by rw [ek]; exact he)
      omega
    · intro he
      obtain ⟨b, hb, _, hbf⟩ := begin_fat hk (by omega)
      have hop := (line_cell hk hin).2
      have : b = on s.cs.length (k : Int) ((i + 1 : Nat) : Int) := by omega
      rw [← this] at hop
      rw [open_nfat hop] at hbf; cases hbf
    · intro q hq he
      have := line_inj hk hin (show q + 1 < lineLen s.cs k by omega) he
      omega
/-- Without Insert a letter over another one is as that letter alone. -/
theorem over_at {s : S} {k c d : Nat} (hk : k < s.cs.length) (ho : open_ s.cs k = true) (hi : s.ins = false) : laid { s with cs := laid s k c, cur := (k : Nat) } k d = laid s k d := by
  have ha := laid_alikn hk ho c
  have ho2 : open_ (laid s k c) k = true := by rw [alike_open ha.1]; exact ho
  have hl := laid_length s k c
  obtain ⟨h1, h2, h3, h4⟩ := laid_at hk ho d
  obtain ⟨c1, c2, c3, c4⟩ := laid_at hk ho c
  have hs0 : far s k = 0 := by unfold far; rw [hi]; rfl
  let t : S := { s with cs := laid s k c, cur := (k : Nat) }
  have ht0 : far t k = 0 := by unfold far; show (if s.ins = true then _ else 0) = 0; rw [hi]; rfl
  obtain ⟨d1, d2, d3, d4⟩ := laid_at (s := t) (by show k < (laid s k c).length; rw [hl]; exact hk) ho2 d
  have hb : begin_ t.cs k = begin_ s.cs k := alike_begin ha.1 k
  refine List.ext_getElem ?_ fun i g1 g2 => ?_
  · rw [laid_length, laid_length, laid_length]
  · have g2' : i < s.cs.length := by rwa [laid_length] at g2
    have key : (laid t k d).getD i noC = (laid s k d).getD i noC := by
      by_cases hik : i = k
      · subst hik; rw [d1, h1]; show { (laid s i c).getD i noC with c := d } = _; rw [c1]
      · by_cases hib : begin_ s.cs k = (i : Int)
        · rw [d3 i (by rw [hb]; exact hib), h3 i hib]; show { (laid s k c).getD i noC with m := true } = _; rw [c3 i hib]
        · rw [d4 i hik (by rw [hb]; exact hib) (fun q hq => by omega), h4 i hik hib (fun q hq => by omega)]
          show (laid s k c).getD i noC = _
          rw [c4 i hik hib (fun q hq => by omega)]
    rw [List.getD_eq_getElem?_getD, List.getD_eq_getElem?_getD, List.getElem?_eq_getElem g1, List.getElem?_eq_getElem g2] at key
    exact key
theorem right_cur {s : S} (h : sright s = true) {x : Int} (h0 : 0 ≤ x) (h1 : x < (s.cs.length : Int)) : sright { s with cur := x } = true := by
  obtain ⟨g1, g2, _, _, g5⟩ := sright_parts h
  have e : sright { s with cur := x } = (sized s.rows s.cols && (decide ((s.cs.length : Int) = s.rows * s.cols) && (decide (0 ≤ x) && (decide (x < (s.cs.length : Int)) && s.cs.all cright)))) := rfl
  rw [e, g1, decide_eq_true g2, decide_eq_true h0, decide_eq_true h1, List.all_eq_true.2 g5]; rfl
/-- Without Insert a letter typed where another one was typed leaves the screen that it leaves alone. -/
theorem over_typ {s : S} (hr : sright s = true) (hi : s.ins = false) {c d : Nat} (hc : (typ s c).2.1 = 0) (hd : (typ s d).2.1 = 0) : typ { (typ s c).1 with cur := s.cur } d = typ s d := by
  obtain ⟨k, e1, e2, hk⟩ := cur_nat hr
  rcases typ_cases s c with ⟨code, _, h0, h | h⟩ | ⟨h, c1, c2, c3, c4, c5⟩
  · rw [h] at hc; exact absurd hc h0
  · rw [h] at hc; exact absurd hc h0
  rcases typ_cases s d with ⟨code, _, h0, h' | h'⟩ | ⟨h', d1, d2, d3, d4, d5⟩
  · rw [h'] at hd; exact absurd hd h0
  · rw [h'] at hd; exact absurd hd h0
  rw [h, h']
  rw [e2] at *
  have ha := laid_alikn hk c3 c
  have hov := over_at (c := c) (d := d) hk c3 hi
  have ht : ({ (typed s k c, (0 : Nat), (-1 : Int)).1 with cur := s.cur } : S) = { s with cs := laid s k c, cur := (k : Nat) } := by rw [e1]; rfl
  rw [ht]
  have e3 : typ { s with cs := laid s k c, cur := (k : Nat) } d = (typed { s with cs := laid s k c, cur := (k : Nat) } k d, 0, -1) := by
    unfold typ
    simp only [Int.toNat_natCast]
    rw [if_neg (by rw [d1]; decide), if_neg (by rw [c2]; decide), if_neg (by rw [alike_open ha.1, c3]; decide), (alikn_attr ha k).1, if_neg (by rw [d4]; decide), if_neg (by rw [hi]; simp)]
  rw [e3]
  show (({ s with cs := laid { s with cs := laid s k c, cur := (k : Nat) } k d, cur := (goes (laid { s with cs := laid s k c, cur := (k : Nat) } k d) k : Nat) } : S), (0 : Nat), (-1 : Int)) = _
  rw [hov]
  rfl
theorem right_sound {s : S} (h : sright s = true) : Sound s.cs := by
  obtain ⟨_, _, _, _, h5⟩ := sright_parts h
  intro o ho
  have h1 := h5 o ho
  obtain ⟨f, p, n, q, m, c⟩ := o
  cases f with
  | true => simp [cright] at h1; simp only; omega
  | false =>
    simp [cright, Att.char] at h1
    simp only
    omega
end Edt
end Go.Proofs.YtpdlpmbjhopnnaaGreatDoor
/- Plain: where a number first stands in a list; a line as what is cut off a field's cells. -/
namespace Go.Proofs.YtpdlpmbjhopnnaaGreatDoor
set_option linter.unusedVariables false
namespace Edt
open Grd Fld
theorem first_at : ∀ (xs : List Nat) (a : Nat), (∃ j, j < xs.length ∧ xs.getD j 0 = a ∧ (∀ i, i < j → xs.getD i 0 ≠ a) ∧ xs.dropWhile (fun x => x != a) = xs.drop j) ∨ xs.dropWhile (fun x => x != a) = []
  | [], a => .inr rfl
  | x :: xs, a => by
    by_cases h : x = a
    · subst h
      exact .inl ⟨0, by simp, by simp, fun i hi => absurd hi (Nat.not_lt_zero _), by rw [List.dropWhile_cons_of_neg (by simp)]; rfl⟩
    · have e : (x :: xs).dropWhile (fun y => y != a) = xs.dropWhile (fun y => y != a) := by rw [List.dropWhile_cons_of_pos (by simpa using h)]
      rcases first_at xs a with ⟨j, h1, h2, h3, h4⟩ | h1
      · refine .inl ⟨j + 1, by simpa using h1, by simpa using h2, fun i hi => ?_, by rw [e, h4]; rfl⟩
        cases i with
        | zero => simpa using h
        | succ i => simpa using h3 i (by omega)
      · exact .inr (by rw [e, h1])
/-- Where a cell stands among its field's, its line begins. -/
theorem line_first {cs : List C} {a : Nat} (ha : a < cs.length) (ho : open_ cs a = true) : ∃ j, j < (cells cs a).length ∧ (cells cs a).getD j 0 = a ∧ (∀ i, i < j → (cells cs a).getD i 0 ≠ a) ∧ line cs a = (cells cs a).drop j := by
  rw [line_drop ha ho]
  rcases first_at (cells cs a) a with h | h
  · exact h
  · have := (lineLen_pos ha ho).1
    rw [← line_length, line_drop ha ho, h] at this
    exact absurd this (Nat.lt_irrefl _)
theorem line_closed {cs : List C} {a : Nat} (ho : open_ cs a = false) : line cs a = [] := by
  have : lineLen cs a = 0 := by unfold lineLen; rw [if_neg (by rw [ho]; decide)]
  unfold line; rw [this]; rfl
theorem cells_len (cs : List C) (a : Nat) (hz : 0 < cs.length) : (cells cs a).length ≤ cs.length := by
  unfold cells cellsAt
  rw [List.length_map, List.length_range]
  unfold clen
  split
  · rename_i k hk
    have := firstK_some hk
    omega
  · exact Nat.le_refl _
/-- What is suitable in a Numeric field. -/
def suits (c : Nat) : Bool := digit c || (c == 28 || c == 30)
theorem suits_not (c : Nat) (n : Bool) : ((n && !digit c) && (c != 28 && c != 30)) = (n && !suits c) := by
  unfold suits
  cases n <;> cases digit c <;> cases h1 : (c == 28) <;> cases h2 : (c == 30) <;> simp_all [bne]
end Edt
end Go.Proofs.YtpdlpmbjhopnnaaGreatDoor
/- Plain: a letter put at a line's first cell, each cell's character going to the next one. -/
namespace Go.Proofs.YtpdlpmbjhopnnaaGreatDoor
set_option linter.unusedVariables false
namespace Edt
open Grd Fld
/-- The character that comes to the q-th cell. -/
def chr (cs : List C) (l : List Nat) (c q : Nat) : Nat := if q = 0 then c else (cs.getD (l.getD (q - 1) 0) noC).c
def putq (l : List Nat) (cs : List C) (c : Nat) : Nat → List C
  | 0 => cs
  | q + 1 => (putq l cs c q).set (l.getD q 0) { (putq l cs c q).getD (l.getD q 0) noC with c := chr cs l c q }
theorem putq_length (l : List Nat) (cs : List C) (c : Nat) : ∀ q, (putq l cs c q).length = cs.length
  | 0 => rfl
  | q + 1 => by rw [putq, List.length_set, putq_length l cs c q]
theorem putq_at {l : List Nat} {cs : List C} {c : Nat} (hl : ∀ i, i < l.length → l.getD i 0 < cs.length) (hd : ∀ i j, i < l.length → j < l.length → l.getD i 0 = l.getD j 0 → i = j) : ∀ q, q ≤ l.length →
    (∀ i, i < q → (putq l cs c q).getD (l.getD i 0) noC = { cs.getD (l.getD i 0) noC with c := chr cs l c i }) ∧ ∀ x, (∀ i, i < q → x ≠ l.getD i 0) → (putq l cs c q).getD x noC = cs.getD x noC
  | 0, _ => ⟨fun i h => absurd h (Nat.not_lt_zero _), fun _ _ => rfl⟩
  | q + 1, hq => by
    obtain ⟨h1, h2⟩ := putq_at (c := c) hl hd q (by omega)
    have h3 : (putq l cs c q).getD (l.getD q 0) noC = cs.getD (l.getD q 0) noC := h2 _ fun i hi he => by
      have := hd _ _ (show q < l.length by omega) (show i < l.length by omega) he
      omega
    refine ⟨fun i hi => ?_, fun x hx => ?_⟩
    · rw [putq, getD_set, h3]
      by_cases hiq : i = q
      · subst hiq; rw [if_pos ⟨rfl, by rw [putq_length]; exact hl _ (by omega)⟩]
      · rw [if_neg (fun h => by have := hd _ _ (show q < l.length by omega) (show i < l.length by omega) h.1; omega)]
        exact h1 i (by omega)
    · rw [putq, getD_set, if_neg (fun h => hx q (by omega) h.1.symm)]
      exact h2 x fun i hi => hx i (by omega)
/-- The q-th cell's own character goes to the next one. -/
theorem putq_chr {l : List Nat} {cs : List C} {c : Nat} (hl : ∀ i, i < l.length → l.getD i 0 < cs.length) (hd : ∀ i j, i < l.length → j < l.length → l.getD i 0 = l.getD j 0 → i = j) {q : Nat} (hq : q < l.length) : (putq l cs c q).getD (l.getD q 0) noC = cs.getD (l.getD q 0) noC ∧ ((putq l cs c q).getD (l.getD q 0) noC).c = chr cs l c (q + 1) := by
  have h := (putq_at (c := c) hl hd q (by omega)).2 (l.getD q 0) fun i hi he => by
    have := hd _ _ hq (show i < l.length by omega) he
    omega
  refine ⟨h, ?_⟩
  rw [h]; unfold chr; rw [if_neg (by omega)]; rfl
/-- The cells that a letter at k changes. -/
def lineTo (s : S) (k : Nat) : List Nat := (line s.cs k).take (far s k + 1)
theorem lineTo_length {s : S} {k : Nat} (hk : k < s.cs.length) (ho : open_ s.cs k = true) : (lineTo s k).length = far s k + 1 := by
  have := far_lt hk ho
  unfold lineTo
  rw [List.length_take, line_length]; omega
theorem lineTo_getD {s : S} {k : Nat} (hk : k < s.cs.length) (ho : open_ s.cs k = true) {i : Nat} (hi : i < far s k + 1) : (lineTo s k).getD i 0 = on s.cs.length (k : Int) (i : Int) := by
  have := far_lt hk ho
  rw [← line_getD (cs := s.cs) (show i < lineLen s.cs k by omega)]
  unfold lineTo
  simp [List.getD_eq_getElem?_getD, List.getElem?_take_of_lt hi]
theorem lineTo_hl {s : S} {k : Nat} (hk : k < s.cs.length) (ho : open_ s.cs k = true) : ∀ i, i < (lineTo s k).length → (lineTo s k).getD i 0 < (modif s k).cs.length := fun i hi => by
  rw [lineTo_length hk ho] at hi
  rw [lineTo_getD hk ho hi, modif_length]
  exact on_lt (by omega) _ _
theorem lineTo_hd {s : S} {k : Nat} (hk : k < s.cs.length) (ho : open_ s.cs k = true) : ∀ i j, i < (lineTo s k).length → j < (lineTo s k).length → (lineTo s k).getD i 0 = (lineTo s k).getD j 0 → i = j := fun i j hi hj he => by
  have := far_lt hk ho
  rw [lineTo_length hk ho] at hi hj
  rw [lineTo_getD hk ho hi, lineTo_getD hk ho hj] at he
  exact line_inj hk (by omega) (by omega) he
theorem putq_laid {s : S} {k c : Nat} (hk : k < s.cs.length) (ho : open_ s.cs k = true) : putq (lineTo s k) (modif s k).cs c (far s k + 1) = laid s k c := by
  obtain ⟨h1, h2⟩ := putq_at (c := c) (lineTo_hl hk ho) (lineTo_hd hk ho) (far s k + 1) (by rw [lineTo_length hk ho]; omega)
  obtain ⟨g1, g2, g3, g4⟩ := laid_at hk ho c
  have hfl := far_lt hk ho
  have hz : 0 < s.cs.length := by omega
  have ek : on s.cs.length (k : Int) ((0 : Nat) : Int) = k := on_zero hk
  have hnb : ∀ q, q < lineLen s.cs k → begin_ s.cs k ≠ ((on s.cs.length (k : Int) (q : Int) : Nat) : Int) := fun q hq he => by
    obtain ⟨b, hb, hbl, hbf⟩ := begin_fat hk (by rw [he]; omega)
    have e : b = on s.cs.length (k : Int) (q : Int) := by rw [hb] at he; omega
    have := open_nfat (line_cell hk hq).2
    rw [← e, hbf] at this; cases this
  refine List.ext_getElem (by rw [putq_length, modif_length, laid_length]) fun i hi1 hi2 => ?_
  have key : (putq (lineTo s k) (modif s k).cs c (far s k + 1)).getD i noC = (laid s k c).getD i noC := by
    by_cases hik : i = k
    · subst hik
      have := h1 0 (by omega)
      rw [lineTo_getD hk ho (by omega), ek] at this
      rw [this, g1, modif_at hk, if_neg (by have := hnb 0 (by omega); rwa [ek] at this)]
      rfl
    · by_cases hq : ∃ q, q < far s k ∧ i = on s.cs.length (k : Int) ((q : Int) + 1)
      · obtain ⟨q, hq, rfl⟩ := hq
        have := h1 (q + 1) (by omega)
        rw [lineTo_getD hk ho (by omega)] at this
        have e : on s.cs.length (k : Int) ((q + 1 : Nat) : Int) = on s.cs.length (k : Int) ((q : Int) + 1) := rfl
        rw [e] at this
        rw [this, g2 q hq, modif_at hk, if_neg (by have := hnb (q + 1) (by omega); exact this)]
        unfold chr
        rw [if_neg (by omega), show q + 1 - 1 = q by omega, lineTo_getD hk ho (by omega), modif_at hk, if_neg (by have := hnb q (by omega); exact this)]
      · have hx : ∀ q, q < far s k + 1 → i ≠ (lineTo s k).getD q 0 := fun q hq' he => by
          rw [lineTo_getD hk ho hq'] at he
          cases q with
          | zero => rw [ek] at he; exact hik he
          | succ q => exact hq ⟨q, by omega, he⟩
        rw [h2 i hx, modif_at hk]
        by_cases hib : begin_ s.cs k = (i : Int)
        · rw [if_pos hib, g3 i hib]
        · rw [if_neg hib, g4 i hik hib fun q hq' he => hq ⟨q, hq', he⟩]
  rw [List.getD_eq_getElem?_getD, List.getD_eq_getElem?_getD, List.getElem?_eq_getElem hi1, List.getElem?_eq_getElem hi2] at key
  exact key
end Edt
end Go.Proofs.YtpdlpmbjhopnnaaGreatDoor
