/- FldCov, EdtSpec, EdtMore, EdtRight, EdtFirst, EdtPutq in one text (by tools/bundle.py). -/
import Derived.Test.YtpgbnnnfeaodmaaGreatDoorSBunFld
import Derived.Test.YtpgbnnnfeaodmaaGreatDoorSBunPlain
/- Plain: fields part a screen: what was counted of the first i fields, and of k cells of the next one. -/
namespace Go.Proofs.YtpgbnnnfeaodmaaGreatDoor
set_option linter.unusedVariables false
namespace Fld
open Grd
theorem attr_cell {cs : List C} {b k : Nat} (hb : b < cs.length) (h : fat cs b = true) (hk : k < clen cs (b : Int)) : attrOf cs (on cs.length (b : Int) ((k : Int) + 1)) = cs.getD b noC := by
  unfold attrOf
  rw [begin_of_cell hb h hk, if_neg (by omega), Int.toNat_natCast]
theorem open_cell_ {cs : List C} {b k : Nat} (hb : b < cs.length) (h : fat cs b = true) (hk : k < clen cs (b : Int)) : open_ cs (on cs.length (b : Int) ((k : Int) + 1)) = !(cs.getD b noC).p := by
  unfold open_
  rw [attr_cell hb h hk, (clen_some hb h).2.1 k hk]; rfl
theorem open_none {cs : List C} {c : Nat} (hc : c < cs.length) (h : fmt cs = false) : open_ cs c = true := by
  unfold open_ attrOf
  have hf : fat cs c = false := by
    cases hf : fat cs c with
    | false => rfl
    | true => have := fmt_iff.2 ⟨c, hc, hf⟩; rw [h] at this; cases this
  rw [hf, begin_none hc h]; rfl
end Fld
end Go.Proofs.YtpgbnnnfeaodmaaGreatDoor
/- Plain: letters, lines, what is typed. -/
namespace Go.Proofs.YtpgbnnnfeaodmaaGreatDoor
set_option linter.unusedVariables false
namespace Edt
open Grd Fld
def ltr (c : Nat) : Bool := c != 0 && Att.char c
def digit (c : Nat) : Bool := (decide (240 ≤ c) && decide (c ≤ 249)) || (c == 96 || c == 75)
def lineLen (cs : List C) (a : Nat) : Nat := if open_ cs a then (if fmt cs then clen cs (a : Int) + 1 else cs.length - a) else 0
def line (cs : List C) (a : Nat) : List Nat := (List.range (lineLen cs a)).map fun (i : Nat) => on cs.length (a : Int) (i : Int)
theorem line_length (cs : List C) (a : Nat) : (line cs a).length = lineLen cs a := by simp [line]
theorem line_getD {cs : List C} {a i : Nat} (h : i < lineLen cs a) : (line cs a).getD i 0 = on cs.length (a : Int) (i : Int) := by
  simp [line, List.getD_eq_getElem?_getD, h]
theorem line_lt {cs : List C} {a x : Nat} (hz : 0 < cs.length) (h : x ∈ line cs a) : x < cs.length := by
  unfold line at h
  rw [List.mem_map] at h
  obtain ⟨i, _, rfl⟩ := h
  exact on_lt hz _ _
theorem drop_to : ∀ (j n : Nat) (f : Nat → Nat), j < n → (∀ i, i < j → f i ≠ f j) → ((List.range n).map f).dropWhile (fun x => x != f j) = (List.range (n - j)).map (fun i => f (j + i))
  | 0, n + 1, f, _, _ => by
    rw [List.range_succ_eq_map, List.map_cons, List.dropWhile_cons_of_neg (by simp)]
    rw [Nat.sub_zero, List.range_succ_eq_map]
    simp
  | j + 1, n + 1, f, h, hn => by
    rw [List.range_succ_eq_map, List.map_cons, List.dropWhile_cons_of_pos (by simpa using hn 0 (by omega)), List.map_map]
    have := drop_to j n (f ∘ Nat.succ) (by omega) (fun i hi => hn (i + 1) (by omega))
    rw [show n + 1 - (j + 1) = n - j by omega]
    refine Eq.trans this ?_
    refine List.map_congr_left fun i _ => ?_
    show f (j + i + 1) = f (j + 1 + i)
    congr 1; omega
theorem line_open_fmt {cs : List C} {a : Nat} (ha : a < cs.length) (hf : fmt cs = true) (ho : open_ cs a = true) : ∃ b j : Nat, begin_ cs a = (b : Int) ∧ b < cs.length ∧ fat cs b = true ∧ j < clen cs (b : Int) ∧ on cs.length (b : Int) ((j : Int) + 1) = a ∧ clen cs (a : Int) + 1 = clen cs (b : Int) - j := by
  have hn : fat cs a = false := by
    unfold open_ at ho
    simp only [Bool.and_eq_true, Bool.not_eq_true'] at ho
    exact ho.1
  obtain ⟨b, j, e1, e2, e3, e4, e5⟩ := cell_of_begin ha hf hn
  refine ⟨b, j, e1, e2, e3, e4, e5, ?_⟩
  obtain ⟨g1, g2, g3⟩ := clen_some e2 e3
  have e : ∀ k : Nat, on cs.length (a : Int) (k : Int) = on cs.length (b : Int) (((j + k : Nat) : Int) + 1) := fun k => by
    rw [← e5, on_on (by omega)]; congr 1; omega
  have hk : firstK (fun k => fat cs (on cs.length (a : Int) (k : Int))) 1 cs.length = some (clen cs (b : Int) - j) := by
    refine firstK_is (by omega) (by omega) ?_ fun i h1 h2 => ?_
    · rw [e, show j + (clen cs (b : Int) - j) = clen cs (b : Int) by omega]; exact g3
    · rw [e]; exact g2 _ (by omega)
  have hc : clen cs (a : Int) = clen cs (b : Int) - j - 1 := by
    show (match firstK (fun k => fat cs (on cs.length (a : Int) (k : Int))) 1 cs.length with | some k => k - 1 | none => cs.length) = _
    rw [hk]
  omega
theorem line_drop {cs : List C} {a : Nat} (ha : a < cs.length) (ho : open_ cs a = true) : line cs a = (cells cs a).dropWhile (fun x => x != a) := by
  unfold line lineLen
  rw [if_pos ho]
  cases hf : fmt cs with
  | true =>
    obtain ⟨b, j, e1, e2, e3, e4, e5, e6⟩ := line_open_fmt ha hf ho
    obtain ⟨g1, _, _⟩ := clen_some e2 e3
    rw [if_pos rfl, e6]
    unfold cells cellsAt
    rw [e1]
    have h := drop_to j (clen cs (b : Int)) (fun i => on cs.length (b : Int) ((i : Int) + 1)) e4 (fun i hi he => by
      have := on_inj2 (z := cs.length) (b := b) (i := i) (j := j) (by omega) (by omega) he
      omega)
    simp only [e5] at h
    rw [h]
    refine List.map_congr_left fun i _ => ?_
    rw [← e5, on_on (by omega)]; congr 1; omega
  | false =>
    rw [if_neg (by decide)]
    unfold cells cellsAt
    rw [begin_none ha hf, clen_none (by omega) hf]
    have e : ∀ i : Nat, i < cs.length → on cs.length (-1) ((i : Int) + 1) = i := fun i hi => by
      unfold on
      rw [show (-1 : Int) + ((i : Int) + 1) = (i : Int) by omega, Int.emod_eq_of_lt (by omega) (by omega)]; omega
    have h := drop_to a cs.length (fun i => on cs.length (-1) ((i : Int) + 1)) ha (fun i hi he => by
      rw [e i (by omega), e a ha] at he; omega)
    simp only [e a ha] at h
    rw [h]
    refine List.map_congr_left fun i hi => ?_
    rw [List.mem_range] at hi
    rw [e (a + i) (by omega), on_nat, Nat.mod_eq_of_lt (by omega)]
theorem lineLen_pos {cs : List C} {a : Nat} (ha : a < cs.length) (ho : open_ cs a = true) : 0 < lineLen cs a ∧ lineLen cs a ≤ cs.length := by
  unfold lineLen
  rw [if_pos ho]
  cases hf : fmt cs with
  | true =>
    obtain ⟨b, j, e1, e2, e3, e4, e5, e6⟩ := line_open_fmt ha hf ho
    obtain ⟨g1, _, _⟩ := clen_some e2 e3
    rw [if_pos rfl]; omega
  | false => rw [if_neg (by decide)]; omega
theorem lineLen_le {cs : List C} {a : Nat} (ha : a < cs.length) : lineLen cs a ≤ cs.length := by
  cases ho : open_ cs a with
  | true => exact (lineLen_pos ha ho).2
  | false => unfold lineLen; rw [if_neg (by rw [ho]; decide)]; omega
theorem line_inj {cs : List C} {a i j : Nat} (ha : a < cs.length) (hi : i < lineLen cs a) (hj : j < lineLen cs a) (h : on cs.length (a : Int) (i : Int) = on cs.length (a : Int) (j : Int)) : i = j := by
  have := lineLen_le ha
  exact on_inj (by omega) (by omega) h
def modif (s : S) (a : Nat) : S := if begin_ s.cs a < 0 then s else { s with cs := s.cs.set (begin_ s.cs a).toNat { s.cs.getD (begin_ s.cs a).toNat noC with m := true } }
def deny (s : S) : S := { s with lk := true }
def free (cs : List C) (l : List Nat) : Option Nat := firstK (fun i => (cs.getD (l.getD i 0) noC).c == 0) 0 l.length
def shifted (cs0 : List C) (l : List Nat) : Nat → List C → List C
  | 0, cs => cs
  | j + 1, cs => (shifted cs0 l j cs).set (l.getD (j + 1) 0) { (shifted cs0 l j cs).getD (l.getD (j + 1) 0) noC with c := (cs0.getD (l.getD j 0) noC).c }
def laid (s : S) (k c : Nat) : List C :=
  let o := if s.ins then shifted s.cs (line s.cs k) ((free s.cs (line s.cs k)).getD 0) (modif s k).cs else (modif s k).cs
  o.set k { o.getD k noC with c := c }
def goes (cs : List C) (k : Nat) : Nat :=
  let at_ := on cs.length (k : Int) 1
  let x := cs.getD at_ noC
  if x.f then (if (x.p && x.n) && decide (0 ≤ next cs at_) then (next cs at_).toNat else on cs.length (at_ : Int) 1) else at_
def typed (s : S) (k c : Nat) : S := { s with cs := laid s k c, cur := (goes (laid s k c) k : Nat) }
def typ (s : S) (c : Nat) : S × Nat × Int :=
  let k := s.cur.toNat
  if ltr c = false then (s, 3, -1)
  else if s.lk then (s, 7, -1)
  else if open_ s.cs k = false then (deny s, 8, s.cur)
  else if ((attrOf s.cs k).n && !digit c) && (c != 28 && c != 30) then (deny s, 9, s.cur)
  else if s.ins && (free s.cs (line s.cs k)).isNone then (deny s, 10, s.cur)
  else (typed s k c, 0, -1)
end Edt
end Go.Proofs.YtpgbnnnfeaodmaaGreatDoor
/- Plain: what a letter that is typed changes. -/
namespace Go.Proofs.YtpgbnnnfeaodmaaGreatDoor
set_option linter.unusedVariables false
namespace Edt
open Grd Fld
theorem getD_set (cs : List C) (i j : Nat) (o : C) : (cs.set i o).getD j noC = if i = j ∧ i < cs.length then o else cs.getD j noC := by
  simp only [List.getD_eq_getElem?_getD, List.getElem?_set]
  by_cases h : i = j
  · subst h
    by_cases h2 : i < cs.length
    · simp [h2]
    · simp [h2]
  · simp [h]
theorem line_cell {cs : List C} {a q : Nat} (ha : a < cs.length) (hq : q < lineLen cs a) : begin_ cs (on cs.length (a : Int) (q : Int)) = begin_ cs a ∧ open_ cs (on cs.length (a : Int) (q : Int)) = true := by
  cases ho : open_ cs a with
  | false => unfold lineLen at hq; rw [if_neg (by rw [ho]; decide)] at hq; omega
  | true =>
    cases hf : fmt cs with
    | true =>
      obtain ⟨b, j, e1, e2, e3, e4, e5, e6⟩ := line_open_fmt ha hf ho
      have hl : lineLen cs a = clen cs (b : Int) - j := by unfold lineLen; rw [if_pos ho, if_pos hf, e6]
      have e : on cs.length (a : Int) (q : Int) = on cs.length (b : Int) (((j + q : Nat) : Int) + 1) := by
        rw [← e5, on_on (by omega)]; congr 1; omega
      rw [e, begin_of_cell e2 e3 (by omega), e1]
      refine ⟨rfl, ?_⟩
      have h1 := open_cell_ e2 e3 (k := j) e4
      rw [e5, ho] at h1
      rw [open_cell_ e2 e3 (by omega), ← h1]
    | false =>
      have hl := on_lt (z := cs.length) (by omega) (a : Int) (q : Int)
      rw [begin_none hl hf, begin_none ha hf]
      exact ⟨rfl, open_none hl hf⟩
theorem open_nfat {cs : List C} {i : Nat} (h : open_ cs i = true) : (cs.getD i noC).f = false := by
  unfold open_ fat at h
  simp only [Bool.and_eq_true, Bool.not_eq_true'] at h
  exact h.1
theorem begin_fat {cs : List C} {a : Nat} (ha : a < cs.length) (h : 0 ≤ begin_ cs a) : ∃ b : Nat, begin_ cs a = (b : Int) ∧ b < cs.length ∧ (cs.getD b noC).f = true := by
  cases hf : fmt cs with
  | false => rw [begin_none ha hf] at h; omega
  | true =>
    obtain ⟨k, b, _, _, h3, h4, h5, _⟩ := begin_some ha hf
    exact ⟨b, h3, h4, h5⟩
theorem modif_length (s : S) (a : Nat) : (modif s a).cs.length = s.cs.length := by
  unfold modif; split <;> simp
theorem modif_rest (s : S) (a : Nat) : (modif s a).rows = s.rows ∧ (modif s a).cols = s.cols ∧ (modif s a).cur = s.cur ∧ (modif s a).lk = s.lk ∧ (modif s a).ins = s.ins := by
  unfold modif; split <;> exact ⟨rfl, rfl, rfl, rfl, rfl⟩
theorem modif_at {s : S} {a : Nat} (ha : a < s.cs.length) (i : Nat) : (modif s a).cs.getD i noC = if begin_ s.cs a = (i : Int) then { s.cs.getD i noC with m := true } else s.cs.getD i noC := by
  unfold modif
  by_cases h : begin_ s.cs a < 0
  · rw [if_pos h, if_neg (by omega)]
  · rw [if_neg h]
    obtain ⟨b, hb, hl, _⟩ := begin_fat ha (by omega)
    rw [hb]
    simp only [getD_set, Int.toNat_natCast]
    by_cases hi : b = i
    · subst hi; rw [if_pos ⟨rfl, hl⟩, if_pos rfl]
    · rw [if_neg (by omega), if_neg (by omega)]
theorem shifted_length (cs0 : List C) (l : List Nat) (cs : List C) : ∀ j, (shifted cs0 l j cs).length = cs.length
  | 0 => rfl
  | j + 1 => by rw [shifted, List.length_set, shifted_length cs0 l cs j]
theorem shifted_at {cs0 cs : List C} {l : List Nat} (hl : ∀ i, i < l.length → l.getD i 0 < cs.length) (hd : ∀ i j, i < l.length → j < l.length → l.getD i 0 = l.getD j 0 → i = j) : ∀ j, j < l.length →
    (∀ q, q < j → (shifted cs0 l j cs).getD (l.getD (q + 1) 0) noC = { cs.getD (l.getD (q + 1) 0) noC with c := (cs0.getD (l.getD q 0) noC).c }) ∧ ∀ i, (∀ q, q < j → i ≠ l.getD (q + 1) 0) → (shifted cs0 l j cs).getD i noC = cs.getD i noC
  | 0, _ => ⟨fun q h => absurd h (Nat.not_lt_zero _), fun i _ => rfl⟩
  | j + 1, hj => by
    obtain ⟨h1, h2⟩ := shifted_at (cs0 := cs0) (cs := cs) hl hd j (by omega)
    have h3 : (shifted cs0 l j cs).getD (l.getD (j + 1) 0) noC = cs.getD (l.getD (j + 1) 0) noC := h2 _ fun q hq he => by
      have := hd _ _ hj (show q + 1 < l.length by omega) he
      omega
    refine ⟨fun q hq => ?_, fun i hi => ?_⟩
    · rw [shifted, getD_set, h3]
      by_cases hqj : q = j
      · subst hqj; rw [if_pos ⟨rfl, by rw [shifted_length]; exact hl _ hj⟩]
      · rw [if_neg (fun h => by have := hd _ _ hj (show q + 1 < l.length by omega) h.1; omega)]
        exact h1 q (by omega)
    · rw [shifted, getD_set, if_neg (fun h => hi j (by omega) h.1.symm)]
      exact h2 i fun q hq => hi q (by omega)
theorem free_some {cs : List C} {l : List Nat} {j : Nat} (h : free cs l = some j) : j < l.length ∧ (cs.getD (l.getD j 0) noC).c = 0 ∧ ∀ i, i < j → (cs.getD (l.getD i 0) noC).c ≠ 0 := by
  obtain ⟨_, h2, h3, h4⟩ := firstK_some h
  refine ⟨by omega, by simpa using h3, fun i hi => ?_⟩
  have := h4 i (Nat.zero_le _) hi
  simpa using this
def far (s : S) (k : Nat) : Nat := if s.ins then (free s.cs (line s.cs k)).getD 0 else 0
theorem far_lt {s : S} {k : Nat} (hk : k < s.cs.length) (ho : open_ s.cs k = true) : far s k < lineLen s.cs k := by
  have h0 := (lineLen_pos hk ho).1
  unfold far
  split
  · cases h : free s.cs (line s.cs k) with
    | none => exact h0
    | some j => have := (free_some h).1; rw [line_length] at this; exact this
  · exact h0
theorem laid_eq (s : S) (k c : Nat) : laid s k c = (shifted s.cs (line s.cs k) (far s k) (modif s k).cs).set k { (shifted s.cs (line s.cs k) (far s k) (modif s k).cs).getD k noC with c := c } := by
  unfold laid far
  cases s.ins <;> rfl
theorem laid_length (s : S) (k c : Nat) : (laid s k c).length = s.cs.length := by
  rw [laid_eq, List.length_set, shifted_length, modif_length]
theorem laid_at {s : S} {k : Nat} (hk : k < s.cs.length) (ho : open_ s.cs k = true) (c : Nat) :
    (laid s k c).getD k noC = { s.cs.getD k noC with c := c } ∧
    (∀ q, q < far s k → (laid s k c).getD (on s.cs.length (k : Int) ((q : Int) + 1)) noC = { s.cs.getD (on s.cs.length (k : Int) ((q : Int) + 1)) noC with c := (s.cs.getD (on s.cs.length (k : Int) (q : Int)) noC).c }) ∧
    (∀ i : Nat, begin_ s.cs k = (i : Int) → (laid s k c).getD i noC = { s.cs.getD i noC with m := true }) ∧
    ∀ i : Nat, i ≠ k → begin_ s.cs k ≠ (i : Int) → (∀ q, q < far s k → i ≠ on s.cs.length (k : Int) ((q : Int) + 1)) → (laid s k c).getD i noC = s.cs.getD i noC := by
  have hfl := far_lt hk ho
  have hz : 0 < s.cs.length := by omega
  have hlg : ∀ i, i < lineLen s.cs k → (line s.cs k).getD i 0 = on s.cs.length (k : Int) (i : Int) := fun i hi => line_getD hi
  obtain ⟨h1, h2⟩ := shifted_at (cs0 := s.cs) (cs := (modif s k).cs) (l := line s.cs k) (fun i hi => by rw [modif_length]; rw [line_length] at hi; rw [hlg i hi]; exact on_lt hz _ _)
    (fun i j hi hj he => by rw [line_length] at hi hj; rw [hlg i hi, hlg j hj] at he; exact line_inj hk hi hj he) (far s k) (by rw [line_length]; exact hfl)
  have hnb : ∀ q, q < lineLen s.cs k → begin_ s.cs k ≠ ((on s.cs.length (k : Int) (q : Int) : Nat) : Int) := fun q hq he => by
    obtain ⟨b, hb, hbl, hbf⟩ := begin_fat hk (by rw [he]; omega)
    have e : b = on s.cs.length (k : Int) (q : Int) := by rw [hb] at he; omega
    have := open_nfat (line_cell hk hq).2
    rw [← e, hbf] at this; cases this
  have ek : on s.cs.length (k : Int) ((0 : Nat) : Int) = k := on_zero hk
  have hl0 := (lineLen_pos hk ho).1
  have hk0 : ∀ q, q < far s k → k ≠ (line s.cs k).getD (q + 1) 0 := fun q hq he => by
    rw [hlg _ (by omega), ← ek, on_on hz] at he
    have := line_inj hk hl0 (show q + 1 < lineLen s.cs k by omega) (by rw [ek]; rw [show ((0 : Nat) : Int) + ((q + 1 : Nat) : Int) = ((q + 1 : Nat) : Int) by omega] at he; rw [← he, ek])
    omega
  have hsk : (shifted s.cs (line s.cs k) (far s k) (modif s k).cs).getD k noC = s.cs.getD k noC := by
    rw [h2 k hk0, modif_at hk, if_neg]
    have := hnb 0 hl0
    rwa [ek] at this
  have hlen : (shifted s.cs (line s.cs k) (far s k) (modif s k).cs).length = s.cs.length := by rw [shifted_length, modif_length]
  rw [laid_eq, hsk]
  refine ⟨by rw [getD_set, if_pos ⟨rfl, by rw [hlen]; exact hk⟩], fun q hq => ?_, fun i hi => ?_, fun i h3 h4 h5 => ?_⟩
  · have e : (line s.cs k).getD (q + 1) 0 = on s.cs.length (k : Int) ((q : Int) + 1) := by rw [hlg _ (by omega)]; rfl
    have hne := hk0 q hq
    rw [e] at hne
    have := h1 q hq
    rw [e, hlg _ (by omega), modif_at hk, if_neg (by have := hnb (q + 1) (by omega); exact this)] at this
    rw [getD_set, if_neg (fun h => hne h.1), this]
  · have hik : i ≠ k := fun h => by
      subst h
      have := hnb 0 hl0
      rw [ek] at this
      exact this hi
    rw [getD_set, if_neg (fun h => hik h.1.symm), h2 i fun q hq he => ?_, modif_at hk, if_pos hi]
    rw [hlg _ (by omega)] at he
    exact hnb _ (show q + 1 < lineLen s.cs k by omega) (by rw [← he]; exact hi)
  · rw [getD_set, if_neg (fun h => h3 h.1.symm), h2 i fun q hq he => h5 q hq (by rw [he, hlg _ (by omega)]; rfl), modif_at hk, if_neg h4]
end Edt
end Go.Proofs.YtpgbnnnfeaodmaaGreatDoor
/- Plain: a right screen stays right behind a letter; what stood in a line stands there yet; a letter typed over another one. -/
namespace Go.Proofs.YtpgbnnnfeaodmaaGreatDoor
set_option linter.unusedVariables false
namespace Edt
open Grd Fld
theorem ltr_char {c : Nat} (h : ltr c = true) : Att.char c = true ∧ c ≠ 0 := by
  unfold ltr at h
  simp only [Bool.and_eq_true, bne_iff_ne, ne_eq] at h
  exact ⟨h.2, h.1⟩
theorem next_lt {cs : List C} (hz : 0 < cs.length) (a : Nat) : next cs a < (cs.length : Int) ∧ -1 ≤ next cs a := by
  unfold next
  split
  · rename_i k _
    have := on_lt hz (a : Int) ((k : Int) + 1)
    omega
  · omega
theorem goes_lt {cs : List C} (hz : 0 < cs.length) (k : Nat) : goes cs k < cs.length := by
  unfold goes
  have h1 := on_lt hz (k : Int) 1
  simp only
  split
  · split
    · rename_i h2
      have := next_lt hz (on cs.length (k : Int) 1)
      simp only [Bool.and_eq_true, decide_eq_true_eq] at h2
      omega
    · exact on_lt hz _ _
  · exact h1
theorem cright_char {o : C} (h : cright o = true) (hf : o.f = false) : Att.char o.c = true ∧ ∀ x, Att.char x = true → cright { o with c := x } = true := by
  obtain ⟨f, p, n, s, m, c⟩ := o
  simp only at hf
  subst hf
  simp only [cright, Bool.false_eq_true, if_false, Bool.and_eq_true] at h ⊢
  exact ⟨h.2, fun x hx => ⟨h.1, hx⟩⟩
theorem cright_mod {o : C} (h : cright o = true) (hf : o.f = true) : cright { o with m := true } = true := by
  obtain ⟨f, p, n, s, m, c⟩ := o
  simp only at hf
  subst hf
  simp only [cright, if_true] at h ⊢
  exact h
theorem cell_right {s : S} (h : sright s = true) {i : Nat} (hi : i < s.cs.length) : cright (s.cs.getD i noC) = true := by
  obtain ⟨_, _, _, _, h5⟩ := sright_parts h
  rw [List.getD_eq_getElem?_getD, List.getElem?_eq_getElem hi]
  exact h5 _ (List.getElem_mem hi)
theorem laid_right {s : S} (h : sright s = true) {k c : Nat} (hk : k < s.cs.length) (ho : open_ s.cs k = true) (hc : Att.char c = true) : ∀ i, i < s.cs.length → cright ((laid s k c).getD i noC) = true := by
  intro i hi
  obtain ⟨h1, h2, h3, h4⟩ := laid_at hk ho c
  have hfl := far_lt hk ho
  by_cases hik : i = k
  · subst hik; rw [h1]; exact (cright_char (cell_right h hi) (open_nfat ho)).2 c hc
  · by_cases hib : begin_ s.cs k = (i : Int)
    · rw [h3 i hib]
      obtain ⟨b, hb, _, hbf⟩ := begin_fat hk (by omega)
      have : b = i := by omega
      subst this
      exact cright_mod (cell_right h hi) hbf
    · by_cases hq : ∃ q, q < far s k ∧ i = on s.cs.length (k : Int) ((q : Int) + 1)
      · obtain ⟨q, hq, rfl⟩ := hq
        rw [h2 q hq]
        have o1 := (line_cell hk (show q < lineLen s.cs k by omega)).2
        have o2 := (line_cell hk (show q + 1 < lineLen s.cs k by omega)).2
        have e : on s.cs.length (k : Int) ((q + 1 : Nat) : Int) = on s.cs.length (k : Int) ((q : Int) + 1) := rfl
        rw [e] at o2
        exact (cright_char (cell_right h hi) (open_nfat o2)).2 _ (cright_char (cell_right h (on_lt (by omega) _ _)) (open_nfat o1)).1
      · rw [h4 i hik hib fun q hq' he => hq ⟨q, hq', he⟩]; exact cell_right h hi
theorem typed_right {s : S} (h : sright s = true) {k c : Nat} (hk : k < s.cs.length) (ho : open_ s.cs k = true) (hc : Att.char c = true) : sright (typed s k c) = true := by
  obtain ⟨h1, h2, h3, h4, h5⟩ := sright_parts h
  have hl := laid_length s k c
  have hg := goes_lt (cs := laid s k c) (by omega) k
  have e1 : sright (typed s k c) = (sized s.rows s.cols && (decide (((laid s k c).length : Int) = s.rows * s.cols) && (decide (0 ≤ ((goes (laid s k c) k : Nat) : Int)) && (decide (((goes (laid s k c) k : Nat) : Int) < ((laid s k c).length : Int)) && (laid s k c).all cright)))) := rfl
  rw [e1, h1, decide_eq_true (show ((laid s k c).length : Int) = s.rows * s.cols by rw [hl]; exact h2), decide_eq_true (show 0 ≤ ((goes (laid s k c) k : Nat) : Int) by omega), decide_eq_true (show ((goes (laid s k c) k : Nat) : Int) < ((laid s k c).length : Int) by omega), all_at fun i hi => laid_right h hk ho hc i (by rw [← hl]; exact hi)]
  rfl
theorem deny_right {s : S} (h : sright s = true) : sright (deny s) = true := h
theorem cur_nat {s : S} (h : sright s = true) : ∃ k : Nat, s.cur = (k : Int) ∧ s.cur.toNat = k ∧ k < s.cs.length := by
  obtain ⟨_, _, h3, h4, _⟩ := sright_parts h
  exact ⟨s.cur.toNat, by omega, rfl, by omega⟩
theorem typ_right {s : S} (h : sright s = true) (c : Nat) : sright (typ s c).1 = true := by
  obtain ⟨k, e1, e2, hk⟩ := cur_nat h
  unfold typ
  rw [e2]
  simp only
  split
  · exact h
  · split
    · exact h
    · split
      · exact deny_right h
      · split
        · exact deny_right h
        · split
          · exact deny_right h
          · rename_i h1 _ h3 _ _
            exact typed_right h hk (by simpa using h3) (ltr_char (by simpa using h1)).1
theorem typ_length {s : S} (c : Nat) : (typ s c).1.cs.length = s.cs.length ∧ (typ s c).1.rows = s.rows ∧ (typ s c).1.cols = s.cols ∧ (typ s c).1.ins = s.ins := by
  unfold typ
  simp only
  repeat' split
  all_goals exact ⟨by first | rfl | exact laid_length _ _ _, rfl, rfl, rfl⟩
def cz (cs : List C) (a i : Nat) : Nat := (cs.getD (on cs.length (a : Int) (i : Int)) noC).c
def was (cs : List C) (a j q : Nat) : List Nat := ((List.range q).filter (fun i => i != j)).map (cz cs a)
theorem right_sound {s : S} (h : sright s = true) : Sound s.cs := by
  obtain ⟨_, _, _, _, h5⟩ := sright_parts h
  intro o ho
  have h1 := h5 o ho
  obtain ⟨f, p, n, q, m, c⟩ := o
  cases f with
  | true => simp [cright] at h1; simp only; omega
  | false =>
    simp [cright, Att.char] at h1
    simp only
    omega
end Edt
end Go.Proofs.YtpgbnnnfeaodmaaGreatDoor
/- Plain: where a number first stands in a list; a line as what is cut off a field's cells. -/
namespace Go.Proofs.YtpgbnnnfeaodmaaGreatDoor
set_option linter.unusedVariables false
namespace Edt
open Grd Fld
theorem first_at : ∀ (xs : List Nat) (a : Nat), (∃ j, j < xs.length ∧ xs.getD j 0 = a ∧ (∀ i, i < j → xs.getD i 0 ≠ a) ∧ xs.dropWhile (fun x => x != a) = xs.drop j) ∨ xs.dropWhile (fun x => x != a) = []
  | [], a => .inr rfl
  | x :: xs, a => by
    by_cases h : x = a
    · subst h
      exact .inl ⟨0, by simp, by simp, fun i hi => absurd hi (Nat.not_lt_zero _), by rw [List.dropWhile_cons_of_neg (by simp)]; rfl⟩
    · have e : (x :: xs).dropWhile (fun y => y != a) = xs.dropWhile (fun y => y != a) := by rw [List.dropWhile_cons_of_pos (by simpa using h)]
      rcases first_at xs a with ⟨j, h1, h2, h3, h4⟩ | h1
      · refine .inl ⟨j + 1, by simpa using h1, by simpa using h2, fun i hi => ?_, by rw [e, h4]; rfl⟩
        cases i with
        | zero => simpa using h
        | succ i => simpa using h3 i (by omega)
      · exact .inr (by rw [e, h1])
theorem line_first {cs : List C} {a : Nat} (ha : a < cs.length) (ho : open_ cs a = true) : ∃ j, j < (cells cs a).length ∧ (cells cs a).getD j 0 = a ∧ (∀ i, i < j → (cells cs a).getD i 0 ≠ a) ∧ line cs a = (cells cs a).drop j := by
  rw [line_drop ha ho]
  rcases first_at (cells cs a) a with h | h
  · exact h
  · have := (lineLen_pos ha ho).1
    rw [← line_length, line_drop ha ho, h] at this
    exact absurd this (Nat.lt_irrefl _)
theorem line_closed {cs : List C} {a : Nat} (ho : open_ cs a = false) : line cs a = [] := by
  have : lineLen cs a = 0 := by unfold lineLen; rw [if_neg (by rw [ho]; decide)]
  unfold line; rw [this]; rfl
theorem cells_len (cs : List C) (a : Nat) (hz : 0 < cs.length) : (cells cs a).length ≤ cs.length := by
  unfold cells cellsAt
  rw [List.length_map, List.length_range]
  unfold clen
  split
  · rename_i k hk
    have := firstK_some hk
    omega
  · exact Nat.le_refl _
def suits (c : Nat) : Bool := digit c || (c == 28 || c == 30)
theorem suits_not (c : Nat) (n : Bool) : ((n && !digit c) && (c != 28 && c != 30)) = (n && !suits c) := by
  unfold suits
  cases n <;> cases digit c <;> cases h1 : (c == 28) <;> cases h2 : (c == 30) <;> simp_all [bne]
end Edt
end Go.Proofs.YtpgbnnnfeaodmaaGreatDoor
/- Plain: a letter put at a line's first cell, each cell's character going to the next one. -/
namespace Go.Proofs.YtpgbnnnfeaodmaaGreatDoor
set_option linter.unusedVariables false
namespace Edt
open Grd Fld
def chr (cs : List C) (l : List Nat) (c q : Nat) : Nat := if q = 0 then c else (cs.getD (l.getD (q - 1) 0) noC).c
def putq (l : List Nat) (cs : List C) (c : Nat) : Nat → List C
  | 0 => cs
  | q + 1 => (putq l cs c q).set (l.getD q 0) { (putq l cs c q).getD (l.getD q 0) noC with c := chr cs l c q }
theorem putq_length (l : List Nat) (cs : List C) (c : Nat) : ∀ q, (putq l cs c q).length = cs.length
  | 0 => rfl
  | q + 1 => by rw [putq, List.length_set, putq_length l cs c q]
theorem putq_at {l : List Nat} {cs : List C} {c : Nat} (hl : ∀ i, i < l.length → l.getD i 0 < cs.length) (hd : ∀ i j, i < l.length → j < l.length → l.getD i 0 = l.getD j 0 → i = j) : ∀ q, q ≤ l.length →
    (∀ i, i < q → (putq l cs c q).getD (l.getD i 0) noC = { cs.getD (l.getD i 0) noC with c := chr cs l c i }) ∧ ∀ x, (∀ i, i < q → x ≠ l.getD i 0) → (putq l cs c q).getD x noC = cs.getD x noC
  | 0, _ => ⟨fun i h => absurd h (Nat.not_lt_zero _), fun _ _ => rfl⟩
  | q + 1, hq => by
    obtain ⟨h1, h2⟩ := putq_at (c := c) hl hd q (by omega)
    have h3 : (putq l cs c q).getD (l.getD q 0) noC = cs.getD (l.getD q 0) noC := h2 _ fun i hi he => by
      have := hd _ _ (show q < l.length by omega) (show i < l.length by omega) he
      omega
    refine ⟨fun i hi => ?_, fun x hx => ?_⟩
    · rw [putq, getD_set, h3]
      by_cases hiq : i = q
      · subst hiq; rw [if_pos ⟨rfl, by rw [putq_length]; exact hl _ (by omega)⟩]
      · rw [if_neg (fun h => by have := hd _ _ (show q < l.length by omega) (show i < l.length by omega) h.1; omega)]
        exact h1 i (by omega)
    · rw [putq, getD_set, if_neg (fun h => hx q (by omega) h.1.symm)]
      exact h2 x fun i hi => hx i (by omega)
theorem putq_chr {l : List Nat} {cs : List C} {c : Nat} (hl : ∀ i, i < l.length → l.getD i 0 < cs.length) (hd : ∀ i j, i < l.length → j < l.length → l.getD i 0 = l.getD j 0 → i = j) {q : Nat} (hq : q < l.length) : (putq l cs c q).getD (l.getD q 0) noC = cs.getD (l.getD q 0) noC ∧ ((putq l cs c q).getD (l.getD q 0) noC).c = chr cs l c (q + 1) := by
  have h := (putq_at (c := c) hl hd q (by omega)).2 (l.getD q 0) fun i hi he => by
    have := hd _ _ hq (show i < l.length by omega) he
    omega
  refine ⟨h, ?_⟩
  rw [h]; unfold chr; rw [if_neg (by omega)]; rfl
def lineTo (s : S) (k : Nat) : List Nat := (line s.cs k).take (far s k + 1)
theorem lineTo_length {s : S} {k : Nat} (hk : k < s.cs.length) (ho : open_ s.cs k = true) : (lineTo s k).length = far s k + 1 := by
  have := far_lt hk ho
  unfold lineTo
  rw [List.length_take, line_length]; omega
theorem lineTo_getD {s : S} {k : Nat} (hk : k < s.cs.length) (ho : open_ s.cs k = true) {i : Nat} (hi : i < far s k + 1) : (lineTo s k).getD i 0 = on s.cs.length (k : Int) (i : Int) := by
  have := far_lt hk ho
  rw [← line_getD (cs := s.cs) (show i < lineLen s.cs k by omega)]
  unfold lineTo
  simp [List.getD_eq_getElem?_getD, List.getElem?_take_of_lt hi]
theorem lineTo_hl {s : S} {k : Nat} (hk : k < s.cs.length) (ho : open_ s.cs k = true) : ∀ i, i < (lineTo s k).length → (lineTo s k).getD i 0 < (modif s k).cs.length := fun i hi => by
  rw [lineTo_length hk ho] at hi
  rw [lineTo_getD hk ho hi, modif_length]
  exact on_lt (by omega) _ _
theorem lineTo_hd {s : S} {k : Nat} (hk : k < s.cs.length) (ho : open_ s.cs k = true) : ∀ i j, i < (lineTo s k).length → j < (lineTo s k).length → (lineTo s k).getD i 0 = (lineTo s k).getD j 0 → i = j := fun i j hi hj he => by
  have := far_lt hk ho
  rw [lineTo_length hk ho] at hi hj
  rw [lineTo_getD hk ho hi, lineTo_getD hk ho hj] at he
  exact line_inj hk (by omega) (by omega) he
theorem putq_laid {s : S} {k c : Nat} (hk : k < s.cs.length) (ho : open_ s.cs k = true) : putq (lineTo s k) (modif s k).cs c (far s k + 1) = laid s k c := by
  obtain ⟨h1, h2⟩ := putq_at (c := c) (lineTo_hl hk ho) (lineTo_hd hk ho) (far s k + 1) (by rw [lineTo_length hk ho]; omega)
  obtain ⟨g1, g2, g3, g4⟩ := laid_at hk ho c
  have hfl := far_lt hk ho
  have hz : 0 < s.cs.length := by omega
  have ek : on s.cs.length (k : Int) ((0 : Nat) : Int) = k := on_zero hk
  have hnb : ∀ q, q < lineLen s.cs k → begin_ s.cs k ≠ ((on s.cs.length (k : Int) (q : Int) : Nat) : Int) := fun q hq he => by
    obtain ⟨b, hb, hbl, hbf⟩ := begin_fat hk (by rw [he]; omega)
    have e : b = on s.cs.length (k : Int) (q : Int) := by rw [hb] at he; omega
    have := open_nfat (line_cell hk hq).2
    rw [← e, hbf] at this; cases this
  refine List.ext_getElem (by rw [putq_length, modif_length, laid_length]) fun i hi1 hi2 => ?_
  have key : (putq (lineTo s k) (modif s k).cs c (far s k + 1)).getD i noC = (laid s k c).getD i noC := by
    by_cases hik : i = k
    · subst hik
      have := h1 0 (by omega)
      rw [lineTo_getD hk ho (by omega), ek] at this
      rw [this, g1, modif_at hk, if_neg (by have := hnb 0 (by omega); rwa [ek] at this)]
      rfl
    · by_cases hq : ∃ q, q < far s k ∧ i = on s.cs.length (k : Int) ((q : Int) + 1)
      · obtain ⟨q, hq, rfl⟩ := hq
        have := h1 (q + 1) (by omega)
        rw [lineTo_getD hk ho (by omega)] at this
        have e : on s.cs.length (k : Int) ((q + 1 : Nat) : Int) = on s.cs.length (k : Int) ((q : Int) + 1) := rfl
        rw [e] at this
        rw [this, g2 q hq, modif_at hk, if_neg (by have := hnb (q + 1) (by omega); exact this)]
        unfold chr
        rw [if_neg (by omega), show q + 1 - 1 = q by omega, lineTo_getD hk ho (by omega), modif_at hk, if_neg (by have := hnb q (by omega); exact this)]
      · have hx : ∀ q, q < far s k + 1 → i ≠ (lineTo s k).getD q 0 := fun q hq' he => by
          rw [lineTo_getD hk ho hq'] at he
          cases q with
          | zero => rw [ek] at he; exact hik he
          | succ q => exact hq ⟨q, by omega, he⟩
        rw [h2 i hx, modif_at hk]
        by_cases hib : begin_ s.cs k = (i : Int)
        · rw [if_pos hib, g3 i hib]
        · rw [if_neg hib, g4 i hik hib fun q hq' he => hq ⟨q, hq', he⟩]
  rw [List.getD_eq_getElem?_getD, List.getD_eq_getElem?_getD, List.getElem?_eq_getElem hi1, List.getElem?_eq_getElem hi2] at key
  exact key
end Edt
end Go.Proofs.YtpgbnnnfeaodmaaGreatDoor
