/- Plain: letters, lines, what is typed. -/
import Derived.Test.YtaopkelobglnbaaGreatDoorBunFld
import Derived.Test.YtaopkelobglnbaaGreatDoorBunPlain
namespace Go.Proofs.YtaopkelobglnbaaGreatDoor
set_option linter.unusedVariables false
namespace Edt
open Grd Fld
def ltr (c : Nat) : Bool := c != 0 && Att.char c
def digit (c : Nat) : Bool := (decide (240 ≤ c) && decide (c ≤ 249)) || (c == 96 || c == 75)
/-- How many cells a line has. -/
def lineLen (cs : List C) (a : Nat) : Nat := if open_ cs a then (if fmt cs then clen cs (a : Int) + 1 else cs.length - a) else 0
/-- A cell's line. -/
def line (cs : List C) (a : Nat) : List Nat := (List.range (lineLen cs a)).map fun (i : Nat) => on cs.length (a : Int) (i : Int)
theorem line_length (cs : List C) (a : Nat) : (line cs a).length = lineLen cs a := by simp [line]
theorem line_getD {cs : List C} {a i : Nat} (h : i < lineLen cs a) : (line cs a).getD i 0 = on cs.length (a : Int) (i : Int) := by
  simp [line, List.getD_eq_getElem?_getD, h]
theorem line_lt {cs : List C} {a x : Nat} (hz : 0 < cs.length) (h : x ∈ line cs a) : x < cs.length := by
  unfold line at h
  rw [List.mem_map] at h
  obtain ⟨i, _, rfl⟩ := h
  exact on_lt hz _ _
theorem drop_to : ∀ (j n : Nat) (f : Nat → Nat), j < n → (∀ i, i < j → f i ≠ f j) → ((List.range n).map f).dropWhile (fun x => x != f j) = (List.range (n - j)).map (fun i => f (j + i))
  | 0, n + 1, f, _, _ => by
    rw [List.range_succ_eq_map, List.map_cons, List.dropWhile_cons_of_neg (by simp)]
    rw [Nat.sub_zero, List.range_succ_eq_map]
    simp
  | j + 1, n + 1, f, h, hn => by
    rw [List.range_succ_eq_map, List.map_cons, List.dropWhile_cons_of_pos (by simpa using hn 0 (by omega)), List.map_map]
    have := drop_to j n (f ∘ Nat.succ) (by omega) (fun i hi => hn (i + 1) (by omega))
    rw [show n + 1 - (j + 1) = n - j by omega]
    refine Eq.trans this ?_
    refine List.map_congr_left fun i _ => ?_
    show f (j + i + 1) = f (j + 1 + i)
    congr 1; omega
theorem line_open_fmt {cs : List C} {a : Nat} (ha : a < cs.length) (hf : fmt cs = true) (ho : open_ cs a = true) : ∃ b j : Nat, begin_ cs a = (b : Int) ∧ b < cs.length ∧ fat cs b = true ∧ j < clen cs (b : Int) ∧ on cs.length (b : Int) ((j : Int) + 1) = a ∧ clen cs (a : Int) + 1 = clen cs (b : Int) - j := by
  have hn : fat cs a = false := by
    unfold open_ at ho
    simp only [Bool.and_eq_true, Bool.not_eq_true'] at ho
    exact ho.1
  obtain ⟨b, j, e1, e2, e3, e4, e5⟩ := cell_of_begin ha hf hn
  refine ⟨b, j, e1, e2, e3, e4, e5, ?_⟩
  obtain ⟨g1, g2, g3⟩ := clen_some e2 e3
  have e : ∀ k : Nat, on cs.length (a : Int) (k : Int) = on cs.length (b : Int) (((j + k : Nat) : Int) + 1) := fun k => by
    rw [← e5, on_on (by omega)]; congr 1; omega
  have hk : firstK (fun k => fat cs (on cs.length (a : Int) (k : Int))) 1 cs.length = some (clen cs (b : Int) - j) := by
    refine firstK_is (by omega) (by omega) ?_ fun i h1 h2 => ?_
    · rw [e, show j + (clen cs (b : Int) - j) = clen cs (b : Int) by omega]; exact g3
    · rw [e]; exact g2 _ (by omega)
  have hc : clen cs (a : Int) = clen cs (b : Int) - j - 1 := by
    show (match firstK (fun k => fat cs (on cs.length (a : Int) (k : Int))) 1 cs.length with | some k => k - 1 | none => cs.length) = _
    rw [hk]
  omega
theorem line_drop {cs : List C} {a : Nat} (ha : a < cs.length) (ho : open_ cs a = true) : line cs a = (cells cs a).dropWhile (fun x => x != a) := by
  unfold line lineLen
  rw [if_pos ho]
  cases hf : fmt cs with
  | true =>
    obtain ⟨b, j, e1, e2, e3, e4, e5, e6⟩ := line_open_fmt ha hf ho
    obtain ⟨g1, _, _⟩ := clen_some e2 e3
    rw [if_pos rfl, e6]
    unfold cells cellsAt
    rw [e1]
    have h := drop_to j (clen cs (b : Int)) (fun i => on cs.length (b : Int) ((i : Int) + 1)) e4 (fun i hi he => by
      have := on_inj2 (z := cs.length) (b := b) (i := i) (j := j) (by omega) (by omega) he
      omega)
    simp only [e5] at h
    rw [h]
    refine List.map_congr_left fun i _ => ?_
    rw [← e5, on_on (by omega)]; congr 1; omega
  | false =>
    rw [if_neg (by decide)]
    unfold cells cellsAt
    rw [begin_none ha hf, clen_none (by omega) hf]
    have e : ∀ i : Nat, i < cs.length → on cs.length (-1) ((i : Int) + 1) = i := fun i hi => by
      unfold on
      rw [show (-1 : Int) + ((i : Int) + 1) = (i : Int) by omega, Int.emod_eq_of_lt (by omega) (by omega)]; omega
    have h := drop_to a cs.length (fun i => on cs.length (-1) ((i : Int) + 1)) ha (fun i hi he => by
      rw [e i (by omega), e a ha] at he; omega)
    simp only [e a ha] at h
    rw [h]
    refine List.map_congr_left fun i hi => ?_
    rw [List.mem_range] at hi
    rw [e (a + i) (by omega), on_nat, Nat.mod_eq_of_lt (by omega)]
/-- A line begins with its cell; its cells are all different, and none begins a field. -/
theorem lineLen_pos {cs : List C} {a : Nat} (ha : a < cs.length) (ho : open_ cs a = true) : 0 < lineLen cs a ∧ lineLen cs a ≤ cs.length := by
  unfold lineLen
  rw [if_pos ho]
  cases hf : fmt cs with
  | true =>
    obtain ⟨b, j, e1, e2, e3, e4, e5, e6⟩ := line_open_fmt ha hf ho
    obtain ⟨g1, _, _⟩ := clen_some e2 e3
    rw [if_pos rfl]; omega
  | false => rw [if_neg (by decide)]; omega
theorem lineLen_le {cs : List C} {a : Nat} (ha : a < cs.length) : lineLen cs a ≤ cs.length := by
  cases ho : open_ cs a with
  | true => exact (lineLen_pos ha ho).2
  | false => unfold lineLen; rw [if_neg (by rw [ho]; decide)]; omega
theorem line_inj {cs : List C} {a i j : Nat} (ha : a < cs.length) (hi : i < lineLen cs a) (hj : j < lineLen cs a) (h : on cs.length (a : Int) (i : Int) = on cs.length (a : Int) (j : Int)) : i = j := by
  have := lineLen_le ha
  exact on_inj (by omega) (by omega) h
/-- The field's attribute modified. -/
def modif (s : S) (a : Nat) : S := if begin_ s.cs a < 0 then s else { s with cs := s.cs.set (begin_ s.cs a).toNat { s.cs.getD (begin_ s.cs a).toNat noC with m := true } }
def deny (s : S) : S := { s with lk := true }
/-- The line's first cell without a character. -/
def free (cs : List C) (l : List Nat) : Option Nat := firstK (fun i => (cs.getD (l.getD i 0) noC).c == 0) 0 l.length
/-- The first j characters of a line moved on by one, into cs. -/
def shifted (cs0 : List C) (l : List Nat) : Nat → List C → List C
  | 0, cs => cs
  | j + 1, cs => (shifted cs0 l j cs).set (l.getD (j + 1) 0) { (shifted cs0 l j cs).getD (l.getD (j + 1) 0) noC with c := (cs0.getD (l.getD j 0) noC).c }
/-- The cells behind a letter that is typed at k. -/
def laid (s : S) (k c : Nat) : List C :=
  let o := if s.ins then shifted s.cs (line s.cs k) ((free s.cs (line s.cs k)).getD 0) (modif s k).cs else (modif s k).cs
  o.set k { o.getD k noC with c := c }
/-- Where the cursor goes. -/
def goes (cs : List C) (k : Nat) : Nat :=
  let at_ := on cs.length (k : Int) 1
  let x := cs.getD at_ noC
  if x.f then (if (x.p && x.n) && decide (0 ≤ next cs at_) then (next cs at_).toNat else on cs.length (at_ : Int) 1) else at_
def typed (s : S) (k c : Nat) : S := { s with cs := laid s k c, cur := (goes (laid s k c) k : Nat) }
/-- What a letter that is typed at the cursor makes: the screen, the error's number (0: none), its place. -/
def typ (s : S) (c : Nat) : S × Nat × Int :=
  let k := s.cur.toNat
  if ltr c = false then (s, 3, -1)
  else if s.lk then (s, 7, -1)
  else if open_ s.cs k = false then (deny s, 8, s.cur)
  else if ((attrOf s.cs k).n && !digit c) && (c != 28 && c != 30) then (deny s, 9, s.cur)
  else if s.ins && (free s.cs (line s.cs k)).isNone then (deny s, 10, s.cur)
  else (typed s k c, 0, -1)
end Edt
end Go.Proofs.YtaopkelobglnbaaGreatDoor
