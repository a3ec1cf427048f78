/- Ov4g, FldSpec, FldMore, FldOpr, FldAlike, FldNp, FldRbeg, FldRef, FldRef4 in one text (by tools/bundle.py). -/
import Derived.Test.YtpdlpmbjhopnnaaGreatDoorBunBase
import Derived.Test.YtpdlpmbjhopnnaaGreatDoorBunGrd
import Derived.Deep.LoopGhost
import Derived.Deep.Cut
import Derived.IntWalk
/- Four cells of a block, stored one behind the other. -/
namespace Go.Proofs.YtpdlpmbjhopnnaaGreatDoor
open Go.RowKit Sha Six Apd Cut Err
namespace Fld
theorem over4g (a : World) (B : Nat) (t : TypeId) (a0 a1 a2 a3 u0 u1 u2 u3 : Value) (h : a.heap[B]? = some (.cells #[a0, a1, a2, a3] t (0, 0))) :
    ((((a.setCell ⟨B, 0, none⟩ u0).setCell ⟨B, 1, none⟩ u1).setCell ⟨B, 2, none⟩ u2).setCell ⟨B, 3, none⟩ u3).heap[B]? = some (.cells #[u0, u1, u2, u3] t (0, 0)) ∧
    a.grownBy ((((a.setCell ⟨B, 0, none⟩ u0).setCell ⟨B, 1, none⟩ u1).setCell ⟨B, 2, none⟩ u2).setCell ⟨B, 3, none⟩ u3) (some B) :=
  ⟨(over4 a B t a0 a1 a2 a3 u0 u1 u2 u3 h).1, gtrans (gsetCell a B 0 u0) (gtrans (gsetCell _ B 1 u1) (gtrans (gsetCell _ B 2 u2) (gsetCell _ B 3 u3)))⟩
end Fld
end Go.Proofs.YtpdlpmbjhopnnaaGreatDoor
/- Plain: fields of a screen: where they begin, their cells, the next and the last open one. -/
namespace Go.Proofs.YtpdlpmbjhopnnaaGreatDoor
set_option linter.unusedVariables false
namespace Fld
open Grd
/-- The first of the n numbers from k on that is so. -/
def firstK (p : Nat → Bool) : Nat → Nat → Option Nat
  | _, 0 => none
  | k, n + 1 => if p k then some k else firstK p (k + 1) n
theorem firstK_some {p : Nat → Bool} : ∀ {n k j : Nat}, firstK p k n = some j → k ≤ j ∧ j < k + n ∧ p j = true ∧ ∀ i, k ≤ i → i < j → p i = false
  | 0, _, _, h => by cases h
  | n + 1, k, j, h => by
    unfold firstK at h
    split at h
    · rename_i hp
      injection h with h
      subst h
      exact ⟨Nat.le_refl _, by omega, hp, fun i h1 h2 => by omega⟩
    · rename_i hp
      obtain ⟨h1, h2, h3, h4⟩ := firstK_some h
      refine ⟨by omega, by omega, h3, fun i h5 h6 => ?_⟩
      by_cases hi : i = k
      · subst hi; simpa using hp
      · exact h4 i (by omega) h6
theorem firstK_none {p : Nat → Bool} : ∀ {n k : Nat}, firstK p k n = none → ∀ i, k ≤ i → i < k + n → p i = false
  | 0, k, _, i, h1, h2 => by omega
  | n + 1, k, h, i, h1, h2 => by
    unfold firstK at h
    split at h
    · cases h
    · rename_i hp
      by_cases hi : i = k
      · subst hi; simpa using hp
      · exact firstK_none h i (by omega) (by omega)
theorem firstK_is {p : Nat → Bool} {n k j : Nat} (h1 : k ≤ j) (h2 : j < k + n) (h3 : p j = true) (h4 : ∀ i, k ≤ i → i < j → p i = false) : firstK p k n = some j := by
  cases h : firstK p k n with
  | none => rw [firstK_none h j h1 h2] at h3; cases h3
  | some i =>
    obtain ⟨g1, g2, g3, g4⟩ := firstK_some h
    rcases Nat.lt_trichotomy i j with hl | hl | hl
    · rw [h4 i g1 hl] at g3; cases g3
    · rw [hl]
    · rw [g4 j h1 hl] at h3; cases h3
theorem firstK_no {p : Nat → Bool} {n k : Nat} (h : ∀ i, k ≤ i → i < k + n → p i = false) : firstK p k n = none := by
  cases h' : firstK p k n with
  | none => rfl
  | some j =>
    obtain ⟨g1, g2, g3, _⟩ := firstK_some h'
    rw [h j g1 g2] at g3; cases g3
/-- A field begins at cell i. -/
def fat (cs : List C) (i : Nat) : Bool := (cs.getD i noC).f
def prot (cs : List C) (i : Nat) : Bool := (cs.getD i noC).p
def fmt (cs : List C) : Bool := cs.any (·.f)
/-- How far back the field begins. -/
def backK (cs : List C) (a : Nat) : Option Nat := firstK (fun k => fat cs (on cs.length a (-(k : Int)))) 0 cs.length
def begin_ (cs : List C) (a : Nat) : Int := match backK cs a with
  | some k => (on cs.length a (-(k : Int)) : Nat)
  | none => -1
/-- How many cells a field has that begins at b (-1: all). -/
def clen (cs : List C) (b : Int) : Nat := match firstK (fun k => fat cs (on cs.length b (k : Int))) 1 cs.length with
  | some k => k - 1
  | none => cs.length
def cellsAt (cs : List C) (b : Int) : List Nat := (List.range (clen cs b)).map fun (i : Nat) => on cs.length b ((i : Int) + 1)
def cells (cs : List C) (a : Nat) : List Nat := cellsAt cs (begin_ cs a)
/-- The attribute's part of a cell. -/
def attrOf (cs : List C) (a : Nat) : C := if begin_ cs a < 0 then noC else cs.getD (begin_ cs a).toNat noC
def open_ (cs : List C) (a : Nat) : Bool := !fat cs a && !(attrOf cs a).p
/-- An open field with cells begins at i. -/
def opener (cs : List C) (i : Nat) : Bool := fat cs i && (!prot cs i && !fat cs (on cs.length i 1))
def next (cs : List C) (a : Nat) : Int := match firstK (fun k => opener cs (on cs.length a (k : Int))) 1 cs.length with
  | some k => (on cs.length a ((k : Int) + 1) : Nat)
  | none => -1
def prev (cs : List C) (a : Nat) : Int := match firstK (fun k => opener cs (on cs.length a (-(k : Int)))) 2 cs.length with
  | some k => (on cs.length a (-(k : Int) + 1) : Nat)
  | none => -1
def begins (cs : List C) : List Nat := (List.range cs.length).filter (fat cs)
theorem fmt_iff {cs : List C} : fmt cs = true ↔ ∃ i, i < cs.length ∧ fat cs i = true := by
  unfold fmt fat
  rw [List.any_eq_true]
  constructor
  · rintro ⟨o, ho, hf⟩
    obtain ⟨i, hi, rfl⟩ := List.getElem_of_mem ho
    exact ⟨i, hi, by rw [List.getD_eq_getElem?_getD, List.getElem?_eq_getElem hi]; exact hf⟩
  · rintro ⟨i, hi, hf⟩
    rw [List.getD_eq_getElem?_getD, List.getElem?_eq_getElem hi] at hf
    exact ⟨_, List.getElem_mem hi, hf⟩
/-- Back from a by as much as it takes to come to i. -/
theorem reach_back {z a i : Nat} (ha : a < z) (hi : i < z) : ∃ k, k < z ∧ on z a (-(k : Int)) = i := by
  by_cases h : i ≤ a
  · refine ⟨a - i, by omega, ?_⟩
    unfold on
    rw [show (a : Int) + -((a - i : Nat) : Int) = (i : Int) by omega, Int.emod_eq_of_lt (by omega) (by omega)]; omega
  · refine ⟨a + z - i, by omega, ?_⟩
    unfold on
    rw [← Int.add_emod_right, show (a : Int) + -((a + z - i : Nat) : Int) + (z : Int) = (i : Int) by omega, Int.emod_eq_of_lt (by omega) (by omega)]; omega
theorem reach_on {z a i : Nat} (ha : a < z) (hi : i < z) : ∃ k, 1 ≤ k ∧ k ≤ z ∧ on z a (k : Int) = i := by
  by_cases h : a < i
  · refine ⟨i - a, by omega, by omega, ?_⟩
    unfold on
    rw [show (a : Int) + ((i - a : Nat) : Int) = (i : Int) by omega, Int.emod_eq_of_lt (by omega) (by omega)]; omega
  · refine ⟨i + z - a, by omega, by omega, ?_⟩
    unfold on
    rw [show (a : Int) + ((i + z - a : Nat) : Int) = (i : Int) + (z : Int) by omega, Int.add_emod_right, Int.emod_eq_of_lt (by omega) (by omega)]; omega
theorem begin_some {cs : List C} {a : Nat} (ha : a < cs.length) (hf : fmt cs = true) :
    ∃ k b, k < cs.length ∧ b = on cs.length a (-(k : Int)) ∧ begin_ cs a = (b : Int) ∧ b < cs.length ∧ fat cs b = true ∧ ∀ i, i < k → fat cs (on cs.length a (-(i : Int))) = false := by
  obtain ⟨i, hi, hfi⟩ := fmt_iff.1 hf
  obtain ⟨k, hk, he⟩ := reach_back ha hi
  cases h : backK cs a with
  | none =>
    have := firstK_none h k (Nat.zero_le _) (by omega)
    rw [he, hfi] at this; cases this
  | some j =>
    obtain ⟨_, g2, g3, g4⟩ := firstK_some h
    refine ⟨j, _, by omega, rfl, ?_, on_lt (by omega) _ _, g3, fun i hi => g4 i (Nat.zero_le _) hi⟩
    unfold begin_; rw [h]
theorem begin_none {cs : List C} {a : Nat} (ha : a < cs.length) (hf : fmt cs = false) : begin_ cs a = -1 := by
  have h : backK cs a = none := firstK_no fun i _ _ => by
    cases h' : fat cs (on cs.length a (-(i : Int))) with
    | false => rfl
    | true =>
      have := fmt_iff.2 ⟨_, on_lt (by omega) _ _, h'⟩
      rw [hf] at this; cases this
  unfold begin_; rw [h]
theorem on_self {z a : Nat} (ha : a < z) (k : Nat) : on z ((on z a (-(k : Int)) : Nat) : Int) (k : Int) = a := by
  rw [on_on (by omega), show -(k : Int) + (k : Int) = 0 by omega, on_zero ha]
theorem begin_self {cs : List C} {a : Nat} (ha : a < cs.length) (h : fat cs a = true) : begin_ cs a = (a : Int) := by
  have h0 : on cs.length (a : Int) (-((0 : Nat) : Int)) = a := by
    rw [show -((0 : Nat) : Int) = 0 from rfl, on_zero ha]
  have hb : backK cs a = some 0 := firstK_is (Nat.le_refl _) (by omega) (by rw [h0]; exact h) (fun i _ h => absurd h (by omega))
  unfold begin_; rw [hb]; simp only; rw [h0]
/-- The cells behind b, as many as clen says, begin no field; the next one does. -/
theorem clen_some {cs : List C} {b : Nat} (hb : b < cs.length) (h : fat cs b = true) : clen cs b + 1 ≤ cs.length ∧ (∀ i, i < clen cs b → fat cs (on cs.length b ((i : Int) + 1)) = false) ∧ fat cs (on cs.length b ((clen cs b : Nat) + 1 : Int)) = true := by
  unfold clen
  cases hk : firstK (fun k => fat cs (on cs.length b (k : Int))) 1 cs.length with
  | none =>
    have := firstK_none hk cs.length (by omega) (by omega)
    rw [on_all hb, h] at this; cases this
  | some k =>
    obtain ⟨g1, g2, g3, g4⟩ := firstK_some hk
    simp only
    refine ⟨by omega, fun i hi => ?_, ?_⟩
    · have := g4 (i + 1) (by omega) (by omega)
      rwa [show ((i + 1 : Nat) : Int) = (i : Int) + 1 by omega] at this
    · rw [show (((k - 1 : Nat) : Int) + 1) = (k : Int) by omega]; exact g3
theorem clen_none {cs : List C} (hz : 0 < cs.length) (hf : fmt cs = false) (b : Int) : clen cs b = cs.length := by
  unfold clen
  have h : firstK (fun k => fat cs (on cs.length b (k : Int))) 1 cs.length = none := firstK_no fun i _ _ => by
    cases h' : fat cs (on cs.length b (i : Int)) with
    | false => rfl
    | true =>
      have := fmt_iff.2 ⟨_, on_lt hz _ _, h'⟩
      rw [hf] at this; cases this
  rw [h]
/-- A field's cells have its beginning. -/
theorem begin_of_cell {cs : List C} {b i : Nat} (hb : b < cs.length) (h : fat cs b = true) (hi : i < clen cs b) : begin_ cs (on cs.length b ((i : Int) + 1)) = (b : Int) := by
  obtain ⟨h1, h2, _⟩ := clen_some hb h
  have e : ∀ k : Nat, on cs.length ((on cs.length b ((i : Int) + 1) : Nat) : Int) (-(k : Int)) = on cs.length b ((i : Int) + 1 - (k : Int)) := fun k => by
    rw [on_on (by omega)]; rfl
  have hk : backK cs (on cs.length b ((i : Int) + 1)) = some (i + 1) := by
    refine firstK_is (Nat.zero_le _) (by omega) ?_ fun j _ hj => ?_
    · skip
      rw [e, show (i : Int) + 1 - ((i + 1 : Nat) : Int) = 0 by omega, on_zero hb]; exact h
    · skip
      rw [e, show (i : Int) + 1 - (j : Int) = ((i - j : Nat) : Int) + 1 by omega]
      exact h2 _ (by omega)
  unfold begin_; rw [hk]; simp only
  rw [e, show (i : Int) + 1 - ((i + 1 : Nat) : Int) = 0 by omega, on_zero hb]
/-- Each cell that begins no field is one of its field's. -/
theorem cell_of_begin {cs : List C} {a : Nat} (ha : a < cs.length) (hf : fmt cs = true) (hn : fat cs a = false) : ∃ b i : Nat, begin_ cs a = (b : Int) ∧ b < cs.length ∧ fat cs b = true ∧ i < clen cs b ∧ on cs.length b ((i : Int) + 1) = a := by
  obtain ⟨k, b, hk, hb, hbe, hbl, hfb, hno⟩ := begin_some ha hf
  have hk0 : k ≠ 0 := by
    intro h0
    subst h0
    rw [show -((0 : Nat) : Int) = 0 from rfl, on_zero ha] at hb
    rw [hb, hn] at hfb; cases hfb
  have hon : on cs.length b (k : Int) = a := by rw [hb]; exact on_self ha k
  obtain ⟨h1, h2, h3⟩ := clen_some hbl hfb
  refine ⟨b, k - 1, hbe, hbl, hfb, ?_, by rw [show ((k - 1 : Nat) : Int) + 1 = (k : Int) by omega]; exact hon⟩
  rcases Nat.lt_or_ge (k - 1) (clen cs b) with hl | hl
  · exact hl
  · exfalso
    have := hno (k - (clen cs b + 1)) (by omega)
    have e : on cs.length (a : Int) (-((k - (clen cs b + 1) : Nat) : Int)) = on cs.length b ((clen cs b : Nat) + 1 : Int) := by
      rw [← hon, on_on (by omega)]
      congr 1; omega
    rw [e, h3] at this; cases this
theorem mem_cells {cs : List C} {b : Int} {c : Nat} : c ∈ cellsAt cs b ↔ ∃ i, i < clen cs b ∧ on cs.length b ((i : Int) + 1) = c := by
  unfold cellsAt
  simp only [List.mem_map, List.mem_range]
theorem cells_len (cs : List C) (b : Int) : (cellsAt cs b).length = clen cs b := by simp [cellsAt]
theorem cells_getD {cs : List C} {b : Int} {i : Nat} (h : i < clen cs b) : (cellsAt cs b).getD i 0 = on cs.length b ((i : Int) + 1) := by
  simp [cellsAt, List.getD_eq_getElem?_getD, h]
theorem on_inj2 {z b i j : Nat} (hi : i + 1 < z) (hj : j + 1 < z) (h : on z (b : Int) ((i : Int) + 1) = on z (b : Int) ((j : Int) + 1)) : i = j := by
  have := on_inj (z := z) (a := b) (i := i + 1) (j := j + 1) hi hj (by rw [show ((i + 1 : Nat) : Int) = (i : Int) + 1 by omega, show ((j + 1 : Nat) : Int) = (j : Int) + 1 by omega]; exact h)
  omega
end Fld
end Go.Proofs.YtpdlpmbjhopnnaaGreatDoor
/- Plain: the next and the last open field; going round. -/
namespace Go.Proofs.YtpdlpmbjhopnnaaGreatDoor
set_option linter.unusedVariables false
namespace Fld
open Grd
theorem next_cases {cs : List C} {a : Nat} (ha : a < cs.length) :
    (next cs a = -1 ∧ ∀ i, i < cs.length → opener cs i = false) ∨ ∃ k o : Nat, 1 ≤ k ∧ k ≤ cs.length ∧ o = on cs.length a (k : Int) ∧ o < cs.length ∧ opener cs o = true ∧ (∀ j, 1 ≤ j → j < k → opener cs (on cs.length a (j : Int)) = false) ∧ next cs a = ((on cs.length (o : Int) 1 : Nat) : Int) := by
  unfold next
  cases h : firstK (fun k => opener cs (on cs.length a (k : Int))) 1 cs.length with
  | none =>
    refine .inl ⟨rfl, fun i hi => ?_⟩
    obtain ⟨k, h1, h2, h3⟩ := reach_on ha hi
    have := firstK_none h k h1 (by omega)
    rwa [h3] at this
  | some k =>
    obtain ⟨g1, g2, g3, g4⟩ := firstK_some h
    exact .inr ⟨k, _, g1, by omega, rfl, on_lt (by omega) _ _, g3, fun j h1 h2 => g4 j h1 h2, by simp only; rw [on_on (by omega)]⟩
theorem prev_cases {cs : List C} {a : Nat} (ha : a < cs.length) :
    (prev cs a = -1 ∧ ∀ i, i < cs.length → opener cs i = false) ∨ ∃ k o : Nat, 2 ≤ k ∧ k ≤ cs.length + 1 ∧ o = on cs.length a (-(k : Int)) ∧ o < cs.length ∧ opener cs o = true ∧ (∀ j, 2 ≤ j → j < k → opener cs (on cs.length a (-(j : Int))) = false) ∧ prev cs a = ((on cs.length (o : Int) 1 : Nat) : Int) := by
  unfold prev
  cases h : firstK (fun k => opener cs (on cs.length a (-(k : Int)))) 2 cs.length with
  | none =>
    refine .inl ⟨rfl, fun i hi => ?_⟩
    obtain ⟨k, h2, h3⟩ := reach_back ha hi
    by_cases hk : 2 ≤ k
    · have := firstK_none h k hk (by omega)
      rwa [h3] at this
    · by_cases hz : 2 ≤ k + cs.length
      · have := firstK_none h (k + cs.length) hz (by omega)
        rw [show on cs.length (a : Int) (-((k + cs.length : Nat) : Int)) = i by
          rw [← h3]; unfold on
          rw [← Int.add_emod_right, show (a : Int) + -((k + cs.length : Nat) : Int) + (cs.length : Int) = (a : Int) + -(k : Int) by omega]] at this
        exact this
      · have := firstK_none h (k + cs.length + 1) (by omega) (by omega)
        rw [show on cs.length (a : Int) (-((k + cs.length + 1 : Nat) : Int)) = i by
          have := on_lt (z := cs.length) (by omega) (a : Int) (-((k + cs.length + 1 : Nat) : Int)); omega] at this
        exact this
  | some k =>
    obtain ⟨g1, g2, g3, g4⟩ := firstK_some h
    exact .inr ⟨k, _, g1, by omega, rfl, on_lt (by omega) _ _, g3, fun j h1 h2 => g4 j h1 h2, by simp only; rw [on_on (by omega)]⟩
theorem opener_iff {cs : List C} {o : Nat} : opener cs o = true ↔ fat cs o = true ∧ prot cs o = false ∧ fat cs (on cs.length o 1) = false := by
  unfold opener; simp [Bool.and_eq_true]
theorem opener_two {cs : List C} {o : Nat} (ho : o < cs.length) (h : opener cs o = true) : 2 ≤ cs.length := by
  obtain ⟨h1, _, h3⟩ := opener_iff.1 h
  rcases Nat.lt_or_ge 1 cs.length with hl | hl
  · exact hl
  · exfalso
    have : on cs.length (o : Int) 1 = o := by have := on_lt (z := cs.length) (by omega) (o : Int) 1; omega
    rw [this, h1] at h3; cases h3
/-- What the first cell of an open field tells. -/
theorem first_cell {cs : List C} {o : Nat} (ho : o < cs.length) (h : opener cs o = true) :
    begin_ cs (on cs.length o 1) = (o : Int) ∧ 0 < clen cs o ∧ (cells cs (on cs.length o 1)).getD 0 0 = on cs.length o 1 ∧ open_ cs (on cs.length o 1) = true := by
  obtain ⟨h1, h2, h3⟩ := opener_iff.1 h
  obtain ⟨g1, g2, g3⟩ := clen_some ho h1
  have hc : 0 < clen cs o := by
    rcases Nat.eq_zero_or_pos (clen cs o) with h0 | h0
    · rw [h0] at g3
      rw [show ((0 : Nat) : Int) + 1 = 1 from rfl, h3] at g3; cases g3
    · exact h0
  have hb : begin_ cs (on cs.length o 1) = (o : Int) := begin_of_cell (i := 0) ho h1 hc
  refine ⟨hb, hc, ?_, ?_⟩
  · unfold cells; rw [hb, cells_getD hc]; rfl
  · unfold open_ attrOf
    rw [h3, hb, if_neg (by omega), Int.toNat_natCast]
    unfold prot at h2
    rw [h2]; rfl
theorem next_of_first {cs : List C} {o : Nat} (ho : o < cs.length) (h : opener cs o = true) :
    ∃ k o' : Nat, 1 ≤ k ∧ k + 1 ≤ cs.length ∧ o' = on cs.length o ((k : Int) + 1) ∧ o' < cs.length ∧ opener cs o' = true ∧ (∀ j, 1 ≤ j → j ≤ k → opener cs (on cs.length o (j : Int)) = false) ∧ next cs (on cs.length o 1) = ((on cs.length (o' : Int) 1 : Nat) : Int) := by
  have h2 := opener_two ho h
  obtain ⟨h1, _, h3⟩ := opener_iff.1 h
  rcases next_cases (cs := cs) (a := on cs.length o 1) (on_lt (by omega) _ _) with ⟨_, hn⟩ | ⟨k, o', g1, g2, g3, g4, g5, g6, g7⟩
  · rw [hn o ho] at h; cases h
  · rw [on_on (by omega)] at g3
    have hk : k + 1 ≤ cs.length := by
      rcases Nat.lt_or_ge k cs.length with hl | hl
      · exact hl
      · exfalso
        have hk : k = cs.length := by omega
        have := g6 (cs.length - 1) (by omega) (by omega)
        rw [on_on (by omega), show (1 : Int) + ((cs.length - 1 : Nat) : Int) = (cs.length : Int) by omega, on_all ho, h] at this
        cases this
    refine ⟨k, o', g1, hk, by rw [g3]; congr 1; omega, g4, g5, fun j h4 h5 => ?_, g7⟩
    by_cases hj : j = 1
    · subst hj
      cases hq : opener cs (on cs.length o ((1 : Nat) : Int)) with
      | false => rfl
      | true =>
        have := (opener_iff.1 hq).1
        rw [show ((1 : Nat) : Int) = 1 from rfl, h3] at this; cases this
    · have := g6 (j - 1) (by omega) (by omega)
      rw [on_on (by omega), show (1 : Int) + ((j - 1 : Nat) : Int) = (j : Int) by omega] at this
      exact this
/-- From the next open field back is where one came from. -/
theorem tabs {cs : List C} {o : Nat} (ho : o < cs.length) (h : opener cs o = true) : ∃ m : Nat, m < cs.length ∧ next cs (on cs.length o 1) = (m : Int) ∧ prev cs m = ((on cs.length (o : Int) 1 : Nat) : Int) := by
  obtain ⟨k, o', g1, g2, g3, g4, g5, g6, g7⟩ := next_of_first ho h
  refine ⟨_, on_lt (by omega) _ _, g7, ?_⟩
  have e : ∀ j : Nat, on cs.length ((on cs.length (o' : Int) 1 : Nat) : Int) (-(j : Int)) = on cs.length o ((k : Int) + 2 - (j : Int)) := fun j => by
    rw [on_on (by omega), g3, on_on (by omega)]; congr 1; omega
  have hf : firstK (fun j => opener cs (on cs.length ((on cs.length (o' : Int) 1 : Nat) : Int) (-(j : Int)))) 2 cs.length = some (k + 2) := by
    refine firstK_is (by omega) (by omega) ?_ fun j h1 h2 => ?_
    · rw [e, show (k : Int) + 2 - ((k + 2 : Nat) : Int) = 0 by omega, on_zero ho]; exact h
    · rw [e, show (k : Int) + 2 - (j : Int) = ((k + 2 - j : Nat) : Int) by omega]
      exact g6 _ (by omega) (by omega)
  unfold prev
  rw [hf]
  simp only
  rw [on_on (by omega), g3, on_on (by omega)]
  congr 2; omega
/-- How many of the numbers below m are so. -/
def cnt (q : Nat → Bool) : Nat → Nat
  | 0 => 0
  | m + 1 => cnt q m + (if q m then 1 else 0)
theorem cnt_gap {q : Nat → Bool} {d : Nat} : ∀ {e : Nat}, d ≤ e → (∀ x, d ≤ x → x < e → q x = false) → cnt q e = cnt q d
  | 0, h, _ => by rw [show d = 0 by omega]
  | e + 1, h, hq => by
    by_cases hd : d = e + 1
    · rw [hd]
    · rw [cnt, hq e (by omega) (by omega), cnt_gap (by omega) (fun x h1 h2 => hq x h1 (by omega))]; rfl
theorem cnt_congr {p q : Nat → Bool} : ∀ {m : Nat}, (∀ x, x < m → p x = q x) → cnt p m = cnt q m
  | 0, _ => rfl
  | m + 1, h => by rw [cnt, cnt, h m (by omega), cnt_congr (fun x hx => h x (by omega))]
theorem cnt_add (q : Nat → Bool) (a : Nat) : ∀ b, cnt q (a + b) = cnt q a + cnt (fun x => q (a + x)) b
  | 0 => rfl
  | b + 1 => by rw [← Nat.add_assoc, cnt, cnt_add q a b, cnt]; omega
theorem cnt_le (q : Nat → Bool) {a b : Nat} (h : a ≤ b) : cnt q a ≤ cnt q b := by
  rw [show b = a + (b - a) by omega, cnt_add]; omega
theorem cnt_turn (p : Nat → Bool) {z o : Nat} (ho : o < z) : cnt (fun d => p (on z (o : Int) (d : Int))) z = cnt p z := by
  conv => lhs; rw [show z = (z - o) + o by omega]
  conv => rhs; rw [show z = o + (z - o) by omega]
  rw [show (z - o) + o = z by omega, cnt_add p o (z - o)]
  have h1 : cnt (fun d => p (on z (o : Int) (d : Int))) (z - o) = cnt (fun x => p (o + x)) (z - o) := cnt_congr fun x hx => by
    rw [on_nat, Nat.mod_eq_of_lt (by omega)]
  have h2 : cnt (fun x => p (on z (o : Int) ((z - o + x : Nat) : Int))) o = cnt p o := cnt_congr fun x hx => by
    rw [on_nat, show o + (z - o + x) = x + z by omega, Nat.add_mod_right, Nat.mod_eq_of_lt (by omega)]
  have h3 := cnt_add (fun d => p (on z (o : Int) (d : Int))) (z - o) o
  rw [show (z - o) + o = z by omega] at h3
  rw [h3, h1, h2]; omega
/-- One step of going round, from the offset d of an opener (as seen from o). -/
theorem round_step {cs : List C} {o d : Nat} (ho : o < cs.length) (hd : d < cs.length) (h : opener cs (on cs.length o (d : Int)) = true) :
    (∃ d', d < d' ∧ d' < cs.length ∧ opener cs (on cs.length o (d' : Int)) = true ∧ (∀ x, d < x → x < d' → opener cs (on cs.length o (x : Int)) = false) ∧ next cs (on cs.length o ((d : Int) + 1)) = ((on cs.length o ((d' : Int) + 1) : Nat) : Int)) ∨
    (∃ d', d' ≤ d ∧ opener cs (on cs.length o (d' : Int)) = true ∧ (∀ x, x < d' → opener cs (on cs.length o (x : Int)) = false) ∧ (∀ x, d < x → x < cs.length → opener cs (on cs.length o (x : Int)) = false) ∧ next cs (on cs.length o ((d : Int) + 1)) = ((on cs.length o ((d' : Int) + 1) : Nat) : Int)) := by
  obtain ⟨k, o', g1, g2, g3, g4, g5, g6, g7⟩ := next_of_first (on_lt (by omega) _ _) h
  rw [on_on (by omega)] at g3 g7
  have g6' : ∀ j : Nat, 1 ≤ j → j ≤ k → opener cs (on cs.length o ((d + j : Nat) : Int)) = false := fun j h1 h2 => by
    have := g6 j h1 h2
    rwa [on_on (by omega), show (d : Int) + (j : Int) = ((d + j : Nat) : Int) by omega] at this
  have e7 : next cs (on cs.length o ((d : Int) + 1)) = ((on cs.length o ((d : Int) + (k : Int) + 2) : Nat) : Int) := by
    rw [g7, g3, on_on (by omega)]; congr 2
  by_cases hl : d + k + 1 < cs.length
  · refine .inl ⟨d + k + 1, by omega, hl, ?_, fun x h1 h2 => ?_, ?_⟩
    · rw [g3] at g5
      rwa [show (d : Int) + ((k : Int) + 1) = ((d + k + 1 : Nat) : Int) by omega] at g5
    · have := g6' (x - d) (by omega) (by omega)
      rwa [show d + (x - d) = x by omega] at this
    · rw [e7]; congr 2
  · have wrap : ∀ y : Int, on cs.length (o : Int) (y + (cs.length : Int)) = on cs.length (o : Int) y := fun y => by
      unfold on; rw [← Int.add_assoc, Int.add_emod_right]
    refine .inr ⟨d + k + 1 - cs.length, by omega, ?_, fun x hx => ?_, fun x h1 h2 => ?_, ?_⟩
    · rw [g3] at g5
      rwa [show (d : Int) + ((k : Int) + 1) = ((d + k + 1 - cs.length : Nat) : Int) + (cs.length : Int) by omega, wrap] at g5
    · have := g6' (x + cs.length - d) (by omega) (by omega)
      rwa [show ((d + (x + cs.length - d) : Nat) : Int) = (x : Int) + (cs.length : Int) by omega, wrap] at this
    · have := g6' (x - d) (by omega) (by omega)
      rwa [show d + (x - d) = x by omega] at this
    · rw [e7, show (d : Int) + (k : Int) + 2 = ((d + k + 1 - cs.length : Nat) : Int) + 1 + (cs.length : Int) by omega, wrap]
end Fld
end Go.Proofs.YtpdlpmbjhopnnaaGreatDoor
/- Plain: where an open field with cells begins. -/
namespace Go.Proofs.YtpdlpmbjhopnnaaGreatDoor
set_option linter.unusedVariables false
namespace Fld
open Grd
theorem fat_of {cs : List C} {i : Nat} {f p n : Bool} {s : Int} {m : Bool} {c : Nat} (h : cs.getD i noC = ⟨f, p, n, s, m, c⟩) : fat cs i = f := by unfold fat; rw [h]
theorem opener_of {cs : List C} {i : Nat} {f p n : Bool} {s : Int} {m : Bool} {c : Nat} (h : cs.getD i noC = ⟨f, p, n, s, m, c⟩) {f' p' n' : Bool} {s' : Int} {m' : Bool} {c' : Nat} (h' : cs.getD (on cs.length i 1) noC = ⟨f', p', n', s', m', c'⟩) : opener cs i = (f && (!p && !f')) := by
  unfold opener prot; rw [fat_of h, fat_of h', h]
end Fld
end Go.Proofs.YtpdlpmbjhopnnaaGreatDoor
/- Plain: screens whose fields are alike. -/
namespace Go.Proofs.YtpdlpmbjhopnnaaGreatDoor
set_option linter.unusedVariables false
namespace Fld
open Grd
/-- Fields and protection alike: the same places are open, and the next field is the same. -/
def Alike (xs ys : List C) : Prop := xs.length = ys.length ∧ ∀ i, (xs.getD i noC).f = (ys.getD i noC).f ∧ (xs.getD i noC).p = (ys.getD i noC).p
theorem alike_fat {xs ys : List C} (h : Alike xs ys) (i : Nat) : fat xs i = fat ys i := (h.2 i).1
theorem firstK_congr {p q : Nat → Bool} (h : ∀ i, p i = q i) (k n : Nat) : firstK p k n = firstK q k n := by rw [show p = q from funext h]
theorem alike_begin {xs ys : List C} (h : Alike xs ys) (a : Nat) : begin_ xs a = begin_ ys a := by
  unfold begin_ backK
  rw [h.1, firstK_congr (fun k => alike_fat h _)]
theorem alike_open {xs ys : List C} (h : Alike xs ys) (a : Nat) : open_ xs a = open_ ys a := by
  unfold open_ attrOf
  rw [alike_fat h, alike_begin h]
  split
  · rfl
  · rw [(h.2 _).2]
theorem alike_opener {xs ys : List C} (h : Alike xs ys) (i : Nat) : opener xs i = opener ys i := by
  unfold opener prot
  rw [alike_fat h, alike_fat h, (h.2 i).2, h.1]
theorem alike_next {xs ys : List C} (h : Alike xs ys) (a : Nat) : next xs a = next ys a := by
  unfold next
  rw [h.1, firstK_congr (fun k => alike_opener h _)]
/-- Alike, and numeric where the other one is. -/
def Alikn (xs ys : List C) : Prop := Alike xs ys ∧ ∀ i, (xs.getD i noC).n = (ys.getD i noC).n
theorem alikn_attr {xs ys : List C} (h : Alikn xs ys) (a : Nat) : (attrOf xs a).n = (attrOf ys a).n ∧ (attrOf xs a).p = (attrOf ys a).p := by
  unfold attrOf
  rw [alike_begin h.1]
  split
  · exact ⟨rfl, rfl⟩
  · exact ⟨h.2 _, (h.1.2 _).2⟩
theorem any_congr {xs ys : List C} (h : Alike xs ys) : fmt xs = fmt ys := by
  cases hx : fmt xs with
  | true =>
    obtain ⟨i, hi, hf⟩ := fmt_iff.1 hx
    exact (fmt_iff.2 ⟨i, by rw [← h.1]; exact hi, by rw [← alike_fat h]; exact hf⟩).symm
  | false =>
    cases hy : fmt ys with
    | false => rfl
    | true =>
      obtain ⟨i, hi, hf⟩ := fmt_iff.1 hy
      have := fmt_iff.2 ⟨i, by rw [h.1]; exact hi, by rw [alike_fat h]; exact hf⟩
      rw [hx] at this; cases this
theorem alike_clen {xs ys : List C} (h : Alike xs ys) (b : Int) : clen xs b = clen ys b := by
  unfold clen
  rw [h.1, firstK_congr (fun k => alike_fat h _)]
end Fld
end Go.Proofs.YtpdlpmbjhopnnaaGreatDoor
/- Plain: where Next and Prev lead. -/
namespace Go.Proofs.YtpdlpmbjhopnnaaGreatDoor
set_option linter.unusedVariables false
namespace Fld
open Grd
theorem next_at {cs : List C} {a q : Nat} (h1 : 1 ≤ q) (h2 : q ≤ cs.length) (h : opener cs (on cs.length a (q : Int)) = true) (hn : ∀ j, 1 ≤ j → j < q → opener cs (on cs.length a (j : Int)) = false) : next cs a = ((on cs.length ((on cs.length a (q : Int) : Nat) : Int) 1 : Nat) : Int) := by
  have : firstK (fun k => opener cs (on cs.length a (k : Int))) 1 cs.length = some q := firstK_is h1 (by omega) h (fun i h1 h2 => hn i h1 h2)
  unfold next; rw [this]; simp only; rw [on_on (by omega)]
theorem next_no {cs : List C} {a : Nat} (hn : ∀ j, 1 ≤ j → j < cs.length + 1 → opener cs (on cs.length a (j : Int)) = false) : next cs a = -1 := by
  have : firstK (fun k => opener cs (on cs.length a (k : Int))) 1 cs.length = none := firstK_no (fun i h1 h2 => hn i h1 (by omega))
  unfold next; rw [this]
theorem prev_at {cs : List C} {a q : Nat} (h1 : 2 ≤ q) (h2 : q ≤ cs.length + 1) (h : opener cs (on cs.length a (-(q : Int))) = true) (hn : ∀ j, 2 ≤ j → j < q → opener cs (on cs.length a (-(j : Int))) = false) : prev cs a = ((on cs.length ((on cs.length a (-(q : Int)) : Nat) : Int) 1 : Nat) : Int) := by
  have : firstK (fun k => opener cs (on cs.length a (-(k : Int)))) 2 cs.length = some q := firstK_is h1 (by omega) h (fun i h1 h2 => hn i h1 h2)
  unfold prev; rw [this]; simp only
  have hz : 0 < cs.length := by omega
  rw [on_on hz]
theorem prev_no {cs : List C} {a : Nat} (hn : ∀ j, 2 ≤ j → j < cs.length + 2 → opener cs (on cs.length a (-(j : Int))) = false) : prev cs a = -1 := by
  have : firstK (fun k => opener cs (on cs.length a (-(k : Int)))) 2 cs.length = none := firstK_no (fun i h1 h2 => hn i h1 (by omega))
  unfold prev; rw [this]
end Fld
end Go.Proofs.YtpdlpmbjhopnnaaGreatDoor
/- The document's mod and Begin of layer 11. -/
namespace Go.Proofs.YtpdlpmbjhopnnaaGreatDoor
open Go.RowKit Sha Six Apd Cut Err Att Grd
set_option linter.unusedVariables false
namespace Fld
set_option maxRecDepth 100000 in
set_option maxHeartbeats 4000000 in
theorem rmod_any (n : Int) (z r : Nat) (w : World) (hz : 0 < z) (hz2 : z < 100000000) (hn : -1000000000 < n ∧ n < 1000000000) (hr : (r : Int) = n % (z : Int)) :
    Calls Tryz.prog 75 #[.int .i64 n, .int .i64 (z : Int)] w fun e w' => e = .returned (.int .i64 (r : Int)) ∧ w = w' := by
  have hne : ¬ (z : Int) = 0 := by omega
  have hne2 : ((z : Int) == 0) = false := by simp; omega
  have HR := Lib.hid hr
  have HZ := Lib.hid hz
  have HZ2 := Lib.hid hz2
  have HN := Lib.hid hn
  clear hr hz hz2 hn
  go_enter Tryz.func75, Tryz.ntmps75
  go_wp2_with fail
  go_loopg [0] ((1 - n).toNat + 1) (fun m v wr => ∃ n' : Int, v = .int .i64 n' ∧ m = (1 - n').toNat + 1 ∧ Hid (n' % (z : Int) = n % (z : Int)) ∧ Hid (-1000000000 < n' ∧ n' < 1000000000) ∧ wr = w)
  case atStart => exact ⟨n, rfl, rfl, Lib.hid rfl, HN, rfl⟩
  case round =>
    obtain ⟨n', rfl, rfl, HE, HB, rfl⟩ := hrel
    by_cases h0 : n' < 0
    · have hs : wrap64 (n' + (z : Int)) = n' + (z : Int) := by
        have := HB.out; have := HZ2.out; unfold wrap64; omega
      have HE2 := Lib.hid (show (n' + (z : Int)) % (z : Int) = n % (z : Int) by rw [Int.add_emod_right]; exact HE.out)
      have HB2 := Lib.hid (show -1000000000 < n' + (z : Int) ∧ n' + (z : Int) < 1000000000 by have := HB.out; have := HZ2.out; omega)
      have HS := Lib.hid hs
      go_wp2_with fail
      clear hs
      go_roundg ((1 - (n' + (z : Int))).toNat + 1)
      case measure => have := HZ.out; omega
      case rel => exact ⟨n' + (z : Int), by rw [HS.out], rfl, HE2, HB2, rfl⟩
    · have hr : n' % (z : Int) = (r : Int) := by rw [HE.out, HR.out]
      have hr2 : n'.tmod (z : Int) = (r : Int) := by rw [Int.tmod_eq_emod_of_nonneg (by omega), hr]
      go_wp2_with fail
      go_ret
      exact ⟨rfl, rfl⟩
theorem begin_at {cs : List C} {a k : Nat} (hk : k < cs.length) (h : fat cs (on cs.length a (-(k : Int))) = true) (hn : ∀ j, j < k → fat cs (on cs.length a (-(j : Int))) = false) : begin_ cs a = ((on cs.length (a : Int) (-(k : Int)) : Nat) : Int) := by
  have : backK cs a = some k := firstK_is (Nat.zero_le _) (by omega) h (fun i _ hi => hn i hi)
  unfold begin_; rw [this]
theorem begin_no {cs : List C} {a : Nat} (hn : ∀ j, j < cs.length → fat cs (on cs.length a (-(j : Int))) = false) : begin_ cs a = -1 := by
  have : backK cs a = none := firstK_no (fun i _ hi => hn i (by omega))
  unfold begin_; rw [this]
set_option maxRecDepth 100000 in
set_option maxHeartbeats 8000000 in
theorem rbegin_any (s : S) (ad : Option Addr) (k : Nat) (a : Nat) (w : World) (h : CelsIn w (.slice ad s.cs.length k) s.cs) (hz : 0 < s.cs.length) (hl : s.cs.length < 100000000) (ha : a < s.cs.length) :
    Calls Tryz.prog 74 #[.agg #[.int .i64 s.rows, .int .i64 s.cols, .slice ad s.cs.length k, .int .i64 s.cur, .bool s.lk, .bool s.ins], .int .i64 (a : Int)] w fun e w' => e = .returned (.int .i64 (begin_ s.cs a)) ∧ Below w.heap.size w w' := by
  have HB := Lib.hid (al_any w (.cells #[.int .i64 s.rows, .int .i64 s.cols, .slice ad s.cs.length k, .int .i64 s.cur, .bool s.lk, .bool s.ins] 24))
  have HX := Lib.hid (heap_alloc_new w (.cells #[.int .i64 s.rows, .int .i64 s.cols, .slice ad s.cs.length k, .int .i64 s.cur, .bool s.lk, .bool s.ins] 24))
  have HI := Lib.hid (h.below HB.out)
  have HZ := Lib.hid hz
  have HL := Lib.hid hl
  have HA := Lib.hid ha
  clear h hz hl ha
  go_enter Tryz.func74, Tryz.ntmps74
  go_upto_region 1 with (fail)
  generalize w.alloc _ = w1 at *
  go_wp2_with fail
  go_loopg [5] (s.cs.length + 1) (fun m i wr => ∃ q : Nat, q ≤ s.cs.length ∧ m = s.cs.length + 1 - q ∧ i = .int .i64 q ∧ Hid (∀ j, j < q → fat s.cs (on s.cs.length a (-(j : Int))) = false) ∧ wr = w1)
  case atStart => exact ⟨0, Nat.zero_le _, rfl, rfl, Lib.hid nofun, rfl⟩
  case round =>
    obtain ⟨q, hq, rfl, rfl, HF, rfl⟩ := hrel
    have ew : IntKind.i64.wrap ((q : Int) + 1) = (q : Int) + 1 := by
      have := HL.out
      rw [IntWalk.i64_in] <;> omega
    have ea : wrap64 ((a : Int) - (q : Int)) = (a : Int) - (q : Int) := by
      have := HL.out; have := HA.out; unfold wrap64; omega
    obtain ⟨c0, c1, c2, c3, c4, c5⟩ := cells6 HX.out
    by_cases hlt : q < s.cs.length
    · have HM := Lib.hid (rmod_any ((a : Int) - (q : Int)) s.cs.length (on s.cs.length a (-(q : Int))) wr HZ.out HL.out (by have := HL.out; have := HA.out; omega) (by rw [on_cast HZ.out]; congr 1))
      have HIX := Lib.hid (on_lt HZ.out (a : Int) (-(q : Int)))
      obtain ⟨xf, xp, xn, xs, xm, xc, ex⟩ := c_eta (s.cs.getD (on s.cs.length a (-(q : Int))) noC)
      obtain ⟨b1, o1, rfl, g0, g1, g2, g3, g4, g5⟩ := HI.out.cells HIX.out ex
      have HQ := Lib.hid (fat_of ex)
      have HBA := Lib.hid fun h => begin_at (cs := s.cs) (a := a) (k := q) hlt h HF.out
      clear ex
      generalize hix : on s.cs.length (a : Int) (-(q : Int)) = ix at *
      replace hix := Lib.hid hix
      have hi0 : (0 : Int) ≤ (ix : Int) := by omega
      have hi1 : (ix : Int) < (s.cs.length : Int) := by have := HIX.out; omega
      have hi2 : (q : Int) < (s.cs.length : Int) := by omega
      go_wp2_with fail
      with_reducible refine HM.out.mono ?_
      rintro e w2 ⟨rfl, rfl⟩
      cases xf with
      | true =>
        have HT := Lib.hid (HBA.out HQ.out)
        clear ea
        go_wp2_with fail
        go_ret
        exact ⟨by rw [HT.out]; rfl, HB.out⟩
      | false =>
        clear ea
        go_wp2_with fail
        go_roundg (s.cs.length + 1 - (q + 1))
        case measure => omega
        case rel =>
          refine ⟨q + 1, by omega, rfl, rfl, Lib.hid fun j hj => ?_, rfl⟩
          by_cases hjq : j = q
          · subst hjq; rw [hix.out]; exact HQ.out
          · exact HF.out j (by omega)
    · have HT := Lib.hid (begin_no (cs := s.cs) (a := a) fun j hj => HF.out j (by omega))
      have hn0 : ¬ (q : Int) < (s.cs.length : Int) := by omega
      clear hlt ea
      go_wp2_with fail
      go_ret
      exact ⟨by rw [HT.out]; rfl, HB.out⟩
end Fld
end Go.Proofs.YtpdlpmbjhopnnaaGreatDoor
/- The document's mod, Formatted and Begin of layer 11. -/
namespace Go.Proofs.YtpdlpmbjhopnnaaGreatDoor
open Go.RowKit Sha Six Apd Cut Err Att Grd
set_option linter.unusedVariables false
namespace Fld
set_option maxRecDepth 100000 in
set_option maxHeartbeats 8000000 in
theorem rfmt_any (s : S) (ad : Option Addr) (k : Nat) (w : World) (h : CelsIn w (.slice ad s.cs.length k) s.cs) (hz : 0 < s.cs.length) (hl : s.cs.length < 100000000) :
    Calls Tryz.prog 37 #[.agg #[.int .i64 s.rows, .int .i64 s.cols, .slice ad s.cs.length k, .int .i64 s.cur, .bool s.lk, .bool s.ins]] w fun e w' => e = .returned (.bool (fmt s.cs)) ∧ Below w.heap.size w w' := by
  have HB := Lib.hid (al_any w (.cells #[.int .i64 s.rows, .int .i64 s.cols, .slice ad s.cs.length k, .int .i64 s.cur, .bool s.lk, .bool s.ins] 24))
  have HX := Lib.hid (heap_alloc_new w (.cells #[.int .i64 s.rows, .int .i64 s.cols, .slice ad s.cs.length k, .int .i64 s.cur, .bool s.lk, .bool s.ins] 24))
  have HI := Lib.hid (h.below HB.out)
  have HZ := Lib.hid hz
  have HL := Lib.hid hl
  clear h hz hl
  go_enter Tryz.func37, Tryz.ntmps37
  go_upto_region 1 with (fail)
  generalize w.alloc _ = w1 at *
  go_wp2_with fail
  go_loopg [3] (s.cs.length + 1) (fun m i wr => ∃ q : Nat, q ≤ s.cs.length ∧ m = s.cs.length + 1 - q ∧ i = .int .i64 q ∧ Hid (∀ j, j < q → fat s.cs j = false) ∧ wr = w1)
  case atStart => exact ⟨0, Nat.zero_le _, rfl, rfl, Lib.hid nofun, rfl⟩
  case round =>
    obtain ⟨q, hq, rfl, rfl, HF, rfl⟩ := hrel
    have ew : IntKind.i64.wrap ((q : Int) + 1) = (q : Int) + 1 := by
      have := HL.out
      rw [IntWalk.i64_in] <;> omega
    obtain ⟨c0, c1, c2, c3, c4, c5⟩ := cells6 HX.out
    by_cases hlt : q < s.cs.length
    · obtain ⟨xf, xp, xn, xs, xm, xc, ex⟩ := c_eta (s.cs.getD q noC)
      obtain ⟨b1, o1, rfl, g0, g1, g2, g3, g4, g5⟩ := HI.out.cells hlt ex
      have hi0 : (0 : Int) ≤ (q : Int) := by omega
      have hi1 : (q : Int) < (s.cs.length : Int) := by omega
      have HQ := Lib.hid (fat_of ex)
      clear ex
      cases xf with
      | true =>
        have HT := Lib.hid (fmt_iff.2 ⟨q, hlt, HQ.out⟩)
        go_wp2_with fail
        go_ret
        exact ⟨by rw [HT.out]; rfl, HB.out⟩
      | false =>
        go_wp2_with fail
        go_roundg (s.cs.length + 1 - (q + 1))
        case measure => omega
        case rel =>
          refine ⟨q + 1, by omega, rfl, rfl, Lib.hid fun j hj => ?_, rfl⟩
          by_cases hjq : j = q
          · subst hjq; exact HQ.out
          · exact HF.out j (by omega)
    · have HT := Lib.hid (show fmt s.cs = false by
        cases hf : fmt s.cs with
        | false => rfl
        | true =>
          obtain ⟨i, hi, hfi⟩ := fmt_iff.1 hf
          rw [HF.out i (by omega)] at hfi; cases hfi)
      have hn0 : ¬ (q : Int) < (s.cs.length : Int) := by omega
      clear hlt
      go_wp2_with fail
      go_ret
      exact ⟨by rw [HT.out]; rfl, HB.out⟩
end Fld
end Go.Proofs.YtpdlpmbjhopnnaaGreatDoor
/- The document's Cells of layer 11. -/
namespace Go.Proofs.YtpdlpmbjhopnnaaGreatDoor
open Go.RowKit Sha Six Apd Cut Err Att Grd
set_option linter.unusedVariables false
namespace Fld
theorem clen_spec (cs : List C) (b : Int) : clen cs b ≤ cs.length ∧ (∀ i, i < clen cs b → fat cs (on cs.length b ((i : Int) + 1)) = false) ∧ (clen cs b < cs.length → fat cs (on cs.length b ((clen cs b : Int) + 1)) = true) := by
  unfold clen
  cases hk : firstK (fun k => fat cs (on cs.length b (k : Int))) 1 cs.length with
  | none =>
    refine ⟨Nat.le_refl _, fun i hi => ?_, fun h => absurd h (Nat.lt_irrefl _)⟩
    have := firstK_none hk (i + 1) (by omega) (by simp only at hi; omega)
    rwa [show ((i + 1 : Nat) : Int) = (i : Int) + 1 by omega] at this
  | some k =>
    obtain ⟨g1, g2, g3, g4⟩ := firstK_some hk
    simp only
    refine ⟨by omega, fun i hi => ?_, fun _ => ?_⟩
    · have := g4 (i + 1) (by omega) (by omega)
      rwa [show ((i + 1 : Nat) : Int) = (i : Int) + 1 by omega] at this
    · rw [show ((k - 1 : Nat) : Int) + 1 = (k : Int) by omega]; exact g3
theorem begin_bounds (cs : List C) (a : Nat) (ha : a < cs.length) : -1 ≤ begin_ cs a ∧ begin_ cs a < (cs.length : Int) := by
  cases hf : fmt cs with
  | false => rw [begin_none ha hf]; omega
  | true =>
    obtain ⟨_, b, _, _, hb, hl, _⟩ := begin_some ha hf
    rw [hb]; omega
set_option maxRecDepth 100000 in
set_option maxHeartbeats 8000000 in
theorem rcells_any (s : S) (ad : Option Addr) (k : Nat) (a : Nat) (w : World) (h : CelsIn w (.slice ad s.cs.length k) s.cs) (hz : 0 < s.cs.length) (hl : s.cs.length < 100000000) (ha : a < s.cs.length) :
    Calls Tryz.prog 39 #[.agg #[.int .i64 s.rows, .int .i64 s.cols, .slice ad s.cs.length k, .int .i64 s.cur, .bool s.lk, .bool s.ins], .int .i64 (a : Int)] w fun e w' => ∃ v, e = .returned v ∧ OwnInts w' w.heap.size v (cells s.cs a) ∧ Below w.heap.size w w' := by
  have HB := Lib.hid (al_any w (.cells #[.int .i64 s.rows, .int .i64 s.cols, .slice ad s.cs.length k, .int .i64 s.cur, .bool s.lk, .bool s.ins] 24))
  have HX := Lib.hid (heap_alloc_new w (.cells #[.int .i64 s.rows, .int .i64 s.cols, .slice ad s.cs.length k, .int .i64 s.cur, .bool s.lk, .bool s.ins] 24))
  have H0 := Lib.hid h
  have HI := Lib.hid (h.below HB.out)
  have HZ := Lib.hid hz
  have HL := Lib.hid hl
  have HP := Lib.hid fun W hb => rbegin_any s ad k a W (HI.out.below hb) hz hl ha
  have HBB := Lib.hid (begin_bounds s.cs a ha)
  have HC := Lib.hid (clen_spec s.cs (begin_ s.cs a))
  have HG := Lib.hid (fun i (h : i < clen s.cs (begin_ s.cs a)) => cells_getD (cs := s.cs) (b := begin_ s.cs a) h)
  have HN := Lib.hid (cells_len s.cs (begin_ s.cs a))
  have hcl : cells s.cs a = cellsAt s.cs (begin_ s.cs a) := rfl
  rw [hcl]
  clear hcl h hz hl ha
  have hlb : (s.cs.length : Int) < 100000000 := by have := HL.out; omega
  go_enter Tryz.func39, Tryz.ntmps39
  go_upto_region 1 with (fail)
  generalize w.alloc _ = w1 at *
  obtain ⟨c0, c1, c2, c3, c4, c5⟩ := cells6 HX.out
  go_wp2_with fail
  with_reducible refine (HP.out _ (Below.refl _ _)).mono ?_
  rintro e w2 ⟨rfl, hb⟩
  have K2 := kept_hid HB hb
  have X2 := Lib.hid (blk HX.out hb)
  clear hb c0 c1 c2 c3 c4 c5 HB HX HI HP
  generalize hcs : cellsAt s.cs (begin_ s.cs a) = cl at HG HN
  replace hcs := Lib.hid hcs
  generalize hcn : clen s.cs (begin_ s.cs a) = L at HC HG HN
  clear hcn
  generalize begin_ s.cs a = B at HBB HC HG ⊢
  have hB0 : -1 ≤ B := HBB.out.1
  have hB1 : B < (s.cs.length : Int) := HBB.out.2
  go_wp2_with fail
  go_loopg [5, 7] (L + 2) (fun m v i wr => ∃ p : Nat, 1 ≤ p ∧ p ≤ L + 1 ∧ m = L + 3 - p ∧ i = .int .i64 p ∧ Hid (Below w2.heap.size w2 wr ∨ True) ∧ Hid (Below w.heap.size w wr) ∧ Hid (wr.heap[w.heap.size]? = some (.cells #[.int .i64 s.rows, .int .i64 s.cols, .slice ad s.cs.length k, .int .i64 s.cur, .bool s.lk, .bool s.ins] 24 (0, 0))) ∧ Hid (OwnInts wr (w.heap.size + 1) v (cl.take (p - 1))))
  case atStart => exact ⟨1, Nat.le_refl _, by omega, by omega, rfl, Lib.hid (.inr trivial), K2, X2, Lib.hid (World.ownsRow_nil _ _ _ _)⟩
  case round =>
    obtain ⟨p, hp1, hp, rfl, rfl, _, HK, HXr, HW⟩ := hrel
    have HIr := Lib.hid (H0.out.below HK.out)
    have ew : IntKind.i64.wrap ((p : Int) + 1) = (p : Int) + 1 := by
      have := HL.out; have := HC.out.1
      rw [IntWalk.i64_in] <;> omega
    obtain ⟨va, vc, rfl⟩ := HW.out.form
    have HLT := Lib.hid (show (cl.take (p - 1)).length = p - 1 by rw [List.length_take, HN.out]; omega)
    obtain ⟨c0, c1, c2, c3, c4, c5⟩ := cells6 HXr.out
    by_cases hlt : p ≤ s.cs.length
    · have hle : (p : Int) ≤ (s.cs.length : Int) := by omega
      have HM := Lib.hid fun W => rmod_any (B + (p : Int)) s.cs.length (on s.cs.length B (p : Int)) W HZ.out HL.out (by have := HL.out; omega) (by rw [on_cast HZ.out])
      have HIX := Lib.hid (on_lt HZ.out B (p : Int))
      obtain ⟨xf, xp, xn, xs, xm, xc, ex⟩ := c_eta (s.cs.getD (on s.cs.length B (p : Int)) noC)
      obtain ⟨b1, o1, rfl, g0, g1, g2, g3, g4, g5⟩ := HIr.out.cells HIX.out ex
      have HQ := Lib.hid (fat_of ex)
      have HGP := Lib.hid (fun (h : p - 1 < L) => show cl.getD (p - 1) 0 = on s.cs.length B (p : Int) by
        rw [HG.out _ h]; congr 1; omega)
      have HFN := Lib.hid (fun (h : p - 1 < L) => show fat s.cs (on s.cs.length B (p : Int)) = false by
        have := HC.out.2.1 _ h
        rwa [show ((p - 1 : Nat) : Int) + 1 = (p : Int) by omega] at this)
      have HFY := Lib.hid (fun (h : p - 1 = L) => show fat s.cs (on s.cs.length B (p : Int)) = true by
        have := HC.out.2.2 (by omega)
        rwa [show ((L : Int) + 1) = (p : Int) by omega] at this)
      clear ex
      generalize on s.cs.length B (p : Int) = ix at *
      have hi0 : (0 : Int) ≤ (ix : Int) := by omega
      have hi1 : (ix : Int) < (s.cs.length : Int) := by have := HIX.out; omega
      cases xf with
      | true =>
        have hpl : p - 1 = L := by
          rcases Nat.lt_or_ge (p - 1) L with h' | h'
          · have := HFN.out h'; rw [HQ.out] at this; cases this
          · omega
        have W6 := Lib.hid (show OwnInts wr w.heap.size (.slice va (p - 1) vc) cl from by
          have := HW.out.mono (Nat.le_succ w.heap.size)
          rwa [HLT.out, List.take_of_length_le (by rw [HN.out]; omega)] at this)
        clear hpl HFY HFN HGP HQ
        go_wp2_with fail
        with_reducible refine (HM.out _).mono ?_
        rintro e w3 ⟨rfl, rfl⟩
        rw [HLT.out]
        go_wp2_with fail
        go_ret
        exact ⟨_, rfl, by rw [hcs.out]; exact W6.out, HK.out⟩
      | false =>
        have hpl : p - 1 < L := by
          rcases Nat.lt_or_ge (p - 1) L with h' | h'
          · exact h'
          · have := HFY.out (by omega); rw [HQ.out] at this; cases this
        have HTK := Lib.hid (show cl.take (p - 1) ++ [ix] = cl.take p by
          have h2 := HGP.out hpl
          have h3 : p - 1 < cl.length := by rw [HN.out]; exact hpl
          rw [List.getD_eq_getElem?_getD, List.getElem?_eq_getElem h3, Option.getD_some] at h2
          rw [← h2, ← List.take_succ_eq_append_getElem h3, show p - 1 + 1 = p by omega])
        have HPL := Lib.hid hpl
        clear hpl HFY HFN HGP HQ
        have HAL := al_any wr (.cells #[.int .i64 (ix : Int)] 3)
        have K4 := kept_hid HK HAL
        have X4 := Lib.hid (blk HXr.out HAL)
        have W4 := Lib.hid (HW.out.below HAL)
        have L4 := Lib.hid (heap_alloc_new wr (.cells #[.int .i64 (ix : Int)] 3))
        have HOG := Lib.hid (show ∀ g, (Value.slice va (cl.take (p - 1)).length vc).ownBlock = some g → w.heap.size + 1 ≤ g from own_ge HW.out)
        clear HK HXr HW HAL HIr
        go_wp2_with fail
        with_reducible refine (HM.out _).mono ?_
        rintro e w3 ⟨rfl, rfl⟩
        rw [HLT.out]
        go_wp2_with (at_builtin; refine wpList_mark ?_)
        refine Lib.hid ?_
        refine append_int rfl (.tmp 32) (.tmp 34) rfl (w.heap.size + 1) (.slice va (cl.take (p - 1)).length vc) (cl.take (p - 1)) (by rw [HLT.out]; rfl) W4.out wr.heap.size ix rfl L4.out (by rw [HLT.out]; have := HPL.out; have := HC.out.1; have := HL.out; omega) (there_lt X4.out) ?_
        intro v' w5 hown hgr
        rw [HTK.out] at hown
        have W5 := Lib.hid (show OwnInts w5 (w.heap.size + 1) v' (cl.take (p + 1 - 1)) from by rw [Nat.add_sub_cancel]; exact hown)
        have X5 := Lib.hid (blk_g X4.out hgr (by intro e; have := HOG.out _ e.symm; omega))
        have K5 := Lib.hid (K4.out.grown hgr K4.out.size (fun g hg => by have := HOG.out _ hg; omega))
        obtain ⟨va5, vc5, rfl⟩ := W5.out.form
        have HLT5 := Lib.hid (show (cl.take (p + 1 - 1)).length = p by rw [Nat.add_sub_cancel, List.length_take, HN.out]; have := HPL.out; omega)
        clear hown hgr HTK W4 X4 K4 L4
        rw [HLT5.out]
        go_wp2_with fail
        go_roundg (L + 3 - (p + 1))
        case measure => have := HPL.out; omega
        case rel => exact ⟨p + 1, by omega, by have := HPL.out; omega, rfl, rfl, Lib.hid (.inr trivial), K5, X5, Lib.hid (by have := W5.out; rwa [HLT5.out] at this)⟩
    · have hpl : p - 1 = L := by have := HC.out.1; omega
      have W6 := Lib.hid (show OwnInts wr w.heap.size (.slice va (p - 1) vc) cl from by
        have := HW.out.mono (Nat.le_succ w.heap.size)
        rwa [HLT.out, List.take_of_length_le (by rw [HN.out]; omega)] at this)
      have hgt : ¬ (p : Int) ≤ (s.cs.length : Int) := by omega
      clear hlt hpl
      rw [HLT.out]
      go_wp2_with fail
      go_ret
      exact ⟨_, rfl, by rw [hcs.out]; exact W6.out, HK.out⟩
end Fld
end Go.Proofs.YtpdlpmbjhopnnaaGreatDoor
