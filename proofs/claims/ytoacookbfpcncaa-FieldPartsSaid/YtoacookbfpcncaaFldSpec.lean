/- Plain: fields of a screen: where they begin, their cells, the next and the last open one. -/
import Derived.Test.YtoacookbfpcncaaGrdSpec
namespace Go.Proofs.Ytoacookbfpcncaa
set_option linter.unusedVariables false
namespace Fld
open Grd
/-- The first of the n numbers from k on that is so. -/
def firstK (p : Nat → Bool) : Nat → Nat → Option Nat
  | _, 0 => none
  | k, n + 1 => if p k then some k else firstK p (k + 1) n
theorem firstK_some {p : Nat → Bool} : ∀ {n k j : Nat}, firstK p k n = some j → k ≤ j ∧ j < k + n ∧ p j = true ∧ ∀ i, k ≤ i → i < j → p i = false
  | 0, _, _, h => by cases h
  | n + 1, k, j, h => by
    unfold firstK at h
    split at h
    · rename_i hp
      injection h with h
      subst h
      exact ⟨Nat.le_refl _, by omega, hp, fun i h1 h2 => by omega⟩
    · rename_i hp
      obtain ⟨h1, h2, h3, h4⟩ := firstK_some h
      refine ⟨by omega, by omega, h3, fun i h5 h6 => ?_⟩
      by_cases hi : i = k
      · subst hi; simpa using hp
      · exact h4 i (by omega) h6
theorem firstK_none {p : Nat → Bool} : ∀ {n k : Nat}, firstK p k n = none → ∀ i, k ≤ i → i < k + n → p i = false
  | 0, k, _, i, h1, h2 => by omega
  | n + 1, k, h, i, h1, h2 => by
    unfold firstK at h
    split at h
    · cases h
    · rename_i hp
      by_cases hi : i = k
      · subst hi; simpa using hp
      · exact firstK_none h i (by omega) (by omega)
theorem firstK_is {p : Nat → Bool} {n k j : Nat} (h1 : k ≤ j) (h2 : j < k + n) (h3 : p j = true) (h4 : ∀ i, k ≤ i → i < j → p i = false) : firstK p k n = some j := by
  cases h : firstK p k n with
  | none => rw [firstK_none h j h1 h2] at h3; cases h3
  | some i =>
    obtain ⟨g1, g2, g3, g4⟩ := firstK_some h
    rcases Nat.lt_trichotomy i j with hl | hl | hl
    · rw [h4 i g1 hl] at g3; cases g3
    · rw [hl]
    · rw [g4 j h1 hl] at h3; cases h3
theorem firstK_no {p : Nat → Bool} {n k : Nat} (h : ∀ i, k ≤ i → i < k + n → p i = false) : firstK p k n = none := by
  cases h' : firstK p k n with
  | none => rfl
  | some j =>
    obtain ⟨g1, g2, g3, _⟩ := firstK_some h'
    rw [h j g1 g2] at g3; cases g3
/-- A field begins at cell i. -/
def fat (cs : List C) (i : Nat) : Bool := (cs.getD i noC).f
def prot (cs : List C) (i : Nat) : Bool := (cs.getD i noC).p
def fmt (cs : List C) : Bool := cs.any (·.f)
/-- How far back the field begins. -/
def backK (cs : List C) (a : Nat) : Option Nat := firstK (fun k => fat cs (on cs.length a (-(k : Int)))) 0 cs.length
def begin_ (cs : List C) (a : Nat) : Int := match backK cs a with
  | some k => (on cs.length a (-(k : Int)) : Nat)
  | none => -1
/-- How many cells a field has that begins at b (-1: all). -/
def clen (cs : List C) (b : Int) : Nat := match firstK (fun k => fat cs (on cs.length b (k : Int))) 1 cs.length with
  | some k => k - 1
  | none => cs.length
def cellsAt (cs : List C) (b : Int) : List Nat := (List.range (clen cs b)).map fun (i : Nat) => on cs.length b ((i : Int) + 1)
def cells (cs : List C) (a : Nat) : List Nat := cellsAt cs (begin_ cs a)
/-- The attribute's part of a cell. -/
def attrOf (cs : List C) (a : Nat) : C := if begin_ cs a < 0 then noC else cs.getD (begin_ cs a).toNat noC
def open_ (cs : List C) (a : Nat) : Bool := !fat cs a && !(attrOf cs a).p
/-- An open field with cells begins at i. -/
def opener (cs : List C) (i : Nat) : Bool := fat cs i && (!prot cs i && !fat cs (on cs.length i 1))
def next (cs : List C) (a : Nat) : Int := match firstK (fun k => opener cs (on cs.length a (k : Int))) 1 cs.length with
  | some k => (on cs.length a ((k : Int) + 1) : Nat)
  | none => -1
def prev (cs : List C) (a : Nat) : Int := match firstK (fun k => opener cs (on cs.length a (-(k : Int)))) 2 cs.length with
  | some k => (on cs.length a (-(k : Int) + 1) : Nat)
  | none => -1
def begins (cs : List C) : List Nat := (List.range cs.length).filter (fat cs)
theorem fmt_iff {cs : List C} : fmt cs = true ↔ ∃ i, i < cs.length ∧ fat cs i = true := by
  unfold fmt fat
  rw [List.any_eq_true]
  constructor
  · rintro ⟨o, ho, hf⟩
    obtain ⟨i, hi, rfl⟩ := List.getElem_of_mem ho
    exact ⟨i, hi, by rw [List.getD_eq_getElem?_getD, List.getElem?_eq_getElem hi]; exact hf⟩
  · rintro ⟨i, hi, hf⟩
    rw [List.getD_eq_getElem?_getD, List.getElem?_eq_getElem hi] at hf
    exact ⟨_, List.getElem_mem hi, hf⟩
/-- Back from a by as much as it takes to come to i. -/
theorem reach_back {z a i : Nat} (ha : a < z) (hi : i < z) : ∃ k, k < z ∧ on z a (-(k : Int)) = i := by
  by_cases h : i ≤ a
  · refine ⟨a - i, by omega, ?_⟩
    unfold on
    rw [show (a : Int) + -((a - i : Nat) : Int) = (i : Int) by omega, Int.emod_eq_of_lt (by omega) (by omega)]; omega
  · refine ⟨a + z - i, by omega, ?_⟩
    unfold on
    rw [← Int.add_emod_right, show (a : Int) + -((a + z - i : Nat) : Int) + (z : Int) = (i : Int) by omega, Int.emod_eq_of_lt (by omega) (by omega)]; omega
theorem reach_on {z a i : Nat} (ha : a < z) (hi : i < z) : ∃ k, 1 ≤ k ∧ k ≤ z ∧ on z a (k : Int) = i := by
  by_cases h : a < i
  · refine ⟨i - a, by omega, by omega, ?_⟩
    unfold on
    rw [show (a : Int) + ((i - a : Nat) : Int) = (i : Int) by omega, Int.emod_eq_of_lt (by omega) (by omega)]; omega
  · refine ⟨i + z - a, by omega, by omega, ?_⟩
    unfold on
    rw [show (a : Int) + ((i + z - a : Nat) : Int) = (i : Int) + (z : Int) by omega, Int.add_emod_right, Int.emod_eq_of_lt (by omega) (by omega)]; omega
theorem begin_some {cs : List C} {a : Nat} (ha : a < cs.length) (hf : fmt cs = true) :
    ∃ k b, k < cs.length ∧ b = on cs.length a (-(k : Int)) ∧ begin_ cs a = (b : Int) ∧ b < cs.length ∧ fat cs b = true ∧ ∀ i, i < k → fat cs (on cs.length a (-(i : Int))) = false := by
  obtain ⟨i, hi, hfi⟩ := fmt_iff.1 hf
  obtain ⟨k, hk, he⟩ := reach_back ha hi
  cases h : backK cs a with
  | none =>
    have := firstK_none h k (Nat.zero_le _) (by omega)
    rw [he, hfi] at this; cases this
  | some j =>
    obtain ⟨_, g2, g3, g4⟩ := firstK_some h
    refine ⟨j, _, by omega, rfl, ?_, on_lt (by omega) _ _, g3, fun i hi => g4 i (Nat.zero_le _) hi⟩
    unfold begin_; rw [h]
theorem begin_none {cs : List C} {a : Nat} (ha : a < cs.length) (hf : fmt cs = false) : begin_ cs a = -1 := by
  have h : backK cs a = none := firstK_no fun i _ _ => by
    cases h' : fat cs (on cs.length a (-(i : Int))) with
    | false => rfl
    | true =>
      have := fmt_iff.2 ⟨_, on_lt (by omega) _ _, h'⟩
      rw [hf] at this; cases this
  unfold begin_; rw [h]
theorem on_self {z a : Nat} (ha : a < z) (k : Nat) : on z ((on z a (-(k : Int)) : Nat) : Int) (k : Int) = a := by
  rw [on_on (by omega), show -(k : Int) + (k : Int) = 0 by omega, on_zero ha]
theorem begin_self {cs : List C} {a : Nat} (ha : a < cs.length) (h : fat cs a = true) : begin_ cs a = (a : Int) := by
  have h0 : on cs.length (a : Int) (-((0 : Nat) : Int)) = a := by
    rw [show -((0 : Nat) : Int) = 0 from rfl, on_zero ha]
  have hb : backK cs a = some 0 := firstK_is (Nat.le_refl _) (by omega) (by rw [h0]; exact h) (fun i _ h => absurd h (by omega))
  unfold begin_; rw [hb]; simp only; rw [h0]
/-- The cells behind b, as many as clen says, begin no field; the next one does. -/
theorem clen_some {cs : List C} {b : Nat} (hb : b < cs.length) (h : fat cs b = true) : clen cs b + 1 ≤ cs.length ∧ (∀ i, i < clen cs b → fat cs (on cs.length b ((i : Int) + 1)) = false) ∧ fat cs (on cs.length b ((clen cs b : Nat) + 1 : Int)) = true := by
  unfold clen
  cases hk : firstK (fun k => fat cs (on cs.length b (k : Int))) 1 cs.length with
  | none =>
    have := firstK_none hk cs.length (by omega) (by omega)
    rw [on_all hb, h] at this; cases this
  | some k =>
    obtain ⟨g1, g2, g3, g4⟩ := firstK_some hk
    simp only
    refine ⟨by omega, fun i hi => ?_, ?_⟩
    · have := g4 (i + 1) (by omega) (by omega)
      rwa [show ((i + 1 : Nat) : Int) = (i : Int) + 1 by omega] at this
    · rw [show (((k - 1 : Nat) : Int) + 1) = (k : Int) by omega]; exact g3
theorem clen_none {cs : List C} (hz : 0 < cs.length) (hf : fmt cs = false) (b : Int) : clen cs b = cs.length := by
  unfold clen
  have h : firstK (fun k => fat cs (on cs.length b (k : Int))) 1 cs.length = none := firstK_no fun i _ _ => by
    cases h' : fat cs (on cs.length b (i : Int)) with
    | false => rfl
    | true =>
      have := fmt_iff.2 ⟨_, on_lt hz _ _, h'⟩
      rw [hf] at this; cases this
  rw [h]
/-- A field's cells have its beginning. -/
theorem begin_of_cell {cs : List C} {b i : Nat} (hb : b < cs.length) (h : fat cs b = true) (hi : i < clen cs b) : begin_ cs (on cs.length b ((i : Int) + 1)) = (b : Int) := by
  obtain ⟨h1, h2, _⟩ := clen_some hb h
  have e : ∀ k : Nat, on cs.length ((on cs.length b ((i : Int) + 1) : Nat) : Int) (-(k : Int)) = on cs.length b ((i : Int) + 1 - (k : Int)) := fun k => by
    rw [on_on (by omega)]; rfl
  have hk : backK cs (on cs.length b ((i : Int) + 1)) = some (i + 1) := by
    refine firstK_is (Nat.zero_le _) (by omega) ?_ fun j _ hj => ?_
    · skip
      rw [e, show (i : Int) + 1 - ((i + 1 : Nat) : Int) = 0 by omega, on_zero hb]; exact h
    · skip
      rw [e, show (i : Int) + 1 - (j : Int) = ((i - j : Nat) : Int) + 1 by omega]
      exact h2 _ (by omega)
  unfold begin_; rw [hk]; simp only
  rw [e, show (i : Int) + 1 - ((i + 1 : Nat) : Int) = 0 by omega, on_zero hb]
/-- Each cell that begins no field is one of its field's. -/
theorem cell_of_begin {cs : List C} {a : Nat} (ha : a < cs.length) (hf : fmt cs = true) (hn : fat cs a = false) : ∃ b i : Nat, begin_ cs a = (b : Int) ∧ b < cs.length ∧ fat cs b = true ∧ i < clen cs b ∧ on cs.length b ((i : Int) + 1) = a := by
  obtain ⟨k, b, hk, hb, hbe, hbl, hfb, hno⟩ := begin_some ha hf
  have hk0 : k ≠ 0 := by
    intro h0
    subst h0
    rw [show -((0 : Nat) : Int) = 0 from rfl, on_zero ha] at hb
    rw [hb, hn] at hfb; cases hfb
  have hon : on cs.length b (k : Int) = a := by rw [hb]; exact on_self ha k
  obtain ⟨h1, h2, h3⟩ := clen_some hbl hfb
  refine ⟨b, k - 1, hbe, hbl, hfb, ?_, by rw [show ((k - 1 : Nat) : Int) + 1 = (k : Int) by omega]; exact hon⟩
  rcases Nat.lt_or_ge (k - 1) (clen cs b) with hl | hl
  · exact hl
  · exfalso
    have := hno (k - (clen cs b + 1)) (by omega)
    have e : on cs.length (a : Int) (-((k - (clen cs b + 1) : Nat) : Int)) = on cs.length b ((clen cs b : Nat) + 1 : Int) := by
      rw [← hon, on_on (by omega)]
      congr 1; omega
    rw [e, h3] at this; cases this
theorem mem_cells {cs : List C} {b : Int} {c : Nat} : c ∈ cellsAt cs b ↔ ∃ i, i < clen cs b ∧ on cs.length b ((i : Int) + 1) = c := by
  unfold cellsAt
  simp only [List.mem_map, List.mem_range]
theorem cells_len (cs : List C) (b : Int) : (cellsAt cs b).length = clen cs b := by simp [cellsAt]
theorem cells_getD {cs : List C} {b : Int} {i : Nat} (h : i < clen cs b) : (cellsAt cs b).getD i 0 = on cs.length b ((i : Int) + 1) := by
  simp [cellsAt, List.getD_eq_getElem?_getD, h]
theorem on_inj2 {z b i j : Nat} (hi : i + 1 < z) (hj : j + 1 < z) (h : on z (b : Int) ((i : Int) + 1) = on z (b : Int) ((j : Int) + 1)) : i = j := by
  have := on_inj (z := z) (a := b) (i := i + 1) (j := j + 1) hi hj (by rw [show ((i + 1 : Nat) : Int) = (i : Int) + 1 by omega, show ((j + 1 : Nat) : Int) = (j : Int) + 1 by omega]; exact h)
  omega
end Fld
end Go.Proofs.Ytoacookbfpcncaa
