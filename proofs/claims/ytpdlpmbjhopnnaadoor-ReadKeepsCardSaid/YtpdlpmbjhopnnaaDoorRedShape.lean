/- Rows of the call's own whose texts are written into: what stays (where all lies), whatever the texts hold. -/
import Derived.Test.YtpdlpmbjhopnnaaDoorRedGave
namespace Go.Proofs.YtpdlpmbjhopnnaaDoor
open Go.RowKit Sha Six Apd Cut
set_option linter.unusedVariables false
namespace Red
/-- v is a row of the call's own, of n things of sz cells; the second cell of each is a text, a row of the call's own, too. -/
def Shape (w : World) (base : Nat) (T sz : Nat) (v : Value) (n : Nat) (us : List Value) : Prop :=
  w.ownsRow base T sz v n us ∧ ∀ i, i < n → ∃ ta tn tc ys, us[i * sz + 1]? = some (.slice ta tn tc) ∧ tn < 1000000 ∧ w.ownsRow base 5 1 (.slice ta tn tc) tn ys
theorem shape_ords {w : World} {base : Nat} {v : Value} {os : List Ord.O} (h : Str.OwnOrds w base v os) (hs : Str.Sound os) : ∃ us, Shape w base 51 8 v os.length us := by
  obtain ⟨us, h1, _, h2⟩ := h
  refine ⟨us, h1, fun i hi => ?_⟩
  obtain ⟨ta, tn, tc, k1, k2⟩ := h2 i hi
  have h8 := (hs (os.getD i Ord.none_) (by rw [List.getD_eq_getElem?_getD, List.getElem?_eq_getElem hi]; exact List.getElem_mem hi)).2.1
  have hl := k2.1
  rw [u8s_length] at hl
  exact ⟨ta, tn, tc, _, k1 1 _ rfl, by omega, k2⟩
theorem shape_flds {w : World} {base : Nat} {v : Value} {os : List Inp.F} (h : Inp.OwnFlds w base v os) (hs : Inp.Sound os) : ∃ us, Shape w base 53 2 v os.length us := by
  obtain ⟨us, h1, _, h2⟩ := h
  refine ⟨us, h1, fun i hi => ?_⟩
  obtain ⟨ta, tn, tc, k1, k2⟩ := h2 i hi
  have h8 := (hs (os.getD i Inp.noneF) (by rw [List.getD_eq_getElem?_getD, List.getElem?_eq_getElem hi]; exact List.getElem_mem hi)).2
  have hl := k2.1
  rw [u8s_length] at hl
  exact ⟨ta, tn, tc, _, k1 1 _ rfl, by omega, k2⟩
theorem Shape.below {w w' : World} {base T sz n : Nat} {v : Value} {us : List Value} (h : Shape w base T sz v n us) (hb : Below w.heap.size w w') : Shape w' base T sz v n us := by
  refine ⟨own_below h.1 hb, fun i hi => ?_⟩
  obtain ⟨ta, tn, tc, ys, k1, k0, k2⟩ := h.2 i hi
  exact ⟨ta, tn, tc, ys, k1, k0, own_below k2 hb⟩
/-- A cell of a row of the call's own. -/
theorem row_cell {w : World} {base T sz n c : Nat} {ad : Option Addr} {us : List Value} (h : w.ownsRow base T sz (.slice ad n c) n us) {j : Nat} {u : Value} (hj : us[j]? = some u) :
    ∃ g, ad = some ⟨g, 0, none⟩ ∧ base ≤ g ∧ g < w.heap.size ∧ w.cell? ⟨g, j, none⟩ = some u ∧ w.frozen? ⟨g, j, none⟩ = false := by
  obtain ⟨hl, hv⟩ := h
  have hjl : j < us.length := by
    rcases Nat.lt_or_ge j us.length with h' | h'
    · exact h'
    · rw [List.getElem?_eq_none h'] at hj; cases hj
  rcases hv with ⟨_, h0⟩ | ⟨g, cap, cur, hv, hg, hcur, h1, h2, h3, h4⟩
  · rw [h0, Nat.zero_mul] at hl; omega
  · injection hv with e1 e2 e3
    subst e1
    refine ⟨g, rfl, hg, there_lt hcur, ?_, frozen_of_row w g j cur _ hcur⟩
    rw [← h4, List.getElem?_take_of_lt (by omega)] at hj
    rw [cell_of_row w g j cur _ (0, 0) hcur, ← Array.getElem?_toList]
    exact hj
theorem Shape.text {w : World} {base T sz n c : Nat} {ad : Option Addr} {us : List Value} (h : Shape w base T sz (.slice ad n c) n us) {i : Nat} (hi : i < n) :
    ∃ g ta tn tc ys, ad = some ⟨g, 0, none⟩ ∧ base ≤ g ∧ us[i * sz + 1]? = some (.slice ta tn tc) ∧ tn < 1000000 ∧ w.cell? ⟨g, i * sz + 1, none⟩ = some (.slice ta tn tc) ∧ w.ownsRow base 5 1 (.slice ta tn tc) tn ys := by
  obtain ⟨ta, tn, tc, ys, k1, k0, k2⟩ := h.2 i hi
  obtain ⟨g, e, h1, _, h3, _⟩ := row_cell h.1 k1
  exact ⟨g, ta, tn, tc, ys, e, h1, k1, k0, h3, k2⟩
/-- A row of bytes lies in no block of other things. -/
theorem text_not {w : World} {base n c g N T : Nat} {ys : List Value} {cs : Array Value} (h : w.ownsRow base 5 1 (.slice (some ⟨g, 0, none⟩) n c) n ys) (hT : T ≠ 5) (hN : w.heap[N]? = some (.cells cs T (0, 0))) : N ≠ g := by
  intro e
  subst e
  rcases h.2 with ⟨hv, _⟩ | ⟨g2, c2, cur2, hv, _, k2, _⟩
  · injection hv with e1; cases e1
  · injection hv with e1
    injection e1 with e1
    injection e1 with e1
    subst e1
    rw [hN] at k2
    injection k2 with k2
    injection k2 with _ k3
    exact hT k3
theorem text_at {w : World} {base n c : Nat} {ad : Option Addr} {ys : List Value} (h : w.ownsRow base 5 1 (.slice ad n c) n ys) {k : Nat} (hk : k < n) :
    ∃ g x, ad = some ⟨g, 0, none⟩ ∧ base ≤ g ∧ w.cell? ⟨g, k, none⟩ = some x ∧ w.frozen? ⟨g, k, none⟩ = false := by
  have hl := h.1
  rw [Nat.mul_one] at hl
  obtain ⟨g, e, h1, _, h3, h4⟩ := row_cell h (List.getElem?_eq_getElem (show k < ys.length by omega))
  exact ⟨g, _, e, h1, h3, h4⟩
/-- A text is written into. -/
theorem Shape.set {w : World} {base T sz n c g2 tn tc : Nat} {ad : Option Addr} {us ys : List Value} (h : Shape w base T sz (.slice ad n c) n us) (hT : T ≠ 5) (ht : w.ownsRow base 5 1 (.slice (some ⟨g2, 0, none⟩) tn tc) tn ys) (k : Nat) (x : Value) :
    Shape (w.setCell ⟨g2, k, none⟩ x) base T sz (.slice ad n c) n us ∧ (∃ zs, (w.setCell ⟨g2, k, none⟩ x).ownsRow base 5 1 (.slice (some ⟨g2, 0, none⟩) tn tc) tn zs) ∧ w.grownBy (w.setCell ⟨g2, k, none⟩ x) (some g2) := by
  have hs := World.ownsRow.stored ht k x
  have hg := gsetCell w g2 k x
  refine ⟨⟨?_, fun i hi => ?_⟩, ⟨_, hs.1⟩, hg⟩
  · refine own_apart h.1 hg fun a ha e => ?_
    have := Str.row_apart h.1 ht hT _ rfl g2 (by rw [ha]; simp only [Value.ownBlock]; rw [e])
    exact this rfl
  · obtain ⟨ta, tm, td, ys', k1, k0, k2⟩ := h.2 i hi
    cases ta with
    | none => exact ⟨none, tm, td, ys', k1, k0, own_apart k2 hg (fun a ha => by cases ha)⟩
    | some a =>
      obtain ⟨_, _, hv, _, h3⟩ := own_spot k2
      injection hv with e1 _ _
      obtain ⟨e2, _, _⟩ := h3 a e1.symm
      by_cases hb : a.block = g2
      · have ea : a = ⟨g2, 0, none⟩ := by rw [e2, hb]
        subst ea
        exact ⟨_, tm, td, _, k1, k0, (World.ownsRow.stored k2 k x).1⟩
      · exact ⟨some a, tm, td, ys', k1, k0, own_apart k2 hg (fun b hb2 => by injection hb2 with hb2; subst hb2; exact hb)⟩
end Red
end Go.Proofs.YtpdlpmbjhopnnaaDoor
