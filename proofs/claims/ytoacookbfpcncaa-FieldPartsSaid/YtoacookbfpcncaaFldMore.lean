/- Plain: the next and the last open field; going round. -/
import Derived.Test.YtoacookbfpcncaaFldSpec
namespace Go.Proofs.Ytoacookbfpcncaa
set_option linter.unusedVariables false
namespace Fld
open Grd
theorem next_cases {cs : List C} {a : Nat} (ha : a < cs.length) :
    (next cs a = -1 ∧ ∀ i, i < cs.length → opener cs i = false) ∨ ∃ k o : Nat, 1 ≤ k ∧ k ≤ cs.length ∧ o = on cs.length a (k : Int) ∧ o < cs.length ∧ opener cs o = true ∧ (∀ j, 1 ≤ j → j < k → opener cs (on cs.length a (j : Int)) = false) ∧ next cs a = ((on cs.length (o : Int) 1 : Nat) : Int) := by
  unfold next
  cases h : firstK (fun k => opener cs (on cs.length a (k : Int))) 1 cs.length with
  | none =>
    refine .inl ⟨rfl, fun i hi => ?_⟩
    obtain ⟨k, h1, h2, h3⟩ := reach_on ha hi
    have := firstK_none h k h1 (by omega)
    rwa [h3] at this
  | some k =>
    obtain ⟨g1, g2, g3, g4⟩ := firstK_some h
    exact .inr ⟨k, _, g1, by omega, rfl, on_lt (by omega) _ _, g3, fun j h1 h2 => g4 j h1 h2, by simp only; rw [on_on (by omega)]⟩
theorem prev_cases {cs : List C} {a : Nat} (ha : a < cs.length) :
    (prev cs a = -1 ∧ ∀ i, i < cs.length → opener cs i = false) ∨ ∃ k o : Nat, 2 ≤ k ∧ k ≤ cs.length + 1 ∧ o = on cs.length a (-(k : Int)) ∧ o < cs.length ∧ opener cs o = true ∧ (∀ j, 2 ≤ j → j < k → opener cs (on cs.length a (-(j : Int))) = false) ∧ prev cs a = ((on cs.length (o : Int) 1 : Nat) : Int) := by
  unfold prev
  cases h : firstK (fun k => opener cs (on cs.length a (-(k : Int)))) 2 cs.length with
  | none =>
    refine .inl ⟨rfl, fun i hi => ?_⟩
    obtain ⟨k, h2, h3⟩ := reach_back ha hi
    by_cases hk : 2 ≤ k
    · have := firstK_none h k hk (by omega)
      rwa [h3] at this
    · by_cases hz : 2 ≤ k + cs.length
      · have := firstK_none h (k + cs.length) hz (by omega)
        rw [show on cs.length (a : Int) (-((k + cs.length : Nat) : Int)) = i by
          rw [← h3]; unfold on
          rw [← Int.add_emod_right, show (a : Int) + -((k + cs.length : Nat) : Int) + (cs.length : Int) = (a : Int) + -(k : Int) by omega]] at this
        exact this
      · have := firstK_none h (k + cs.length + 1) (by omega) (by omega)
        rw [show on cs.length (a : Int) (-((k + cs.length + 1 : Nat) : Int)) = i by
          have := on_lt (z := cs.length) (by omega) (a : Int) (-((k + cs.length + 1 : Nat) : Int)); omega] at this
        exact this
  | some k =>
    obtain ⟨g1, g2, g3, g4⟩ := firstK_some h
    exact .inr ⟨k, _, g1, by omega, rfl, on_lt (by omega) _ _, g3, fun j h1 h2 => g4 j h1 h2, by simp only; rw [on_on (by omega)]⟩
theorem opener_iff {cs : List C} {o : Nat} : opener cs o = true ↔ fat cs o = true ∧ prot cs o = false ∧ fat cs (on cs.length o 1) = false := by
  unfold opener; simp [Bool.and_eq_true]
theorem opener_two {cs : List C} {o : Nat} (ho : o < cs.length) (h : opener cs o = true) : 2 ≤ cs.length := by
  obtain ⟨h1, _, h3⟩ := opener_iff.1 h
  rcases Nat.lt_or_ge 1 cs.length with hl | hl
  · exact hl
  · exfalso
    have : on cs.length (o : Int) 1 = o := by have := on_lt (z := cs.length) (by omega) (o : Int) 1; omega
    rw [this, h1] at h3; cases h3
/-- What the first cell of an open field tells. -/
theorem first_cell {cs : List C} {o : Nat} (ho : o < cs.length) (h : opener cs o = true) :
    begin_ cs (on cs.length o 1) = (o : Int) ∧ 0 < clen cs o ∧ (cells cs (on cs.length o 1)).getD 0 0 = on cs.length o 1 ∧ open_ cs (on cs.length o 1) = true := by
  obtain ⟨h1, h2, h3⟩ := opener_iff.1 h
  obtain ⟨g1, g2, g3⟩ := clen_some ho h1
  have hc : 0 < clen cs o := by
    rcases Nat.eq_zero_or_pos (clen cs o) with h0 | h0
    · rw [h0] at g3
      rw [show ((0 : Nat) : Int) + 1 = 1 from rfl, h3] at g3; cases g3
    · exact h0
  have hb : begin_ cs (on cs.length o 1) = (o : Int) := begin_of_cell (i := 0) ho h1 hc
  refine ⟨hb, hc, ?_, ?_⟩
  · unfold cells; rw [hb, cells_getD hc]; rfl
  · unfold open_ attrOf
    rw [h3, hb, if_neg (by omega), Int.toNat_natCast]
    unfold prot at h2
    rw [h2]; rfl
theorem next_of_first {cs : List C} {o : Nat} (ho : o < cs.length) (h : opener cs o = true) :
    ∃ k o' : Nat, 1 ≤ k ∧ k + 1 ≤ cs.length ∧ o' = on cs.length o ((k : Int) + 1) ∧ o' < cs.length ∧ opener cs o' = true ∧ (∀ j, 1 ≤ j → j ≤ k → opener cs (on cs.length o (j : Int)) = false) ∧ next cs (on cs.length o 1) = ((on cs.length (o' : Int) 1 : Nat) : Int) := by
  have h2 := opener_two ho h
  obtain ⟨h1, _, h3⟩ := opener_iff.1 h
  rcases next_cases (cs := cs) (a := on cs.length o 1) (on_lt (by omega) _ _) with ⟨_, hn⟩ | ⟨k, o', g1, g2, g3, g4, g5, g6, g7⟩
  · rw [hn o ho] at h; cases h
  · rw [on_on (by omega)] at g3
    have hk : k + 1 ≤ cs.length := by
      rcases Nat.lt_or_ge k cs.length with hl | hl
      · exact hl
      · exfalso
        have hk : k = cs.length := by omega
        have := g6 (cs.length - 1) (by omega) (by omega)
        rw [on_on (by omega), show (1 : Int) + ((cs.length - 1 : Nat) : Int) = (cs.length : Int) by omega, on_all ho, h] at this
        cases this
    refine ⟨k, o', g1, hk, by rw [g3]; congr 1; omega, g4, g5, fun j h4 h5 => ?_, g7⟩
    by_cases hj : j = 1
    · subst hj
      cases hq : opener cs (on cs.length o ((1 : Nat) : Int)) with
      | false => rfl
      | true =>
        have := (opener_iff.1 hq).1
        rw [show ((1 : Nat) : Int) = 1 from rfl, h3] at this; cases this
    · have := g6 (j - 1) (by omega) (by omega)
      rw [on_on (by omega), show (1 : Int) + ((j - 1 : Nat) : Int) = (j : Int) by omega] at this
      exact this
/-- From the next open field back is where one came from. -/
theorem tabs {cs : List C} {o : Nat} (ho : o < cs.length) (h : opener cs o = true) : ∃ m : Nat, m < cs.length ∧ next cs (on cs.length o 1) = (m : Int) ∧ prev cs m = ((on cs.length (o : Int) 1 : Nat) : Int) := by
  obtain ⟨k, o', g1, g2, g3, g4, g5, g6, g7⟩ := next_of_first ho h
  refine ⟨_, on_lt (by omega) _ _, g7, ?_⟩
  have e : ∀ j : Nat, on cs.length ((on cs.length (o' : Int) 1 : Nat) : Int) (-(j : Int)) = on cs.length o ((k : Int) + 2 - (j : Int)) := fun j => by
    rw [on_on (by omega), g3, on_on (by omega)]; congr 1; omega
  have hf : firstK (fun j => opener cs (on cs.length ((on cs.length (o' : Int) 1 : Nat) : Int) (-(j : Int)))) 2 cs.length = some (k + 2) := by
    refine firstK_is (by omega) (by omega) ?_ fun j h1 h2 => ?_
    · rw [e, show (k : Int) + 2 - ((k + 2 : Nat) : Int) = 0 by omega, on_zero ho]; exact h
    · rw [e, show (k : Int) + 2 - (j : Int) = ((k + 2 - j : Nat) : Int) by omega]
      exact g6 _ (by omega) (by omega)
  unfold prev
  rw [hf]
  simp only
  rw [on_on (by omega), g3, on_on (by omega)]
  congr 2; omega
/-- How many of the numbers below m are so. -/
def cnt (q : Nat → Bool) : Nat → Nat
  | 0 => 0
  | m + 1 => cnt q m + (if q m then 1 else 0)
theorem cnt_gap {q : Nat → Bool} {d : Nat} : ∀ {e : Nat}, d ≤ e → (∀ x, d ≤ x → x < e → q x = false) → cnt q e = cnt q d
  | 0, h, _ => by rw [show d = 0 by omega]
  | e + 1, h, hq => by
    by_cases hd : d = e + 1
    · rw [hd]
    · rw [cnt, hq e (by omega) (by omega), cnt_gap (by omega) (fun x h1 h2 => hq x h1 (by omega))]; rfl
theorem cnt_congr {p q : Nat → Bool} : ∀ {m : Nat}, (∀ x, x < m → p x = q x) → cnt p m = cnt q m
  | 0, _ => rfl
  | m + 1, h => by rw [cnt, cnt, h m (by omega), cnt_congr (fun x hx => h x (by omega))]
theorem cnt_add (q : Nat → Bool) (a : Nat) : ∀ b, cnt q (a + b) = cnt q a + cnt (fun x => q (a + x)) b
  | 0 => rfl
  | b + 1 => by rw [← Nat.add_assoc, cnt, cnt_add q a b, cnt]; omega
theorem cnt_le (q : Nat → Bool) {a b : Nat} (h : a ≤ b) : cnt q a ≤ cnt q b := by
  rw [show b = a + (b - a) by omega, cnt_add]; omega
theorem cnt_turn (p : Nat → Bool) {z o : Nat} (ho : o < z) : cnt (fun d => p (on z (o : Int) (d : Int))) z = cnt p z := by
  conv => lhs; rw [show z = (z - o) + o by omega]
  conv => rhs; rw [show z = o + (z - o) by omega]
  rw [show (z - o) + o = z by omega, cnt_add p o (z - o)]
  have h1 : cnt (fun d => p (on z (o : Int) (d : Int))) (z - o) = cnt (fun x => p (o + x)) (z - o) := cnt_congr fun x hx => by
    rw [on_nat, Nat.mod_eq_of_lt (by omega)]
  have h2 : cnt (fun x => p (on z (o : Int) ((z - o + x : Nat) : Int))) o = cnt p o := cnt_congr fun x hx => by
    rw [on_nat, show o + (z - o + x) = x + z by omega, Nat.add_mod_right, Nat.mod_eq_of_lt (by omega)]
  have h3 := cnt_add (fun d => p (on z (o : Int) (d : Int))) (z - o) o
  rw [show (z - o) + o = z by omega] at h3
  rw [h3, h1, h2]; omega
/-- One step of going round, from the offset d of an opener (as seen from o). -/
theorem round_step {cs : List C} {o d : Nat} (ho : o < cs.length) (hd : d < cs.length) (h : opener cs (on cs.length o (d : Int)) = true) :
    (∃ d', d < d' ∧ d' < cs.length ∧ opener cs (on cs.length o (d' : Int)) = true ∧ (∀ x, d < x → x < d' → opener cs (on cs.length o (x : Int)) = false) ∧ next cs (on cs.length o ((d : Int) + 1)) = ((on cs.length o ((d' : Int) + 1) : Nat) : Int)) ∨
    (∃ d', d' ≤ d ∧ opener cs (on cs.length o (d' : Int)) = true ∧ (∀ x, x < d' → opener cs (on cs.length o (x : Int)) = false) ∧ (∀ x, d < x → x < cs.length → opener cs (on cs.length o (x : Int)) = false) ∧ next cs (on cs.length o ((d : Int) + 1)) = ((on cs.length o ((d' : Int) + 1) : Nat) : Int)) := by
  obtain ⟨k, o', g1, g2, g3, g4, g5, g6, g7⟩ := next_of_first (on_lt (by omega) _ _) h
  rw [on_on (by omega)] at g3 g7
  have g6' : ∀ j : Nat, 1 ≤ j → j ≤ k → opener cs (on cs.length o ((d + j : Nat) : Int)) = false := fun j h1 h2 => by
    have := g6 j h1 h2
    rwa [on_on (by omega), show (d : Int) + (j : Int) = ((d + j : Nat) : Int) by omega] at this
  have e7 : next cs (on cs.length o ((d : Int) + 1)) = ((on cs.length o ((d : Int) + (k : Int) + 2) : Nat) : Int) := by
    rw [g7, g3, on_on (by omega)]; congr 2
  by_cases hl : d + k + 1 < cs.length
  · refine .inl ⟨d + k + 1, by omega, hl, ?_, fun x h1 h2 => ?_, ?_⟩
    · rw [g3] at g5
      rwa [show (d : Int) + ((k : Int) + 1) = ((d + k + 1 : Nat) : Int) by omega] at g5
    · have := g6' (x - d) (by omega) (by omega)
      rwa [show d + (x - d) = x by omega] at this
    · rw [e7]; congr 2
  · have wrap : ∀ y : Int, on cs.length (o : Int) (y + (cs.length : Int)) = on cs.length (o : Int) y := fun y => by
      unfold on; rw [← Int.add_assoc, Int.add_emod_right]
    refine .inr ⟨d + k + 1 - cs.length, by omega, ?_, fun x hx => ?_, fun x h1 h2 => ?_, ?_⟩
    · rw [g3] at g5
      rwa [show (d : Int) + ((k : Int) + 1) = ((d + k + 1 - cs.length : Nat) : Int) + (cs.length : Int) by omega, wrap] at g5
    · have := g6' (x + cs.length - d) (by omega) (by omega)
      rwa [show ((d + (x + cs.length - d) : Nat) : Int) = (x : Int) + (cs.length : Int) by omega, wrap] at this
    · have := g6' (x - d) (by omega) (by omega)
      rwa [show d + (x - d) = x by omega] at this
    · rw [e7, show (d : Int) + (k : Int) + 2 = ((d + k + 1 - cs.length : Nat) : Int) + 1 + (cs.length : Int) by omega, wrap]
end Fld
end Go.Proofs.Ytoacookbfpcncaa
