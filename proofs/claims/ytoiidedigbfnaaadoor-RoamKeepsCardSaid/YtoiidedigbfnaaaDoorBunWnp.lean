/- WinSpec, WinRef, WinArg, WinBits, WinRow, WinBool, WinU16, WinWf in one text (by tools/bundle.py). -/
import Derived.WalkKit
import Derived.Test.YtoiidedigbfnaaaDoorBunBase
import Derived.Deep.Cut
import Derived.Deep.LoopGhost
import Derived.Deep.RegionLaw
import Derived.Deep.RegionHeld3
import Derived.IntWalk
import Derived.Lib.SmallJoins
import Derived.Laws.OwnMore
import Derived.OwnWalk
import Derived.Deep.QuietTactic
import Derived.BigQuiet
/- Plain: windows of numbers that were seen. -/
namespace Go.Proofs.YtoiidedigbfnaaaDoor
set_option linter.unusedVariables false
namespace Win
/-- What was seen: the greatest number, and of the 64 up to it which. -/
structure W where
  top : Int
  bits : Nat
def has (s : W) (n : Int) : Bool := decide (0 ≤ s.top - n) && (decide (s.top - n < 64) && s.bits.testBit (s.top - n).toNat)
def right (s : W) : Bool := decide (0 ≤ s.top) && (decide (s.top ≤ 4611686018427387904) && (if s.top = 0 then s.bits == 0 else s.bits.testBit 0 && (List.range 64).all fun k => !s.bits.testBit k || decide ((k : Int) < s.top)))
/-- A number is let in. -/
def in_ (s : W) (n : Int) : W := if s.top < n then ⟨n, if 64 ≤ n - s.top then 1 else (s.bits <<< (n - s.top).toNat) % 18446744073709551616 ||| 1⟩ else ⟨s.top, s.bits ||| 1 <<< (s.top - n).toNat⟩
def lets (s : W) (n : Int) : W × Nat := if n < 1 ∨ 4611686018427387904 < n then (s, 1) else if n ≤ s.top ∧ (64 ≤ s.top - n ∨ has s n = true) then (s, 12) else (in_ s n, 0)
def nil : W := ⟨0, 0⟩
theorem right_iff {s : W} : right s = true ↔ 0 ≤ s.top ∧ s.top ≤ 4611686018427387904 ∧ ((s.top = 0 ∧ s.bits = 0) ∨ (s.top ≠ 0 ∧ s.bits.testBit 0 = true ∧ ∀ k, k < 64 → s.bits.testBit k = true → (k : Int) < s.top)) := by
  unfold right
  by_cases h : s.top = 0
  · simp [h]
  · simp only [h, if_false, Bool.and_eq_true, decide_eq_true_eq, List.all_eq_true, List.mem_range, Bool.or_eq_true, Bool.not_eq_true']
    constructor
    · rintro ⟨h1, h2, h3, h4⟩
      refine ⟨h1, h2, .inr ⟨h, h3, fun k hk hb => ?_⟩⟩
      rcases h4 k hk with h5 | h5
      · rw [hb] at h5; cases h5
      · exact h5
    · rintro ⟨h1, h2, h3⟩
      rcases h3 with ⟨h3, _⟩ | ⟨_, h3, h4⟩
      · exact absurd h3 (by simp)
      · refine ⟨h1, h2, h3, fun k hk => ?_⟩
        cases hb : s.bits.testBit k with
        | false => exact .inl rfl
        | true => exact .inr (h4 k hk hb)
theorem in_top (s : W) (n : Int) : (in_ s n).top = if s.top < n then n else s.top := by unfold in_; split <;> rfl
theorem or_lt {a b : Nat} (ha : a < 18446744073709551616) (hb : b < 18446744073709551616) : a ||| b < 18446744073709551616 := Nat.or_lt_two_pow (n := 64) ha hb
theorem shift_lt {k : Nat} (h : k < 64) : 1 <<< k < 18446744073709551616 := by
  rw [Nat.shiftLeft_eq, Nat.one_mul]
  exact Nat.pow_lt_pow_right (by decide) h
theorem in_lt {s : W} {n : Int} (hb : s.bits < 18446744073709551616) (hk : s.top - n < 64) : (in_ s n).bits < 18446744073709551616 := by
  unfold in_
  split
  · simp only
    split
    · decide
    · exact or_lt (Nat.mod_lt _ (by decide)) (by decide)
  · exact or_lt hb (shift_lt (by omega))
theorem one_tb (i : Nat) : (1 : Nat).testBit i = decide (i = 0) := by
  cases i with
  | zero => rfl
  | succ i => simp [Nat.testBit_succ]
theorem one_bit (j k : Nat) : (1 <<< j).testBit k = decide (k = j) := by
  rw [Nat.testBit_shiftLeft, one_tb]
  by_cases h : k = j
  · subst h; simp
  · by_cases h2 : k ≥ j
    · rw [decide_eq_false (show ¬ k - j = 0 by omega), decide_eq_false h]; simp
    · rw [decide_eq_false h2, decide_eq_false h]; rfl
theorem small_bit {b k : Nat} (hb : b < 18446744073709551616) (hk : 64 ≤ k) : b.testBit k = false := Nat.testBit_lt_two_pow (Nat.lt_of_lt_of_le hb (Nat.pow_le_pow_right (n := 2) (i := 64) (j := k) (by decide) hk))
/-- Which numbers are told behind one that was let in. -/
theorem has_in {s : W} {n : Int} (hk : s.top - n < 64) (m : Int) : has (in_ s n) m = (decide (m = n) || (has s m && decide ((in_ s n).top - m < 64))) := by
  unfold has
  unfold in_
  by_cases h : s.top < n
  · rw [if_pos h]
    simp only
    by_cases hm : m = n
    · subst hm
      simp
      split <;> simp
    · by_cases h0 : m < n
      · have e1 : decide (0 ≤ n - m) = true := decide_eq_true (by omega)
        by_cases h64 : n - m < 64
        · have e2 : decide (n - m < 64) = true := decide_eq_true h64
          by_cases hl : 64 ≤ n - s.top
          · have e3 : decide (0 ≤ s.top - m) = false := decide_eq_false (by omega)
            have e4 : (n - m).toNat ≠ 0 := by omega
            rw [if_pos hl, e1, e2, e3, one_tb, decide_eq_false e4]
            simp [hm]
          · rw [if_neg hl, e1, e2, Nat.testBit_or, show (18446744073709551616 : Nat) = 2 ^ 64 from rfl, Nat.testBit_mod_two_pow, Nat.testBit_shiftLeft]
            have e4 : (1 : Nat).testBit (n - m).toNat = false := by
              rw [one_tb]; exact decide_eq_false (by omega)
            have e5 : decide ((n - m).toNat < 64) = true := decide_eq_true (by omega)
            rw [e4, e5]
            by_cases h6 : m ≤ s.top
            · have e7 : decide (0 ≤ s.top - m) = true := decide_eq_true (by omega)
              have e8 : decide (s.top - m < 64) = true := decide_eq_true (by omega)
              have e9 : decide ((n - s.top).toNat ≤ (n - m).toNat) = true := decide_eq_true (by omega)
              have e10 : (n - m).toNat - (n - s.top).toNat = (s.top - m).toNat := by omega
              have e11 : decide ((n - m).toNat ≥ (n - s.top).toNat) = true := e9
              rw [e7, e8, e11, e10]
              simp [hm]
            · have e7 : decide (0 ≤ s.top - m) = false := decide_eq_false (by omega)
              have e11 : decide ((n - m).toNat ≥ (n - s.top).toNat) = false := decide_eq_false (by omega)
              rw [e7, e11]
              simp [hm]
        · have e2 : decide (n - m < 64) = false := decide_eq_false h64
          rw [e1, e2]
          simp [hm]
      · have e1 : decide (0 ≤ n - m) = false := decide_eq_false (by omega)
        have e3 : decide (0 ≤ s.top - m) = false := decide_eq_false (by omega)
        rw [e1, e3]
        simp [hm]
  · rw [if_neg h]
    simp only
    rw [Nat.testBit_or, one_bit]
    by_cases hm : m = n
    · subst hm
      have e1 : decide (0 ≤ s.top - m) = true := decide_eq_true (by omega)
      have e2 : decide (s.top - m < 64) = true := decide_eq_true hk
      rw [e1, e2]
      simp
    · by_cases h0 : 0 ≤ s.top - m
      · have e4 : decide ((s.top - m).toNat = (s.top - n).toNat) = false := decide_eq_false (by omega)
        rw [e4]
        simp [hm]
        intro _ h _
        exact h
      · have e1 : decide (0 ≤ s.top - m) = false := decide_eq_false h0
        rw [e1]
        simp [hm]
theorem in_right {s : W} {n : Int} (h : right s = true) (hb : s.bits < 18446744073709551616) (h1 : 1 ≤ n) (h2 : n ≤ 4611686018427387904) (hk : s.top - n < 64) : right (in_ s n) = true := by
  obtain ⟨g1, g2, g3⟩ := right_iff.1 h
  have ht := in_top s n
  have hz : (in_ s n).top ≠ 0 := by rw [ht]; split <;> omega
  refine right_iff.2 ⟨by rw [ht]; split <;> omega, by rw [ht]; split <;> omega, .inr ⟨hz, ?_, fun k hk2 hkb => ?_⟩⟩
  · have := has_in (s := s) hk (in_ s n).top
    unfold has at this
    simp only [Int.sub_self, Int.le_refl, decide_true, Bool.true_and, Int.toNat_zero] at this
    rw [show decide ((0 : Int) < 64) = true from rfl, Bool.true_and] at this
    rw [this, ht]
    split
    · simp
    · rename_i h3
      have e1 : s.top ≠ 0 := by omega
      rcases g3 with ⟨g3, _⟩ | ⟨_, g3, _⟩
      · exact absurd g3 e1
      · simp [g3]
  · have hh : has (in_ s n) ((in_ s n).top - k) = true := by
      unfold has
      have e1 : (in_ s n).top - ((in_ s n).top - (k : Int)) = (k : Int) := by omega
      rw [e1, Int.toNat_natCast, hkb, decide_eq_true (show (0 : Int) ≤ (k : Int) by omega), decide_eq_true (show (k : Int) < 64 by omega)]
      rfl
    rw [has_in hk] at hh
    simp only [Bool.or_eq_true, decide_eq_true_eq, Bool.and_eq_true] at hh
    rcases hh with hh | ⟨hh, _⟩
    · omega
    · unfold has at hh
      simp only [Bool.and_eq_true, decide_eq_true_eq] at hh
      obtain ⟨a1, a2, a3⟩ := hh
      rcases g3 with ⟨_, g3⟩ | ⟨_, _, g4⟩
      · rw [g3] at a3; simp at a3
      · have := g4 _ (by omega) a3
        omega
/-- Two right ones that tell the same are the same. -/
theorem same_of {s t : W} (hs : right s = true) (ht : right t = true) (h1 : s.bits < 18446744073709551616) (h2 : t.bits < 18446744073709551616) (htop : s.top = t.top) (h : ∀ m, has s m = has t m) : s = t := by
  obtain ⟨a, b⟩ := s
  obtain ⟨c, d⟩ := t
  simp only at htop h1 h2
  subst htop
  congr 1
  refine Nat.eq_of_testBit_eq fun i => ?_
  rcases Nat.lt_or_ge i 64 with hi | hi
  · have := h (a - (i : Int))
    unfold has at this
    simp only [show a - (a - (i : Int)) = (i : Int) by omega, Int.toNat_natCast, decide_eq_true (show (0 : Int) ≤ (i : Int) by omega), decide_eq_true (show (i : Int) < 64 by omega), Bool.true_and] at this
    exact this
  · rw [small_bit h1 hi, small_bit h2 hi]
theorem nil_right : right nil = true := rfl
theorem nil_has (m : Int) : has nil m = false := by unfold has nil; simp
theorem has_le {s : W} {n : Int} (h : has s n = true) : n ≤ s.top := by
  unfold has at h
  simp only [Bool.and_eq_true, decide_eq_true_eq] at h
  omega
theorem lets_cases (s : W) (n : Int) : ((lets s n).2 = 1 ∧ (lets s n).1 = s ∧ (n < 1 ∨ 4611686018427387904 < n)) ∨ ((lets s n).2 = 12 ∧ (lets s n).1 = s ∧ 1 ≤ n ∧ n ≤ 4611686018427387904 ∧ n ≤ s.top ∧ (64 ≤ s.top - n ∨ has s n = true)) ∨ ((lets s n).2 = 0 ∧ (lets s n).1 = in_ s n ∧ 1 ≤ n ∧ n ≤ 4611686018427387904 ∧ s.top - n < 64 ∧ has s n = false) := by
  unfold lets
  split
  · rename_i h; exact .inl ⟨rfl, rfl, h⟩
  · split
    · rename_i h1 h2; exact .inr (.inl ⟨rfl, rfl, by omega, by omega, h2.1, h2.2⟩)
    · rename_i h1 h2
      refine .inr (.inr ⟨rfl, rfl, by omega, by omega, ?_, ?_⟩)
      · rcases Int.lt_or_le s.top n with h3 | h3
        · omega
        · have : ¬ (64 ≤ s.top - n) := fun h4 => h2 ⟨h3, .inl h4⟩
          omega
      · cases hh : has s n with
        | false => rfl
        | true => exact absurd ⟨has_le hh, .inr hh⟩ h2
theorem lets_keep {s : W} (n : Int) (h : right s = true) (hb : s.bits < 18446744073709551616) : right (lets s n).1 = true ∧ (lets s n).1.bits < 18446744073709551616 := by
  rcases lets_cases s n with ⟨_, e, _⟩ | ⟨_, e, _⟩ | ⟨_, e, h1, h2, h3, _⟩
  · rw [e]; exact ⟨h, hb⟩
  · rw [e]; exact ⟨h, hb⟩
  · rw [e]; exact ⟨in_right h hb h1 h2 h3, in_lt hb h3⟩
theorem has_pos {s : W} {m : Int} (h : right s = true) (hm : has s m = true) : 1 ≤ m := by
  obtain ⟨g1, g2, g3⟩ := right_iff.1 h
  unfold has at hm
  simp only [Bool.and_eq_true, decide_eq_true_eq] at hm
  obtain ⟨a1, a2, a3⟩ := hm
  rcases g3 with ⟨_, g3⟩ | ⟨_, _, g4⟩
  · rw [g3] at a3; simp at a3
  · have := g4 _ (by omega) a3
    omega
theorem has_top {s : W} (h : right s = true) (h0 : s.top ≠ 0) : has s s.top = true := by
  obtain ⟨g1, g2, g3⟩ := right_iff.1 h
  rcases g3 with ⟨g3, _⟩ | ⟨_, g3, _⟩
  · exact absurd g3 h0
  · unfold has
    simp [g3]
/-- A greater number is let in. -/
theorem lets_up {s : W} {n : Int} (h1 : 1 ≤ n) (h2 : n ≤ 4611686018427387904) (h : s.top < n) : lets s n = (in_ s n, 0) ∧ (in_ s n).top = n := by
  refine ⟨?_, by rw [in_top, if_pos h]⟩
  unfold lets
  rw [if_neg (by omega), if_neg (by omega)]
/-- One that is too old isn't. -/
theorem lets_old {s : W} {n : Int} (h1 : 1 ≤ n) (h2 : n ≤ 4611686018427387904) (h : 64 ≤ s.top - n) : lets s n = (s, 12) := by
  unfold lets
  rw [if_neg (by omega), if_pos ⟨by omega, .inl h⟩]
/-- What was let in before one that is let in is told, or too old. -/
theorem in_old {s : W} {n m : Int} (hk : s.top - n < 64) (h : has s m = true ∨ 64 ≤ s.top - m) : has (in_ s n) m = true ∨ 64 ≤ (in_ s n).top - m := by
  have ht := in_top s n
  rcases h with h | h
  · rcases Int.lt_or_le ((in_ s n).top - m) 64 with h2 | h2
    · left
      rw [has_in hk, h, decide_eq_true h2]
      simp
    · exact .inr h2
  · right
    rw [ht]
    split <;> omega
theorem in_has {s : W} {n : Int} (hk : s.top - n < 64) : has (in_ s n) n = true := by rw [has_in hk]; simp
/-! ### Numbers from 1 to 64 -/
structure Near (s : W) : Prop where
  right : right s = true
  small : s.bits < 18446744073709551616
  top : s.top ≤ 64
theorem nil_near : Near nil := ⟨rfl, by decide, by decide⟩
theorem near_code {s : W} {n : Int} (h : Near s) (h1 : 1 ≤ n) (h2 : n ≤ 64) : (lets s n).2 = if has s n = true then 12 else 0 := by
  have := h.top
  rcases lets_cases s n with ⟨_, _, e⟩ | ⟨e, _, _, _, _, e2⟩ | ⟨e, _, _, _, _, e2⟩
  · omega
  · rcases e2 with e2 | e2
    · omega
    · rw [e, e2]; rfl
  · rw [e, e2]; rfl
theorem near_lets {s : W} {n : Int} (h : Near s) (h1 : 1 ≤ n) (h2 : n ≤ 64) : Near (lets s n).1 ∧ ∀ m, has (lets s n).1 m = (decide (m = n) || has s m) := by
  have h64 := h.top
  obtain ⟨k1, k2⟩ := lets_keep n h.right h.small
  have hmm : ∀ m, has (lets s n).1 m = (decide (m = n) || has s m) ∧ (lets s n).1.top ≤ 64 := by
    intro m
    rcases lets_cases s n with ⟨_, _, e⟩ | ⟨_, e, _, _, _, e2⟩ | ⟨_, e, _, _, e3, e2⟩
    · omega
    · rw [e]
      refine ⟨?_, h64⟩
      by_cases hm : m = n
      · subst hm
        rcases e2 with e2 | e2
        · omega
        · rw [e2]; simp
      · simp [hm]
    · rw [e]
      have ht : (in_ s n).top ≤ 64 := by rw [in_top]; split <;> omega
      refine ⟨?_, ht⟩
      rw [has_in e3]
      cases hs : has s m with
      | false => simp
      | true =>
        have := has_pos h.right hs
        rw [decide_eq_true (show (in_ s n).top - m < 64 by omega)]
        simp
  exact ⟨⟨k1, k2, (hmm 0).2⟩, fun m => (hmm m).1⟩
/-- All these, one behind the other. -/
def fold (s : W) (l : List Int) : W := l.foldl (fun s n => (lets s n).1) s
theorem fold_near : ∀ (l : List Int) (s : W), Near s → (∀ n ∈ l, 1 ≤ n ∧ n ≤ 64) → Near (fold s l) ∧ ∀ m, has (fold s l) m = true ↔ m ∈ l ∨ has s m = true
  | [], s, h, _ => ⟨h, fun m => by simp [fold]⟩
  | n :: l, s, h, hl => by
    obtain ⟨h1, h2⟩ := hl n (by simp)
    obtain ⟨k1, k2⟩ := near_lets h h1 h2
    obtain ⟨i1, i2⟩ := fold_near l (lets s n).1 k1 fun x hx => hl x (by simp [hx])
    refine ⟨i1, fun m => ?_⟩
    show has (fold (lets s n).1 l) m = true ↔ _
    rw [i2, k2]
    simp only [Bool.or_eq_true, decide_eq_true_eq, List.mem_cons]
    constructor
    · rintro (h | h | h)
      · exact .inl (.inr h)
      · exact .inl (.inl h)
      · exact .inr h
    · rintro ((h | h) | h)
      · exact .inr (.inl h)
      · exact .inl h
      · exact .inr (.inr h)
/-- The order of such numbers says nothing. -/
theorem fold_same {l r : List Int} (h1 : ∀ n ∈ l, 1 ≤ n ∧ n ≤ 64) (h : ∀ m, m ∈ l ↔ m ∈ r) : fold nil l = fold nil r := by
  obtain ⟨a1, a2⟩ := fold_near l nil nil_near h1
  obtain ⟨b1, b2⟩ := fold_near r nil nil_near fun n hn => h1 n ((h n).2 hn)
  have hh : ∀ m, has (fold nil l) m = has (fold nil r) m := fun m => by
    rw [Bool.eq_iff_iff, a2, b2, h]
  refine same_of a1.right b1.right a1.small b1.small ?_ hh
  generalize fold nil l = s at *
  generalize fold nil r = t at *
  have g1 := (right_iff.1 a1.right).1
  have g2 := (right_iff.1 b1.right).1
  by_cases hs : s.top = 0
  · by_cases ht : t.top = 0
    · omega
    · have h3 := has_top b1.right ht
      rw [← hh] at h3
      have := has_le h3
      omega
  · have h3 := has_top a1.right hs
    rw [hh] at h3
    have h4 := has_le h3
    by_cases ht : t.top = 0
    · omega
    · have h5 := has_top b1.right ht
      rw [← hh] at h5
      have := has_le h5
      omega
theorem fold_snoc (s : W) (l : List Int) (n : Int) : fold s (l ++ [n]) = (lets (fold s l) n).1 := by simp [fold]
end Win
end Go.Proofs.YtoiidedigbfnaaaDoor
/- Plain: the same windows, as the document reckons them: by the list of the numbers that bits tell of. -/
namespace Go.Proofs.YtoiidedigbfnaaaDoor
set_option linter.unusedVariables false
namespace Win
/-! ### As the document reckons: by the list of the numbers that bits tell of -/
def list (s : W) : List Int := ((List.range 64).filter fun k => s.bits.testBit k).map fun (k : Nat) => s.top - (k : Int)
/-- The list of the first j bits. -/
def listTo (s : W) (j : Nat) : List Int := ((List.range j).filter fun k => s.bits.testBit k).map fun (k : Nat) => s.top - (k : Int)
theorem listTo_step (s : W) (j : Nat) : listTo s (j + 1) = if s.bits.testBit j = true then listTo s j ++ [s.top - (j : Int)] else listTo s j := by
  unfold listTo
  rw [List.range_succ, List.filter_append, List.map_append, List.filter_cons]
  split <;> simp
theorem listTo_len (s : W) (j : Nat) : (listTo s j).length ≤ j := by
  unfold listTo
  rw [List.length_map]
  refine Nat.le_trans (List.length_filter_le _ _) ?_
  simp
theorem mem_list {s : W} {x : Int} : x ∈ list s ↔ has s x = true := by
  unfold list has
  simp only [List.mem_map, List.mem_filter, List.mem_range, Bool.and_eq_true, decide_eq_true_eq]
  constructor
  · rintro ⟨k, ⟨h1, h2⟩, rfl⟩
    rw [show s.top - (s.top - (k : Int)) = (k : Int) by omega, Int.toNat_natCast]
    exact ⟨by omega, by omega, h2⟩
  · rintro ⟨h1, h2, h3⟩
    exact ⟨(s.top - x).toNat, ⟨by omega, h3⟩, by omega⟩
/-- Bits of the numbers of a list, as far as they are reached. -/
def orb (top : Int) : List Int → Nat → Nat
  | [], b => b
  | x :: l, b => orb top l (if top - x < 64 then b ||| 1 <<< (top - x).toNat else b)
theorem orb_bit (top : Int) (i : Nat) : ∀ (l : List Int) (b : Nat), (orb top l b).testBit i = true ↔ b.testBit i = true ∨ ∃ x ∈ l, top - x < 64 ∧ (top - x).toNat = i
  | [], b => by simp [orb]
  | x :: l, b => by
    unfold orb
    rw [orb_bit top i l]
    simp only [List.mem_cons, exists_eq_or_imp]
    by_cases h : top - x < 64
    · rw [if_pos h, Nat.testBit_or, one_bit]
      simp only [Bool.or_eq_true, decide_eq_true_eq, h, true_and]
      constructor
      · rintro ((h1 | h1) | h1)
        · exact .inl h1
        · exact .inr (.inl h1.symm)
        · exact .inr (.inr h1)
      · rintro (h1 | h1 | h1)
        · exact .inl (.inl h1)
        · exact .inl (.inr h1.symm)
        · exact .inr h1
    · rw [if_neg h]
      simp [h]
theorem orb_app (top : Int) : ∀ (l r : List Int) (b : Nat), orb top (l ++ r) b = orb top r (orb top l b)
  | [], _, _ => rfl
  | x :: l, r, b => orb_app top l r _
theorem orb_lt (top : Int) : ∀ (l : List Int) (b : Nat), (∀ x ∈ l, x ≤ top) → b < 18446744073709551616 → orb top l b < 18446744073709551616
  | [], _, _, h => h
  | x :: l, b, hl, h => by
    unfold orb
    refine orb_lt top l _ (fun y hy => hl y (by simp [hy])) ?_
    split
    · exact or_lt h (shift_lt (by omega))
    · exact h
theorem in_orb {s : W} {n : Int} (h : right s = true) (hb : s.bits < 18446744073709551616) (hk : s.top - n < 64) : (in_ s n).bits = orb (in_ s n).top (n :: list s) 0 := by
  have hm : ∀ x ∈ n :: list s, x ≤ (in_ s n).top := by
    intro x hx
    rw [in_top]
    rcases List.mem_cons.1 hx with rfl | hx
    · split <;> omega
    · have := has_le (mem_list.1 hx)
      split <;> omega
  refine Nat.eq_of_testBit_eq fun i => ?_
  rcases Nat.lt_or_ge i 64 with hi | hi
  · rw [Bool.eq_iff_iff, orb_bit]
    have e := has_in (s := s) hk ((in_ s n).top - (i : Int))
    have e1 : has (in_ s n) ((in_ s n).top - (i : Int)) = (in_ s n).bits.testBit i := by
      unfold has
      rw [show (in_ s n).top - ((in_ s n).top - (i : Int)) = (i : Int) by omega, Int.toNat_natCast, decide_eq_true (show (0 : Int) ≤ (i : Int) by omega), decide_eq_true (show (i : Int) < 64 by omega)]
      rfl
    rw [e1] at e
    rw [e]
    simp only [Bool.or_eq_true, decide_eq_true_eq, Bool.and_eq_true, Nat.zero_testBit, Bool.false_eq_true, false_or]
    constructor
    · rintro (h1 | ⟨h1, h2⟩)
      · exact ⟨n, by simp, by omega, by omega⟩
      · exact ⟨_, List.mem_cons_of_mem _ (mem_list.2 h1), by omega, by omega⟩
    · rintro ⟨x, hx, h1, h2⟩
      have h3 := hm x hx
      have h4 : (in_ s n).top - (i : Int) = x := by omega
      rw [h4]
      rcases List.mem_cons.1 hx with rfl | hx
      · exact .inl rfl
      · exact .inr ⟨mem_list.1 hx, by omega⟩
  · rw [small_bit (in_lt hb hk) hi, small_bit (orb_lt _ _ _ hm (by decide)) hi]
/-- Right, by the list. -/
def rightR (s : W) : Bool := decide (0 ≤ s.top) && (decide (s.top ≤ 4611686018427387904) && (if s.top = 0 then decide ((list s).length = 0) else decide (0 < (list s).length) && (decide ((list s).getD 0 0 = s.top) && decide (1 ≤ (list s).getD ((list s).length - 1) 0))))
theorem filt_first {p : Nat → Bool} : ∀ {n : Nat}, p 0 = true → 0 < n → ((List.range n).filter p).getD 0 0 = 0 ∧ 0 < ((List.range n).filter p).length
  | n + 1, h, _ => by
    rw [List.range_succ_eq_map, List.filter_cons, if_pos h]
    simp
theorem filt_last {p : Nat → Bool} : ∀ (n : Nat), 0 < ((List.range n).filter p).length → (∀ k, k < n → p k = true → k ≤ ((List.range n).filter p).getD (((List.range n).filter p).length - 1) 0) ∧ p (((List.range n).filter p).getD (((List.range n).filter p).length - 1) 0) = true ∧ ((List.range n).filter p).getD (((List.range n).filter p).length - 1) 0 < n
  | 0, h => by simp at h
  | n + 1, h => by
    rw [List.range_succ, List.filter_append] at h ⊢
    have e : List.filter p [n] = if p n then [n] else [] := by rw [List.filter_cons]; rfl
    rw [e] at h ⊢
    cases hp : p n with
    | true =>
      simp only [if_true, List.length_append, List.length_cons, List.length_nil]
      have e2 : (List.filter p (List.range n) ++ [n]).getD ((List.filter p (List.range n)).length + (0 + 1) - 1) 0 = n := by simp
      rw [e2]
      exact ⟨fun k hk _ => by omega, hp, by omega⟩
    | false =>
      rw [hp] at h
      simp only [Bool.false_eq_true, if_false, List.append_nil] at h ⊢
      obtain ⟨h1, h2, h3⟩ := filt_last n h
      refine ⟨fun k hk hpk => ?_, h2, by omega⟩
      rcases Nat.lt_or_ge k n with hk2 | hk2
      · exact h1 k hk2 hpk
      · have : k = n := by omega
        subst this
        rw [hp] at hpk; cases hpk
theorem rightR_eq {s : W} (hb : s.bits < 18446744073709551616) : rightR s = right s := by
  rw [Bool.eq_iff_iff, right_iff]
  unfold rightR
  simp only [Bool.and_eq_true, decide_eq_true_eq]
  by_cases h0 : s.top = 0
  · simp only [h0, if_true, decide_eq_true_eq]
    constructor
    · rintro ⟨_, _, h3⟩
      refine ⟨by omega, by omega, .inl ⟨by first | exact h0 | trivial, ?_⟩⟩
      refine Nat.eq_of_testBit_eq fun i => ?_
      rw [Nat.zero_testBit]
      rcases Nat.lt_or_ge i 64 with hi | hi
      · cases hbb : s.bits.testBit i with
        | false => rfl
        | true =>
          have : s.top - (i : Int) ∈ list s := by
            unfold list
            exact List.mem_map.2 ⟨i, List.mem_filter.2 ⟨List.mem_range.2 hi, hbb⟩, rfl⟩
          rw [List.eq_nil_of_length_eq_zero h3] at this
          cases this
      · exact small_bit hb hi
    · rintro ⟨_, _, h3⟩
      rcases h3 with ⟨_, h3⟩ | ⟨h3, _⟩
      · refine ⟨by omega, by omega, ?_⟩
        unfold list
        rw [h3]
        simp [Nat.zero_testBit]
      · exact absurd rfl h3
  · simp only [h0, if_false, Bool.and_eq_true, decide_eq_true_eq]
    have hg : ∀ j, j < ((List.range 64).filter fun k => s.bits.testBit k).length → (list s).getD j 0 = s.top - (((((List.range 64).filter fun k => s.bits.testBit k).getD j 0 : Nat)) : Int) := by
      intro j hj
      unfold list
      rw [List.getD_eq_getElem?_getD, List.getD_eq_getElem?_getD, List.getElem?_map, List.getElem?_eq_getElem hj]
      rfl
    have hl : (list s).length = ((List.range 64).filter fun k => s.bits.testBit k).length := by unfold list; rw [List.length_map]
    rw [hl]
    constructor
    · rintro ⟨h1, h2, h3, h4, h5⟩
      rw [hg _ h3] at h4
      rw [hg _ (by omega)] at h5
      obtain ⟨g1, g2, g3⟩ := filt_last 64 h3
      refine ⟨h1, h2, .inr ⟨by first | exact h0 | trivial, ?_, fun k hk hkb => ?_⟩⟩
      · have e : ((List.range 64).filter fun k => s.bits.testBit k).getD 0 0 = 0 := by omega
        have hm : ((List.range 64).filter fun k => s.bits.testBit k).getD 0 0 ∈ (List.range 64).filter fun k => s.bits.testBit k := by
          rw [List.getD_eq_getElem?_getD, List.getElem?_eq_getElem h3]
          exact List.getElem_mem h3
        rw [e] at hm
        exact (List.mem_filter.1 hm).2
      · have := g1 k hk hkb
        omega
    · rintro ⟨h1, h2, h3⟩
      rcases h3 with ⟨h3, _⟩ | ⟨_, h3, h4⟩
      · exact absurd h3 (by first | exact h0 | simp)
      · obtain ⟨f1, f2⟩ := filt_first (p := fun k => s.bits.testBit k) (n := 64) h3 (by decide)
        obtain ⟨g1, g2, g3⟩ := filt_last 64 f2
        refine ⟨h1, h2, f2, ?_, ?_⟩
        · rw [hg _ f2, f1]; omega
        · rw [hg _ (by omega)]
          have := h4 _ g3 g2
          omega
end Win
end Go.Proofs.YtoiidedigbfnaaaDoor
/- Windows as values, in boxes; what is answered. Written by tools/gen_win.py. -/
namespace Go.Proofs.YtoiidedigbfnaaaDoor
open Go.RowKit Sha Six Apd Cut Err
set_option linter.unusedVariables false
set_option linter.unusedSimpArgs false
namespace Win
theorem cells2 {w : World} {B : Nat} {a b : Value} {t : TypeId} (h : w.heap[B]? = some (.cells #[a, b] t (0, 0))) : w.cell? ⟨B, 0, none⟩ = some a ∧ w.cell? ⟨B, 1, none⟩ = some b :=
  ⟨cell_of_row w B 0 _ _ _ h, cell_of_row w B 1 _ _ _ h⟩
theorem free2 {w : World} {B : Nat} {a b : Value} {t : TypeId} (h : w.heap[B]? = some (.cells #[a, b] t (0, 0))) : w.frozen? ⟨B, 0, none⟩ = false ∧ w.frozen? ⟨B, 1, none⟩ = false :=
  ⟨frozen_of_row w B 0 _ _ h, frozen_of_row w B 1 _ _ h⟩
theorem over2 (a : World) (B : Nat) (t : TypeId) (a0 a1 u0 u1 : Value) (h : a.heap[B]? = some (.cells #[a0, a1] t (0, 0))) :
    ((a.setCell ⟨B, 0, none⟩ u0).setCell ⟨B, 1, none⟩ u1).heap[B]? = some (.cells #[u0, u1] t (0, 0)) ∧ a.grownBy ((a.setCell ⟨B, 0, none⟩ u0).setCell ⟨B, 1, none⟩ u1) (some B) := by
  have h := heap_setCell_same _ B 0 _ t u0 h
  have h := heap_setCell_same _ B 1 _ t u1 h
  exact ⟨h, gtrans (gsetCell _ _ _ _) (gsetCell _ _ _ _)⟩
theorem held2 {w1 w' : World} {B : Nat} {t : TypeId} {a0 a1 : Value} (k : w1.heap[B]? = some (.cells #[a0, a1] t (0, 0))) (h : Below w1.heap.size w1 w') :
    Below w1.heap.size w1 w' ∧ w'.cell? ⟨B, 0, none⟩ = some a0 ∧ w'.cell? ⟨B, 1, none⟩ = some a1 := ⟨h, cells2 ((h.block B (there_lt k)).trans k)⟩
/-- Numbers that fit. -/
structure Fit (s : W) : Prop where
  bits : s.bits < 18446744073709551616
  top : IntKind.i64.wrap s.top = s.top
/-- The error of this number (0: nil). -/
def errn (code : Nat) : Value := if code = 0 then .nilIface else .iface 56 (.int .i64 (code : Int))
theorem errn_0 : errn 0 = .nilIface := rfl
/-- A window and the error of this number. -/
def GaveL (w w' : World) (s : W) (code : Nat) (e : Ending) : Prop := e = .returned (.tuple #[.agg #[.int .i64 s.top, .int .u64 (s.bits : Int)], errn code]) ∧ Below w.heap.size w w'
theorem right_fit {s : W} (h : right s = true) : 0 ≤ s.top ∧ s.top ≤ 4611686018427387904 := ⟨(right_iff.1 h).1, (right_iff.1 h).2.1⟩
end Win
end Go.Proofs.YtoiidedigbfnaaaDoor
/- Plain: shifts of 64 bits. Written by tools/gen_win.py. -/
namespace Go.Proofs.YtoiidedigbfnaaaDoor
open Go.RowKit Sha Six Apd Cut Err
set_option linter.unusedVariables false
set_option linter.unusedSimpArgs false
namespace Win
theorem wu64 (n : Int) : IntKind.u64.wrap n = n % 18446744073709551616 := by simp [IntKind.wrap, IntKind.bits, IntKind.signed]
theorem wi64 (n : Int) (h0 : 0 ≤ n) (h1 : n < 18446744073709551616) : IntKind.u64.wrap n = n := by rw [wu64]; omega
theorem and_one (b : Nat) (hb : b < 18446744073709551616) : bits .and .u64 (b : Int) 1 = ((b % 2 : Nat) : Int) := by
  have h := (bits_nat .u64 64 (Nat.le_refl _) (fun n h0 h1 => wi64 n h0 h1) b 1 (by exact hb) (by decide)).1
  rw [show ((1 : Nat) : Int) = 1 from rfl] at h
  rw [h, show (1 : Nat) = 2 ^ 1 - 1 from rfl, Nat.and_two_pow_sub_one_eq_mod]
theorem or_nat (a b : Nat) (ha : a < 18446744073709551616) (hb : b < 18446744073709551616) : bits .or .u64 (a : Int) (b : Int) = ((a ||| b : Nat) : Int) :=
  (bits_nat .u64 64 (Nat.le_refl _) (fun n h0 h1 => wi64 n h0 h1) a b ha hb).2
theorem or_one (a : Nat) (ha : a < 18446744073709551616) : bits .or .u64 (a : Int) 1 = ((a ||| 1 : Nat) : Int) := or_nat a 1 ha (by decide)
theorem shr_nat (b k : Nat) : ((b : Int) / 2 ^ k) = ((b >>> k : Nat) : Int) := by
  rw [Nat.shiftRight_eq_div_pow]; simp
/-- A count that may be great. -/
theorem shr_min (b k : Nat) (hb : b < 18446744073709551616) : b >>> min k 64 = b >>> k := by
  rcases Nat.le_total k 64 with h | h
  · rw [Nat.min_eq_left h]
  · rw [Nat.min_eq_right h, Nat.shiftRight_eq_div_pow, Nat.shiftRight_eq_div_pow, Nat.div_eq_of_lt (by exact hb), Nat.div_eq_of_lt (Nat.lt_of_lt_of_le hb (Nat.pow_le_pow_right (n := 2) (by decide) h))]
theorem shr_lt (b k : Nat) (hb : b < 18446744073709551616) : b >>> k < 18446744073709551616 := Nat.lt_of_le_of_lt (Nat.shiftRight_le b k) hb
theorem bit_mod (b k : Nat) : b >>> k % 2 = if b.testBit k then 1 else 0 := by
  rw [Nat.shiftRight_eq_div_pow, Nat.testBit_eq_decide_div_mod_eq]
  have := Nat.mod_two_eq_zero_or_one (b / 2 ^ k)
  by_cases h : b / 2 ^ k % 2 = 1
  · simp [h]
  · simp [h]; omega
theorem shl_wrap (b k : Nat) : IntKind.u64.wrap ((b : Int) * 2 ^ min k 64) = ((b <<< k % 18446744073709551616 : Nat) : Int) := by
  rw [wu64, Nat.shiftLeft_eq]
  have e : ((b : Int) * 2 ^ min k 64) = ((b * 2 ^ min k 64 : Nat) : Int) := by simp
  rw [e]
  rcases Nat.le_total k 64 with h | h
  · rw [Nat.min_eq_left h]; omega
  · rw [Nat.min_eq_right h]
    have h1 : b * 2 ^ 64 % 18446744073709551616 = 0 := Nat.mul_mod_left _ _
    have h2 : b * 2 ^ k % 18446744073709551616 = 0 := by
      rw [show k = (k - 64) + 64 by omega, Nat.pow_add, ← Nat.mul_assoc]
      exact Nat.mul_mod_left _ _
    omega
theorem one_shl (k : Nat) (h : k < 64) : IntKind.u64.wrap (2 ^ min k 64) = ((1 <<< k : Nat) : Int) := by
  have := shl_wrap 1 k
  rw [show (((1 : Nat) : Int) * 2 ^ min k 64) = 2 ^ min k 64 by simp] at this
  rw [this, Nat.mod_eq_of_lt (shift_lt h)]
/-- No bit of a number below 1. -/
theorem shr_zero {s : W} (hb : s.bits < 18446744073709551616) (ht : 0 < s.top) : (s.bits >>> s.top.toNat = 0) ↔ ∀ k, k < 64 → s.bits.testBit k = true → (k : Int) < s.top := by
  constructor
  · intro h k hk hkb
    refine Classical.byContradiction fun hn => ?_
    have h1 := congrArg (fun x => x.testBit (k - s.top.toNat)) h
    simp only [Nat.testBit_shiftRight, Nat.zero_testBit] at h1
    rw [show s.top.toNat + (k - s.top.toNat) = k by omega, hkb] at h1
    cases h1
  · intro h
    refine Nat.eq_of_testBit_eq fun i => ?_
    rw [Nat.testBit_shiftRight, Nat.zero_testBit]
    rcases Nat.lt_or_ge (s.top.toNat + i) 64 with hi | hi
    · cases hbb : s.bits.testBit (s.top.toNat + i) with
      | false => rfl
      | true => have := h _ hi hbb; omega
    · exact small_bit hb hi
theorem orb_step (T : Int) (q : List Int) (k : Nat) (h : k < q.length) : orb T (q.take (k + 1)) 0 = if T - q.getD k 0 < 64 then orb T (q.take k) 0 ||| 1 <<< (T - q.getD k 0).toNat else orb T (q.take k) 0 := by
  rw [List.take_add_one, List.getElem?_eq_getElem h, orb_app, List.getD_eq_getElem?_getD, List.getElem?_eq_getElem h]
  rfl
end Win
end Go.Proofs.YtoiidedigbfnaaaDoor
/- Rows of numbers of the call's own. Written by tools/gen_win.py. -/
namespace Go.Proofs.YtoiidedigbfnaaaDoor
open Go.RowKit Sha Six Apd Cut Err
set_option linter.unusedVariables false
set_option linter.unusedSimpArgs false
namespace Win
def ints (l : List Int) : List Value := l.map fun x => .int .i64 x
theorem ints_len (l : List Int) : (ints l).length = l.length := by simp [ints]
theorem ints_at {l : List Int} {i : Nat} (h : i < l.length) : (ints l)[i]? = some (.int .i64 (l.getD i 0)) := by
  simp [ints, h]
/-- v is a row of the call's own, of the numbers xs. -/
def OwnIs (w : World) (base : Nat) (v : Value) (xs : List Int) : Prop := w.ownsRow base 3 1 v xs.length (ints xs)
theorem OwnIs.below {w w' : World} {base : Nat} {v : Value} {xs : List Int} (h : OwnIs w base v xs) (hb : Below w.heap.size w w') : OwnIs w' base v xs := own_below h hb
theorem OwnIs.mono {w : World} {b base : Nat} {v : Value} {xs : List Int} (h : OwnIs w base v xs) (hb : b ≤ base) : OwnIs w b v xs := own_mono h hb
theorem OwnIs.form {w : World} {base : Nat} {v : Value} {xs : List Int} (h : OwnIs w base v xs) : ∃ ad c, v = .slice ad xs.length c := own_form h
theorem OwnIs.cell {w : World} {base n c : Nat} {ad : Option Addr} {xs : List Int} (h : OwnIs w base (.slice ad n c) xs) {i : Nat} (hi : i < xs.length) : ∃ g, ad = some ⟨g, 0, none⟩ ∧ base ≤ g ∧ g < w.heap.size ∧ w.cell? ⟨g, 0 + i, none⟩ = some (.int .i64 (xs.getD i 0)) ∧ w.frozen? ⟨g, 0 + i, none⟩ = false := by
  obtain ⟨hl, hv⟩ := h
  rcases hv with ⟨_, h0⟩ | ⟨g, cap, cur, hv, hg, hcur, h1, h2, h3, h4⟩
  · omega
  · injection hv with e1 e2 e3
    subst e1
    refine ⟨g, rfl, hg, there_lt hcur, ?_, frozen_of_row w g (0 + i) cur _ hcur⟩
    have k5 := ints_at hi
    rw [← h4, List.getElem?_take_of_lt (by omega)] at k5
    rw [cell_of_row w g (0 + i) cur _ (0, 0) hcur, Nat.zero_add, ← Array.getElem?_toList]
    exact k5
theorem own_nilI (w : World) (base : Nat) : OwnIs w base (.slice none 0 0) [] := World.ownsRow_nil _ _ _ _
theorem infoI : (Tryd.prog.info? 3).map (fun i => (i.zero, i.size, i.bytes)) = some (some (.int .i64 0), 1, 8) := by kernel_rfl
/-- append of one number whose cell lies in block L. -/
theorem append_i {ops : Array Oper} {rest : List Oper} {o : Oper} {a : Act} {Q : Exit → Act → World → Prop} {w : World} (hgd : o.guard = none) (s x : Operand)
    (ho : o.op = .call { callee := .builtin .append, args := #[s, x], argTypes := #[106, 106] }) (base : Nat) (v : Value) (xs : List Int) (hs : a.eval s = v) (hown : OwnIs w base v xs)
    (L : Nat) (y : Int) (hx : a.eval x = .slice (some ⟨L, 0, none⟩) 1 1) (hL : w.heap[L]? = some (.cells #[.int .i64 y] 3 (0, 0)))
    (hn : xs.length < 1000000000) (hbase : base ≤ w.heap.size)
    (h : ∀ v' w', OwnIs w' base v' (xs ++ [y]) → w.grownBy w' v.ownBlock → wpList Tryd.prog ops Q rest (a.put o.dst v') w') : wpList Tryd.prog ops Q (o :: rest) a w := by
  obtain ⟨i0, hi, hz0, hz1, hz2⟩ := info_parts infoI
  refine wpList_append_own _ hgd s x 106 ho base 3 i0 _ 1 8 Tryd.underlying106 hi hz0 hz1 hz2 rfl (by decide) v xs.length (ints xs) hs hown ⟨L, 0, none⟩ 1 1 [.int .i64 y] hx rfl (fun j u hj => ?_) (by intro u hu; simp at hu; subst hu; rfl) (by unfold maxLen; omega) (by omega) hbase fun v' w' k1 k2 _ => h v' w' (by unfold OwnIs; rw [List.length_append, show ints (xs ++ [y]) = ints xs ++ [.int .i64 y] by simp [ints]]; exact k1) k2
  rw [Addr.add_mid, Nat.zero_add, cell_of_row w L j _ _ (0, 0) hL, List.getElem?_toArray]; exact hj
set_option maxRecDepth 100000 in
/-- append of a whole row. -/
theorem append_is {ops : Array Oper} {rest : List Oper} {o : Oper} {a : Act} {Q : Exit → Act → World → Prop} {w : World} (hgd : o.guard = none) (s x : Operand)
    (ho : o.op = .call { callee := .builtin .append, args := #[s, x], argTypes := #[106, 106] }) (base : Nat) (v : Value) (xs : List Int) (hs : a.eval s = v) (hown : OwnIs w base v xs)
    (b2 : Nat) (ao : Option Addr) (c : Nat) (ys : List Int) (hx : a.eval x = .slice ao ys.length c) (hsrc : OwnIs w b2 (.slice ao ys.length c) ys) (hn : xs.length + ys.length < 1000000000) (hbase : base ≤ w.heap.size)
    (h : ∀ v' w', OwnIs w' base v' (xs ++ ys) → w.grownBy w' v.ownBlock → wpList Tryd.prog ops Q rest (a.put o.dst v') w') : wpList Tryd.prog ops Q (o :: rest) a w := by
  obtain ⟨i0, hi, hz0, hz1, hz2⟩ := info_parts infoI
  cases ys with
  | nil =>
    have hnil : ao = none ∧ c = 0 ∨ ∃ ad, ao = some ad := by
      rcases hsrc.2 with ⟨hv, _⟩ | ⟨g, cap, cur, hv, _⟩
      · injection hv with e1 e2 e3; exact .inl ⟨e1, e3⟩
      · injection hv with e1 e2 e3; exact .inr ⟨_, e1⟩
    rcases hnil with ⟨rfl, rfl⟩ | ⟨ad, rfl⟩
    · exact wpList_append_own_none hgd s x 106 ho base 3 i0 1 Tryd.underlying106 hi v xs.length (ints xs) hs hown hx (h v w (by simpa using hown) (grefl _ _))
    · refine wpList_append_own _ hgd s x 106 ho base 3 i0 _ 1 8 Tryd.underlying106 hi hz0 hz1 hz2 rfl (by decide) v xs.length (ints xs) hs hown ad 0 c [] hx rfl nofun nofun (by unfold maxLen; omega) (by omega) hbase fun v' w' k1 k2 _ => h v' w' (by simpa [OwnIs] using k1) k2
  | cons y r =>
    obtain ⟨g, rfl, _, _, _, _⟩ := hsrc.cell (i := 0) (by simp)
    refine wpList_append_own _ hgd s x 106 ho base 3 i0 _ 1 8 Tryd.underlying106 hi hz0 hz1 hz2 rfl (by decide) v xs.length (ints xs) hs hown ⟨g, 0, none⟩ (y :: r).length c (ints (y :: r)) hx (by rw [ints_len, Nat.mul_one]) (fun j u hj => ?_) (by intro u hu; simp [ints] at hu; rcases hu with rfl | ⟨z, _, rfl⟩ <;> rfl) (by unfold maxLen; omega) (by omega) hbase fun v' w' k1 k2 _ => h v' w' (by unfold OwnIs; rw [List.length_append, show ints (xs ++ y :: r) = ints xs ++ ints (y :: r) by simp [ints]]; exact k1) k2
    have hjl : j < (y :: r).length := by
      rcases Nat.lt_or_ge j (y :: r).length with h' | h'
      · exact h'
      · rw [List.getElem?_eq_none (by rw [ints_len]; exact h')] at hj; cases hj
    obtain ⟨g', hg, _, _, d, _⟩ := hsrc.cell hjl
    injection hg with hg
    injection hg with hg _ _
    subst hg
    rw [Addr.add_mid, d, ← hj, ints_at hjl]
theorem lit_is (w : World) (base : Nat) (y : Int) (hb : base ≤ w.heap.size) : OwnIs (w.alloc (.cells #[.int .i64 y] 3)) base (.slice (some ⟨w.heap.size, 0, none⟩) 1 1) [y] := World.ownsRow_lit (e := 3) (size := 1) w #[.int .i64 y] 1 hb (by decide) rfl
theorem own_top {w : World} {base : Nat} {v : Value} {xs : List Int} (h : OwnIs w base v xs) : ∀ k, v.ownBlock = some k → k < w.heap.size := by
  intro k hk
  rcases h.2 with ⟨rfl, _⟩ | ⟨g, cap, cur, rfl, hg, hcur, _⟩
  · simp [Value.ownBlock] at hk
  · simp [Value.ownBlock] at hk; rw [← hk]; exact there_lt hcur
theorem own_lt {w : World} {base n c g : Nat} {xs : List Int} (h : OwnIs w base (.slice (some ⟨g, 0, none⟩) n c) xs) : g < w.heap.size := by
  rcases h.2 with ⟨hv, _⟩ | ⟨g2, cap, cur, hv, hg, hcur, _⟩
  · injection hv with e; cases e
  · injection hv with e
    injection e with e
    injection e with e _ _
    rw [e]; exact there_lt hcur
end Win
end Go.Proofs.YtoiidedigbfnaaaDoor
/- Rows of truths of the call's own. Written by tools/gen_win_laws.py. -/
namespace Go.Proofs.YtoiidedigbfnaaaDoor
open Go.RowKit Sha Six Apd Cut Err
set_option linter.unusedVariables false
set_option linter.unusedSimpArgs false
namespace Win
def bools (l : List Bool) : List Value := l.map fun x => .bool x
theorem bools_at {l : List Bool} {i : Nat} (h : i < l.length) : (bools l)[i]? = some (.bool (l.getD i false)) := by
  simp [bools, h]
def OwnBs (w : World) (base : Nat) (v : Value) (xs : List Bool) : Prop := w.ownsRow base 4 1 v xs.length (bools xs)
theorem OwnBs.below {w w' : World} {base : Nat} {v : Value} {xs : List Bool} (h : OwnBs w base v xs) (hb : Below w.heap.size w w') : OwnBs w' base v xs := own_below h hb
theorem OwnBs.cell {w : World} {base g n c : Nat} {xs : List Bool} (h : OwnBs w base (.slice (some ⟨g, 0, none⟩) n c) xs) {i : Nat} (hi : i < xs.length) : w.cell? ⟨g, i, none⟩ = some (.bool (xs.getD i false)) ∧ w.frozen? ⟨g, i, none⟩ = false := by
  obtain ⟨hl, hv⟩ := h
  rcases hv with ⟨_, h0⟩ | ⟨g', cap, cur, hv, hg, hcur, h1, h2, h3, h4⟩
  · omega
  · injection hv with e1 e2 e3
    injection e1 with e1
    injection e1 with e1
    subst e1
    refine ⟨?_, frozen_of_row w g i cur _ hcur⟩
    have k5 := bools_at hi
    rw [← h4, List.getElem?_take_of_lt (by omega)] at k5
    rw [cell_of_row w g i cur _ (0, 0) hcur, ← Array.getElem?_toList]
    exact k5
theorem OwnBs.set {w : World} {base g n c : Nat} {xs : List Bool} (h : OwnBs w base (.slice (some ⟨g, 0, none⟩) n c) xs) (i : Nat) (x : Bool) :
    OwnBs (w.setCell ⟨g, i, none⟩ (.bool x)) base (.slice (some ⟨g, 0, none⟩) n c) (xs.set i x) ∧ w.grownBy (w.setCell ⟨g, i, none⟩ (.bool x)) (some g) := by
  have hn : n = xs.length := by
    obtain ⟨_, _, e⟩ := own_form h
    injection e
  subst hn
  unfold OwnBs at h ⊢
  rw [show bools (xs.set i x) = (bools xs).set i (.bool x) by simp [bools, List.map_set], List.length_set]
  exact World.ownsRow.stored h i (.bool x)
theorem infoB : (Tryd.prog.info? 4).map (fun i => (i.zero, i.size, i.bytes)) = some (some (.bool false), 1, 1) := by kernel_rfl
theorem made_bools (N : Nat) : (madeCells (Value.cells (.bool false)) (N * 1)).toList = bools (List.replicate N false) := by
  rw [Nat.mul_one]; show (madeCells #[.bool false] N).toList = _; rw [toList_madeCells_one]; simp [bools]
end Win
end Go.Proofs.YtoiidedigbfnaaaDoor
/- Rows of numbers of 16 bits that came in. Written by tools/gen_win_laws.py. -/
namespace Go.Proofs.YtoiidedigbfnaaaDoor
open Go.RowKit Sha Six Apd Cut Err
set_option linter.unusedVariables false
set_option linter.unusedSimpArgs false
namespace Win
theorem meas {n j : Nat} (h : j < n) : n + 1 - (j + 1) < n + 1 - j := by omega
structure R16 (w : World) (a : Option Addr) (xs : List Nat) : Prop where
  cell : ∀ j, j < xs.length → ∃ g off, a = some ⟨g, off, none⟩ ∧ w.cell? ⟨g, off + j, none⟩ = some (.int .u16 (xs.getD j 0 : Nat))
  small : ∀ x ∈ xs, x < 65536
theorem R16.below {w w' : World} {a : Option Addr} {xs : List Nat} (h : R16 w a xs) (hb : Below w.heap.size w w') : R16 w' a xs := by
  refine ⟨fun j hj => ?_, h.small⟩
  obtain ⟨g, off, e, hc⟩ := h.cell j hj
  exact ⟨g, off, e, (hb.cell (p := ⟨g, off + j, none⟩) (block_lt_of_cell hc)).trans hc⟩
theorem row16 {w : World} {a : Option Addr} {len cap : Nat} {zs : List Int} (h : IsRow .u16 w a len cap zs) : ∃ xs : List Nat, len = xs.length ∧ R16 w a xs := by
  rcases h with ⟨rfl, rfl, rfl, rfl⟩ | ⟨x, rfl, hlc, hcm, hz, hc, hw⟩
  · exact ⟨[], rfl, fun j hj => by simp at hj, by simp⟩
  · have hwb : ∀ n ∈ zs, 0 ≤ n ∧ n < 65536 := fun n hn => by
      have := bounds_u16 (hw n hn); omega
    refine ⟨(zs.take len).map Int.toNat, by simp; omega, fun j hj => ?_, ?_⟩
    · simp only [List.length_map, List.length_take] at hj
      have hx : x = ⟨x.block, x.off, none⟩ := by
        have := hc 0 (by omega)
        rw [show x.add 0 = x from rfl] at this
        exact spot_of_cell this
      refine ⟨x.block, x.off, by rw [← hx], ?_⟩
      have h1 := hc j (by omega)
      rw [hx, Addr.add_mid] at h1
      rw [h1]
      have hj2 : j < zs.length := by omega
      have hb := hwb zs[j] (List.getElem_mem hj2)
      have hjl : j < len := by omega
      simp [List.getD_eq_getElem?_getD, hj2, hjl]
      omega
    · intro y hy
      simp only [List.mem_map] at hy
      obtain ⟨n, hn, rfl⟩ := hy
      have := hwb n (List.mem_of_mem_take hn); omega
end Win
end Go.Proofs.YtoiidedigbfnaaaDoor
/- Numbers that came in. Written by tools/gen_win_laws.py. -/
namespace Go.Proofs.YtoiidedigbfnaaaDoor
open Go.RowKit Sha Six Apd Cut Err
set_option linter.unusedVariables false
set_option linter.unusedSimpArgs false
namespace Win
theorem wf_i64 {c : Int} (h : (Lit.int .i64 c).wf = true) : IntKind.i64.wrap c = c := by
  simp [Lit.wf, IntKind.min, IntKind.max, IntKind.signed, IntKind.bits] at h
  rw [IntWalk.i64_in] <;> omega
theorem wf_u64 {c : Int} (h : (Lit.int .u64 c).wf = true) : ∃ b : Nat, c = (b : Int) ∧ b < 18446744073709551616 := by
  simp [Lit.wf, IntKind.min, IntKind.max, IntKind.signed, IntKind.bits] at h
  exact ⟨c.toNat, by omega, by omega⟩
theorem wf_u32 {c : Int} (h : (Lit.int .u32 c).wf = true) : ∃ b : Nat, c = (b : Int) ∧ b < 4294967296 := by
  simp [Lit.wf, IntKind.min, IntKind.max, IntKind.signed, IntKind.bits] at h
  exact ⟨c.toNat, by omega, by omega⟩
theorem wf_u8 {c : Int} (h : (Lit.int .u8 c).wf = true) : ∃ b : Nat, c = (b : Int) ∧ b < 256 := by
  simp [Lit.wf, IntKind.min, IntKind.max, IntKind.signed, IntKind.bits] at h
  exact ⟨c.toNat, by omega, by omega⟩
end Win
end Go.Proofs.YtoiidedigbfnaaaDoor
