/- Plain: windows of numbers that were seen. -/
import Derived.WalkKit
namespace Go.Proofs.YteggdfkmncikpaaDoor
set_option linter.unusedVariables false
namespace Win
/-- What was seen: the greatest number, and of the 64 up to it which. -/
structure W where
  top : Int
  bits : Nat
def has (s : W) (n : Int) : Bool := decide (0 ≤ s.top - n) && (decide (s.top - n < 64) && s.bits.testBit (s.top - n).toNat)
def right (s : W) : Bool := decide (0 ≤ s.top) && (decide (s.top ≤ 4611686018427387904) && (if s.top = 0 then s.bits == 0 else s.bits.testBit 0 && (List.range 64).all fun k => !s.bits.testBit k || decide ((k : Int) < s.top)))
/-- A number is let in. -/
def in_ (s : W) (n : Int) : W := if s.top < n then ⟨n, if 64 ≤ n - s.top then 1 else (s.bits <<< (n - s.top).toNat) % 18446744073709551616 ||| 1⟩ else ⟨s.top, s.bits ||| 1 <<< (s.top - n).toNat⟩
def lets (s : W) (n : Int) : W × Nat := if n < 1 ∨ 4611686018427387904 < n then (s, 1) else if n ≤ s.top ∧ (64 ≤ s.top - n ∨ has s n = true) then (s, 12) else (in_ s n, 0)
def nil : W := ⟨0, 0⟩
theorem right_iff {s : W} : right s = true ↔ 0 ≤ s.top ∧ s.top ≤ 4611686018427387904 ∧ ((s.top = 0 ∧ s.bits = 0) ∨ (s.top ≠ 0 ∧ s.bits.testBit 0 = true ∧ ∀ k, k < 64 → s.bits.testBit k = true → (k : Int) < s.top)) := by
  unfold right
  by_cases h : s.top = 0
  · simp [h]
  · simp only [h, if_false, Bool.and_eq_true, decide_eq_true_eq, List.all_eq_true, List.mem_range, Bool.or_eq_true, Bool.not_eq_true']
    constructor
    · rintro ⟨h1, h2, h3, h4⟩
      refine ⟨h1, h2, .inr ⟨h, h3, fun k hk hb => ?_⟩⟩
      rcases h4 k hk with h5 | h5
      · rw [hb] at h5; cases h5
      · exact h5
    · rintro ⟨h1, h2, h3⟩
      rcases h3 with ⟨h3, _⟩ | ⟨_, h3, h4⟩
      · exact absurd h3 (by simp)
      · refine ⟨h1, h2, h3, fun k hk => ?_⟩
        cases hb : s.bits.testBit k with
        | false => exact .inl rfl
        | true => exact .inr (h4 k hk hb)
theorem in_top (s : W) (n : Int) : (in_ s n).top = if s.top < n then n else s.top := by unfold in_; split <;> rfl
theorem or_lt {a b : Nat} (ha : a < 18446744073709551616) (hb : b < 18446744073709551616) : a ||| b < 18446744073709551616 := Nat.or_lt_two_pow (n := 64) ha hb
theorem shift_lt {k : Nat} (h : k < 64) : 1 <<< k < 18446744073709551616 := by
  rw [Nat.shiftLeft_eq, Nat.one_mul]
  exact Nat.pow_lt_pow_right (by decide) h
theorem in_lt {s : W} {n : Int} (hb : s.bits < 18446744073709551616) (hk : s.top - n < 64) : (in_ s n).bits < 18446744073709551616 := by
  unfold in_
  split
  · simp only
    split
    · decide
    · exact or_lt (Nat.mod_lt _ (by decide)) (by decide)
  · exact or_lt hb (shift_lt (by omega))
theorem one_tb (i : Nat) : (1 : Nat).testBit i = decide (i = 0) := by
  cases i with
  | zero => rfl
  | succ i => simp [Nat.testBit_succ]
theorem one_bit (j k : Nat) : (1 <<< j).testBit k = decide (k = j) := by
  rw [Nat.testBit_shiftLeft, one_tb]
  by_cases h : k = j
  · subst h; simp
  · by_cases h2 : k ≥ j
    · rw [decide_eq_false (show ¬ k - j = 0 by omega), decide_eq_false h]; simp
    · rw [decide_eq_false h2, decide_eq_false h]; rfl
theorem small_bit {b k : Nat} (hb : b < 18446744073709551616) (hk : 64 ≤ k) : b.testBit k = false := Nat.testBit_lt_two_pow (Nat.lt_of_lt_of_le hb (Nat.pow_le_pow_right (n := 2) (i := 64) (j := k) (by decide) hk))
/-- Which numbers are told behind one that was let in. -/
theorem has_in {s : W} {n : Int} (hk : s.top - n < 64) (m : Int) : has (in_ s n) m = (decide (m = n) || (has s m && decide ((in_ s n).top - m < 64))) := by
  unfold has
  unfold in_
  by_cases h : s.top < n
  · rw [if_pos h]
    simp only
    by_cases hm : m = n
    · subst hm
      simp
      split <;> simp
    · by_cases h0 : m < n
      · have e1 : decide (0 ≤ n - m) = true := decide_eq_true (by omega)
        by_cases h64 : n - m < 64
        · have e2 : decide (n - m < 64) = true := decide_eq_true h64
          by_cases hl : 64 ≤ n - s.top
          · have e3 : decide (0 ≤ s.top - m) = false := decide_eq_false (by omega)
            have e4 : (n - m).toNat ≠ 0 := by omega
            rw [if_pos hl, e1, e2, e3, one_tb, decide_eq_false e4]
            simp [hm]
          · rw [if_neg hl, e1, e2, Nat.testBit_or, show (18446744073709551616 : Nat) = 2 ^ 64 from rfl, Nat.testBit_mod_two_pow, Nat.testBit_shiftLeft]
            have e4 : (1 : Nat).testBit (n - m).toNat = false := by
              rw [one_tb]; exact decide_eq_false (by omega)
            have e5 : decide ((n - m).toNat < 64) = true := decide_eq_true (by omega)
            rw [e4, e5]
            by_cases h6 : m ≤ s.top
            · have e7 : decide (0 ≤ s.top - m) = true := decide_eq_true (by omega)
              have e8 : decide (s.top - m < 64) = true := decide_eq_true (by omega)
              have e9 : decide ((n - s.top).toNat ≤ (n - m).toNat) = true := decide_eq_true (by omega)
              have e10 : (n - m).toNat - (n - s.top).toNat = (s.top - m).toNat := by omega
              have e11 : decide ((n - m).toNat ≥ (n - s.top).toNat) = true := e9
              rw [e7, e8, e11, e10]
              simp [hm]
            · have e7 : decide (0 ≤ s.top - m) = false := decide_eq_false (by omega)
              have e11 : decide ((n - m).toNat ≥ (n - s.top).toNat) = false := decide_eq_false (by omega)
              rw [e7, e11]
              simp [hm]
        · have e2 : decide (n - m < 64) = false := decide_eq_false h64
          rw [e1, e2]
          simp [hm]
      · have e1 : decide (0 ≤ n - m) = false := decide_eq_false (by omega)
        have e3 : decide (0 ≤ s.top - m) = false := decide_eq_false (by omega)
        rw [e1, e3]
        simp [hm]
  · rw [if_neg h]
    simp only
    rw [Nat.testBit_or, one_bit]
    by_cases hm : m = n
    · subst hm
      have e1 : decide (0 ≤ s.top - m) = true := decide_eq_true (by omega)
      have e2 : decide (s.top - m < 64) = true := decide_eq_true hk
      rw [e1, e2]
      simp
    · by_cases h0 : 0 ≤ s.top - m
      · have e4 : decide ((s.top - m).toNat = (s.top - n).toNat) = false := decide_eq_false (by omega)
        rw [e4]
        simp [hm]
        intro _ h _
        exact h
      · have e1 : decide (0 ≤ s.top - m) = false := decide_eq_false h0
        rw [e1]
        simp [hm]
theorem in_right {s : W} {n : Int} (h : right s = true) (hb : s.bits < 18446744073709551616) (h1 : 1 ≤ n) (h2 : n ≤ 4611686018427387904) (hk : s.top - n < 64) : right (in_ s n) = true := by
  obtain ⟨g1, g2, g3⟩ := right_iff.1 h
  have ht := in_top s n
  have hz : (in_ s n).top ≠ 0 := by rw [ht]; split <;> omega
  refine right_iff.2 ⟨by rw [ht]; split <;> omega, by rw [ht]; split <;> omega, .inr ⟨hz, ?_, fun k hk2 hkb => ?_⟩⟩
  · have := has_in (s := s) hk (in_ s n).top
    unfold has at this
    simp only [Int.sub_self, Int.le_refl, decide_true, Bool.true_and, Int.toNat_zero] at this
    rw [show decide ((0 : Int) < 64) = true from rfl, Bool.true_and] at this
    rw [this, ht]
    split
    · simp
    · rename_i h3
      have e1 : s.top ≠ 0 := by omega
      rcases g3 with ⟨g3, _⟩ | ⟨_, g3, _⟩
      · exact absurd g3 e1
      · simp [g3]
  · have hh : has (in_ s n) ((in_ s n).top - k) = true := by
      unfold has
      have e1 : (in_ s n).top - ((in_ s n).top - (k : Int)) = (k : Int) := by omega
      rw [e1, Int.toNat_natCast, hkb, decide_eq_true (show (0 : Int) ≤ (k : Int) by omega), decide_eq_true (show (k : Int) < 64 by omega)]
      rfl
    rw [has_in hk] at hh
    simp only [Bool.or_eq_true, decide_eq_true_eq, Bool.and_eq_true] at hh
    rcases hh with hh | ⟨hh, _⟩
    · omega
    · unfold has at hh
      simp only [Bool.and_eq_true, decide_eq_true_eq] at hh
      obtain ⟨a1, a2, a3⟩ := hh
      rcases g3 with ⟨_, g3⟩ | ⟨_, _, g4⟩
      · rw [g3] at a3; simp at a3
      · have := g4 _ (by omega) a3
        omega
/-- Two right ones that tell the same are the same. -/
theorem same_of {s t : W} (hs : right s = true) (ht : right t = true) (h1 : s.bits < 18446744073709551616) (h2 : t.bits < 18446744073709551616) (htop : s.top = t.top) (h : ∀ m, has s m = has t m) : s = t := by
  obtain ⟨a, b⟩ := s
  obtain ⟨c, d⟩ := t
  simp only at htop h1 h2
  subst htop
  congr 1
  refine Nat.eq_of_testBit_eq fun i => ?_
  rcases Nat.lt_or_ge i 64 with hi | hi
  · have := h (a - (i : Int))
    unfold has at this
    simp only [show a - (a - (i : Int)) = (i : Int) by omega, Int.toNat_natCast, decide_eq_true (show (0 : Int) ≤ (i : Int) by omega), decide_eq_true (show (i : Int) < 64 by omega), Bool.true_and] at this
    exact this
  · rw [small_bit h1 hi, small_bit h2 hi]
theorem nil_right : right nil = true := rfl
theorem nil_has (m : Int) : has nil m = false := by unfold has nil; simp
theorem has_le {s : W} {n : Int} (h : has s n = true) : n ≤ s.top := by
  unfold has at h
  simp only [Bool.and_eq_true, decide_eq_true_eq] at h
  omega
theorem lets_cases (s : W) (n : Int) : ((lets s n).2 = 1 ∧ (lets s n).1 = s ∧ (n < 1 ∨ 4611686018427387904 < n)) ∨ ((lets s n).2 = 12 ∧ (lets s n).1 = s ∧ 1 ≤ n ∧ n ≤ 4611686018427387904 ∧ n ≤ s.top ∧ (64 ≤ s.top - n ∨ has s n = true)) ∨ ((lets s n).2 = 0 ∧ (lets s n).1 = in_ s n ∧ 1 ≤ n ∧ n ≤ 4611686018427387904 ∧ s.top - n < 64 ∧ has s n = false) := by
  unfold lets
  split
  · rename_i h; exact .inl ⟨rfl, rfl, h⟩
  · split
    · rename_i h1 h2; exact .inr (.inl ⟨rfl, rfl, by omega, by omega, h2.1, h2.2⟩)
    · rename_i h1 h2
      refine .inr (.inr ⟨rfl, rfl, by omega, by omega, ?_, ?_⟩)
      · rcases Int.lt_or_le s.top n with h3 | h3
        · omega
        · have : ¬ (64 ≤ s.top - n) := fun h4 => h2 ⟨h3, .inl h4⟩
          omega
      · cases hh : has s n with
        | false => rfl
        | true => exact absurd ⟨has_le hh, .inr hh⟩ h2
theorem lets_keep {s : W} (n : Int) (h : right s = true) (hb : s.bits < 18446744073709551616) : right (lets s n).1 = true ∧ (lets s n).1.bits < 18446744073709551616 := by
  rcases lets_cases s n with ⟨_, e, _⟩ | ⟨_, e, _⟩ | ⟨_, e, h1, h2, h3, _⟩
  · rw [e]; exact ⟨h, hb⟩
  · rw [e]; exact ⟨h, hb⟩
  · rw [e]; exact ⟨in_right h hb h1 h2 h3, in_lt hb h3⟩
theorem has_pos {s : W} {m : Int} (h : right s = true) (hm : has s m = true) : 1 ≤ m := by
  obtain ⟨g1, g2, g3⟩ := right_iff.1 h
  unfold has at hm
  simp only [Bool.and_eq_true, decide_eq_true_eq] at hm
  obtain ⟨a1, a2, a3⟩ := hm
  rcases g3 with ⟨_, g3⟩ | ⟨_, _, g4⟩
  · rw [g3] at a3; simp at a3
  · have := g4 _ (by omega) a3
    omega
theorem has_top {s : W} (h : right s = true) (h0 : s.top ≠ 0) : has s s.top = true := by
  obtain ⟨g1, g2, g3⟩ := right_iff.1 h
  rcases g3 with ⟨g3, _⟩ | ⟨_, g3, _⟩
  · exact absurd g3 h0
  · unfold has
    simp [g3]
/-- A greater number is let in. -/
theorem lets_up {s : W} {n : Int} (h1 : 1 ≤ n) (h2 : n ≤ 4611686018427387904) (h : s.top < n) : lets s n = (in_ s n, 0) ∧ (in_ s n).top = n := by
  refine ⟨?_, by rw [in_top, if_pos h]⟩
  unfold lets
  rw [if_neg (by omega), if_neg (by omega)]
/-- One that is too old isn't. -/
theorem lets_old {s : W} {n : Int} (h1 : 1 ≤ n) (h2 : n ≤ 4611686018427387904) (h : 64 ≤ s.top - n) : lets s n = (s, 12) := by
  unfold lets
  rw [if_neg (by omega), if_pos ⟨by omega, .inl h⟩]
/-- What was let in before one that is let in is told, or too old. -/
theorem in_old {s : W} {n m : Int} (hk : s.top - n < 64) (h : has s m = true ∨ 64 ≤ s.top - m) : has (in_ s n) m = true ∨ 64 ≤ (in_ s n).top - m := by
  have ht := in_top s n
  rcases h with h | h
  · rcases Int.lt_or_le ((in_ s n).top - m) 64 with h2 | h2
    · left
      rw [has_in hk, h, decide_eq_true h2]
      simp
    · exact .inr h2
  · right
    rw [ht]
    split <;> omega
theorem in_has {s : W} {n : Int} (hk : s.top - n < 64) : has (in_ s n) n = true := by rw [has_in hk]; simp
/-! ### Numbers from 1 to 64 -/
structure Near (s : W) : Prop where
  right : right s = true
  small : s.bits < 18446744073709551616
  top : s.top ≤ 64
theorem nil_near : Near nil := ⟨rfl, by decide, by decide⟩
theorem near_code {s : W} {n : Int} (h : Near s) (h1 : 1 ≤ n) (h2 : n ≤ 64) : (lets s n).2 = if has s n = true then 12 else 0 := by
  have := h.top
  rcases lets_cases s n with ⟨_, _, e⟩ | ⟨e, _, _, _, _, e2⟩ | ⟨e, _, _, _, _, e2⟩
  · omega
  · rcases e2 with e2 | e2
    · omega
    · rw [e, e2]; rfl
  · rw [e, e2]; rfl
theorem near_lets {s : W} {n : Int} (h : Near s) (h1 : 1 ≤ n) (h2 : n ≤ 64) : Near (lets s n).1 ∧ ∀ m, has (lets s n).1 m = (decide (m = n) || has s m) := by
  have h64 := h.top
  obtain ⟨k1, k2⟩ := lets_keep n h.right h.small
  have hmm : ∀ m, has (lets s n).1 m = (decide (m = n) || has s m) ∧ (lets s n).1.top ≤ 64 := by
    intro m
    rcases lets_cases s n with ⟨_, _, e⟩ | ⟨_, e, _, _, _, e2⟩ | ⟨_, e, _, _, e3, e2⟩
    · omega
    · rw [e]
      refine ⟨?_, h64⟩
      by_cases hm : m = n
      · subst hm
        rcases e2 with e2 | e2
        · omega
        · rw [e2]; simp
      · simp [hm]
    · rw [e]
      have ht : (in_ s n).top ≤ 64 := by rw [in_top]; split <;> omega
      refine ⟨?_, ht⟩
      rw [has_in e3]
      cases hs : has s m with
      | false => simp
      | true =>
        have := has_pos h.right hs
        rw [decide_eq_true (show (in_ s n).top - m < 64 by omega)]
        simp
  exact ⟨⟨k1, k2, (hmm 0).2⟩, fun m => (hmm m).1⟩
/-- All these, one behind the other. -/
def fold (s : W) (l : List Int) : W := l.foldl (fun s n => (lets s n).1) s
theorem fold_near : ∀ (l : List Int) (s : W), Near s → (∀ n ∈ l, 1 ≤ n ∧ n ≤ 64) → Near (fold s l) ∧ ∀ m, has (fold s l) m = true ↔ m ∈ l ∨ has s m = true
  | [], s, h, _ => ⟨h, fun m => by simp [fold]⟩
  | n :: l, s, h, hl => by
    obtain ⟨h1, h2⟩ := hl n (by simp)
    obtain ⟨k1, k2⟩ := near_lets h h1 h2
    obtain ⟨i1, i2⟩ := fold_near l (lets s n).1 k1 fun x hx => hl x (by simp [hx])
    refine ⟨i1, fun m => ?_⟩
    show has (fold (lets s n).1 l) m = true ↔ _
    rw [i2, k2]
    simp only [Bool.or_eq_true, decide_eq_true_eq, List.mem_cons]
    constructor
    · rintro (h | h | h)
      · exact .inl (.inr h)
      · exact .inl (.inl h)
      · exact .inr h
    · rintro ((h | h) | h)
      · exact .inr (.inl h)
      · exact .inl h
      · exact .inr (.inr h)
/-- The order of such numbers says nothing. -/
theorem fold_same {l r : List Int} (h1 : ∀ n ∈ l, 1 ≤ n ∧ n ≤ 64) (h : ∀ m, m ∈ l ↔ m ∈ r) : fold nil l = fold nil r := by
  obtain ⟨a1, a2⟩ := fold_near l nil nil_near h1
  obtain ⟨b1, b2⟩ := fold_near r nil nil_near fun n hn => h1 n ((h n).2 hn)
  have hh : ∀ m, has (fold nil l) m = has (fold nil r) m := fun m => by
    rw [Bool.eq_iff_iff, a2, b2, h]
  refine same_of a1.right b1.right a1.small b1.small ?_ hh
  generalize fold nil l = s at *
  generalize fold nil r = t at *
  have g1 := (right_iff.1 a1.right).1
  have g2 := (right_iff.1 b1.right).1
  by_cases hs : s.top = 0
  · by_cases ht : t.top = 0
    · omega
    · have h3 := has_top b1.right ht
      rw [← hh] at h3
      have := has_le h3
      omega
  · have h3 := has_top a1.right hs
    rw [hh] at h3
    have h4 := has_le h3
    by_cases ht : t.top = 0
    · omega
    · have h5 := has_top b1.right ht
      rw [← hh] at h5
      have := has_le h5
      omega
theorem fold_snoc (s : W) (l : List Int) (n : Int) : fold s (l ++ [n]) = (lets (fold s l) n).1 := by simp [fold]
end Win
end Go.Proofs.YteggdfkmncikpaaDoor
