/- Plain: the same windows, as the document reckons them: by the list of the numbers that bits tell of. -/
import Derived.Test.YteggdfkmncikpaaDoorWinSpec
namespace Go.Proofs.YteggdfkmncikpaaDoor
set_option linter.unusedVariables false
namespace Win
/-! ### As the document reckons: by the list of the numbers that bits tell of -/
def list (s : W) : List Int := ((List.range 64).filter fun k => s.bits.testBit k).map fun (k : Nat) => s.top - (k : Int)
/-- The list of the first j bits. -/
def listTo (s : W) (j : Nat) : List Int := ((List.range j).filter fun k => s.bits.testBit k).map fun (k : Nat) => s.top - (k : Int)
theorem listTo_step (s : W) (j : Nat) : listTo s (j + 1) = if s.bits.testBit j = true then listTo s j ++ [s.top - (j : Int)] else listTo s j := by
  unfold listTo
  rw [List.range_succ, List.filter_append, List.map_append, List.filter_cons]
  split <;> simp
theorem listTo_len (s : W) (j : Nat) : (listTo s j).length ≤ j := by
  unfold listTo
  rw [List.length_map]
  refine Nat.le_trans (List.length_filter_le _ _) ?_
  simp
theorem mem_list {s : W} {x : Int} : x ∈ list s ↔ has s x = true := by
  unfold list has
  simp only [List.mem_map, List.mem_filter, List.mem_range, Bool.and_eq_true, decide_eq_true_eq]
  constructor
  · rintro ⟨k, ⟨h1, h2⟩, rfl⟩
    rw [show s.top - (s.top - (k : Int)) = (k : Int) by omega, Int.toNat_natCast]
    exact ⟨by omega, by omega, h2⟩
  · rintro ⟨h1, h2, h3⟩
    exact ⟨(s.top - x).toNat, ⟨by omega, h3⟩, by omega⟩
/-- Bits of the numbers of a list, as far as they are reached. -/
def orb (top : Int) : List Int → Nat → Nat
  | [], b => b
  | x :: l, b => orb top l (if top - x < 64 then b ||| 1 <<< (top - x).toNat else b)
theorem orb_bit (top : Int) (i : Nat) : ∀ (l : List Int) (b : Nat), (orb top l b).testBit i = true ↔ b.testBit i = true ∨ ∃ x ∈ l, top - x < 64 ∧ (top - x).toNat = i
  | [], b => by simp [orb]
  | x :: l, b => by
    unfold orb
    rw [orb_bit top i l]
    simp only [List.mem_cons, exists_eq_or_imp]
    by_cases h : top - x < 64
    · rw [if_pos h, Nat.testBit_or, one_bit]
      simp only [Bool.or_eq_true, decide_eq_true_eq, h, true_and]
      constructor
      · rintro ((h1 | h1) | h1)
        · exact .inl h1
        · exact .inr (.inl h1.symm)
        · exact .inr (.inr h1)
      · rintro (h1 | h1 | h1)
        · exact .inl (.inl h1)
        · exact .inl (.inr h1.symm)
        · exact .inr h1
    · rw [if_neg h]
      simp [h]
theorem orb_app (top : Int) : ∀ (l r : List Int) (b : Nat), orb top (l ++ r) b = orb top r (orb top l b)
  | [], _, _ => rfl
  | x :: l, r, b => orb_app top l r _
theorem orb_lt (top : Int) : ∀ (l : List Int) (b : Nat), (∀ x ∈ l, x ≤ top) → b < 18446744073709551616 → orb top l b < 18446744073709551616
  | [], _, _, h => h
  | x :: l, b, hl, h => by
    unfold orb
    refine orb_lt top l _ (fun y hy => hl y (by simp [hy])) ?_
    split
    · exact or_lt h (shift_lt (by omega))
    · exact h
theorem in_orb {s : W} {n : Int} (h : right s = true) (hb : s.bits < 18446744073709551616) (hk : s.top - n < 64) : (in_ s n).bits = orb (in_ s n).top (n :: list s) 0 := by
  have hm : ∀ x ∈ n :: list s, x ≤ (in_ s n).top := by
    intro x hx
    rw [in_top]
    rcases List.mem_cons.1 hx with rfl | hx
    · split <;> omega
    · have := has_le (mem_list.1 hx)
      split <;> omega
  refine Nat.eq_of_testBit_eq fun i => ?_
  rcases Nat.lt_or_ge i 64 with hi | hi
  · rw [Bool.eq_iff_iff, orb_bit]
    have e := has_in (s := s) hk ((in_ s n).top - (i : Int))
    have e1 : has (in_ s n) ((in_ s n).top - (i : Int)) = (in_ s n).bits.testBit i := by
      unfold has
      rw [show (in_ s n).top - ((in_ s n).top - (i : Int)) = (i : Int) by omega, Int.toNat_natCast, decide_eq_true (show (0 : Int) ≤ (i : Int) by omega), decide_eq_true (show (i : Int) < 64 by omega)]
      rfl
    rw [e1] at e
    rw [e]
    simp only [Bool.or_eq_true, decide_eq_true_eq, Bool.and_eq_true, Nat.zero_testBit, Bool.false_eq_true, false_or]
    constructor
    · rintro (h1 | ⟨h1, h2⟩)
      · exact ⟨n, by simp, by omega, by omega⟩
      · exact ⟨_, List.mem_cons_of_mem _ (mem_list.2 h1), by omega, by omega⟩
    · rintro ⟨x, hx, h1, h2⟩
      have h3 := hm x hx
      have h4 : (in_ s n).top - (i : Int) = x := by omega
      rw [h4]
      rcases List.mem_cons.1 hx with rfl | hx
      · exact .inl rfl
      · exact .inr ⟨mem_list.1 hx, by omega⟩
  · rw [small_bit (in_lt hb hk) hi, small_bit (orb_lt _ _ _ hm (by decide)) hi]
/-- Right, by the list. -/
def rightR (s : W) : Bool := decide (0 ≤ s.top) && (decide (s.top ≤ 4611686018427387904) && (if s.top = 0 then decide ((list s).length = 0) else decide (0 < (list s).length) && (decide ((list s).getD 0 0 = s.top) && decide (1 ≤ (list s).getD ((list s).length - 1) 0))))
theorem filt_first {p : Nat → Bool} : ∀ {n : Nat}, p 0 = true → 0 < n → ((List.range n).filter p).getD 0 0 = 0 ∧ 0 < ((List.range n).filter p).length
  | n + 1, h, _ => by
    rw [List.range_succ_eq_map, List.filter_cons, if_pos h]
    simp
theorem filt_last {p : Nat → Bool} : ∀ (n : Nat), 0 < ((List.range n).filter p).length → (∀ k, k < n → p k = true → k ≤ ((List.range n).filter p).getD (((List.range n).filter p).length - 1) 0) ∧ p (((List.range n).filter p).getD (((List.range n).filter p).length - 1) 0) = true ∧ ((List.range n).filter p).getD (((List.range n).filter p).length - 1) 0 < n
  | 0, h => by simp at h
  | n + 1, h => by
    rw [List.range_succ, List.filter_append] at h ⊢
    have e : List.filter p [n] = if p n then [n] else [] := by rw [List.filter_cons]; rfl
    rw [e] at h ⊢
    cases hp : p n with
    | true =>
      simp only [if_true, List.length_append, List.length_cons, List.length_nil]
      have e2 : (List.filter p (List.range n) ++ [n]).getD ((List.filter p (List.range n)).length + (0 + 1) - 1) 0 = n := by simp
      rw [e2]
      exact ⟨fun k hk _ => by omega, hp, by omega⟩
    | false =>
      rw [hp] at h
      simp only [Bool.false_eq_true, if_false, List.append_nil] at h ⊢
      obtain ⟨h1, h2, h3⟩ := filt_last n h
      refine ⟨fun k hk hpk => ?_, h2, by omega⟩
      rcases Nat.lt_or_ge k n with hk2 | hk2
      · exact h1 k hk2 hpk
      · have : k = n := by omega
        subst this
        rw [hp] at hpk; cases hpk
theorem rightR_eq {s : W} (hb : s.bits < 18446744073709551616) : rightR s = right s := by
  rw [Bool.eq_iff_iff, right_iff]
  unfold rightR
  simp only [Bool.and_eq_true, decide_eq_true_eq]
  by_cases h0 : s.top = 0
  · simp only [h0, if_true, decide_eq_true_eq]
    constructor
    · rintro ⟨_, _, h3⟩
      refine ⟨by omega, by omega, .inl ⟨by first | exact h0 | trivial, ?_⟩⟩
      refine Nat.eq_of_testBit_eq fun i => ?_
      rw [Nat.zero_testBit]
      rcases Nat.lt_or_ge i 64 with hi | hi
      · cases hbb : s.bits.testBit i with
        | false => rfl
        | true =>
          have : s.top - (i : Int) ∈ list s := by
            unfold list
            exact List.mem_map.2 ⟨i, List.mem_filter.2 ⟨List.mem_range.2 hi, hbb⟩, rfl⟩
          rw [List.eq_nil_of_length_eq_zero h3] at this
          cases this
      · exact small_bit hb hi
    · rintro ⟨_, _, h3⟩
      rcases h3 with ⟨_, h3⟩ | ⟨h3, _⟩
      · refine ⟨by omega, by omega, ?_⟩
        unfold list
        rw [h3]
        simp [Nat.zero_testBit]
      · exact absurd rfl h3
  · simp only [h0, if_false, Bool.and_eq_true, decide_eq_true_eq]
    have hg : ∀ j, j < ((List.range 64).filter fun k => s.bits.testBit k).length → (list s).getD j 0 = s.top - (((((List.range 64).filter fun k => s.bits.testBit k).getD j 0 : Nat)) : Int) := by
      intro j hj
      unfold list
      rw [List.getD_eq_getElem?_getD, List.getD_eq_getElem?_getD, List.getElem?_map, List.getElem?_eq_getElem hj]
      rfl
    have hl : (list s).length = ((List.range 64).filter fun k => s.bits.testBit k).length := by unfold list; rw [List.length_map]
    rw [hl]
    constructor
    · rintro ⟨h1, h2, h3, h4, h5⟩
      rw [hg _ h3] at h4
      rw [hg _ (by omega)] at h5
      obtain ⟨g1, g2, g3⟩ := filt_last 64 h3
      refine ⟨h1, h2, .inr ⟨by first | exact h0 | trivial, ?_, fun k hk hkb => ?_⟩⟩
      · have e : ((List.range 64).filter fun k => s.bits.testBit k).getD 0 0 = 0 := by omega
        have hm : ((List.range 64).filter fun k => s.bits.testBit k).getD 0 0 ∈ (List.range 64).filter fun k => s.bits.testBit k := by
          rw [List.getD_eq_getElem?_getD, List.getElem?_eq_getElem h3]
          exact List.getElem_mem h3
        rw [e] at hm
        exact (List.mem_filter.1 hm).2
      · have := g1 k hk hkb
        omega
    · rintro ⟨h1, h2, h3⟩
      rcases h3 with ⟨h3, _⟩ | ⟨_, h3, h4⟩
      · exact absurd h3 (by first | exact h0 | simp)
      · obtain ⟨f1, f2⟩ := filt_first (p := fun k => s.bits.testBit k) (n := 64) h3 (by decide)
        obtain ⟨g1, g2, g3⟩ := filt_last 64 f2
        refine ⟨h1, h2, f2, ?_, ?_⟩
        · rw [hg _ f2, f1]; omega
        · rw [hg _ (by omega)]
          have := h4 _ g3 g2
          omega
end Win
end Go.Proofs.YteggdfkmncikpaaDoor
