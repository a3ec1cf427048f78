/- Plain: cells, screens, and places on them around their ends. -/
import Derived.Test.YtoacookbfpcncaaBunPlain
namespace Go.Proofs.Ytoacookbfpcncaa
namespace Grd
/-- A cell: whether a field begins, the attribute, the character. -/
structure C where
  f : Bool
  p : Bool
  n : Bool
  s : Int
  m : Bool
  c : Nat
deriving DecidableEq
def noC : C := ⟨false, false, false, 0, false, 0⟩
/-- A cell is right. -/
def cright (o : C) : Bool := if o.f then o.c == 0 && (decide (0 ≤ o.s) && decide (o.s ≤ 3)) else (o.p == false && (o.n == false && (o.s == 0 && o.m == false))) && Att.char o.c
/-- A screen. -/
structure S where
  rows : Int
  cols : Int
  cs : List C
  cur : Int
  lk : Bool
  ins : Bool
deriving DecidableEq
def noS : S := ⟨0, 0, [], 0, false, false⟩
def sized (r c : Int) : Bool := decide (1 ≤ r) && (decide (1 ≤ c) && decide (r * c ≤ 16383))
def sright (s : S) : Bool := sized s.rows s.cols && (decide ((s.cs.length : Int) = s.rows * s.cols) && (decide (0 ≤ s.cur) && (decide (s.cur < (s.cs.length : Int)) && s.cs.all cright)))
def few (s : S) : Bool := decide (s.cs.length ≤ 200) && sright s
/-- The n-th cell behind a, of z. -/
def on (z : Nat) (a n : Int) : Nat := ((a + n) % (z : Int)).toNat
/-- How many cells there are from a on, up to b. -/
def spanLen (z : Nat) (a b : Int) : Nat := if on z b (-a) = 0 then z else on z b (-a)
def span (z : Nat) (a b : Int) : List Nat := (List.range (spanLen z a b)).map fun (i : Nat) => on z a (i : Int)
/-- The cells that are right, one behind the other, are sized. -/
theorem sized_le {r c : Int} (h : sized r c = true) : 1 ≤ r ∧ 1 ≤ c ∧ r * c ≤ 16383 ∧ r ≤ 16383 ∧ c ≤ 16383 := by
  simp only [sized, Bool.and_eq_true, decide_eq_true_eq] at h
  obtain ⟨h1, h2, h3⟩ := h
  refine ⟨h1, h2, h3, ?_, ?_⟩
  · have : r * 1 ≤ r * c := Int.mul_le_mul_of_nonneg_left h2 (by omega)
    omega
  · have : 1 * c ≤ r * c := Int.mul_le_mul_of_nonneg_right h1 (by omega)
    omega
theorem sright_parts {s : S} (h : sright s = true) : sized s.rows s.cols = true ∧ (s.cs.length : Int) = s.rows * s.cols ∧ 0 ≤ s.cur ∧ s.cur < (s.cs.length : Int) ∧ ∀ o ∈ s.cs, cright o = true := by
  simp only [sright, Bool.and_eq_true, decide_eq_true_eq, List.all_eq_true] at h
  exact ⟨h.1, h.2.1, h.2.2.1, h.2.2.2.1, h.2.2.2.2⟩
theorem few_parts {s : S} (h : few s = true) : s.cs.length ≤ 200 ∧ 1 ≤ s.cs.length ∧ sright s = true := by
  simp only [few, Bool.and_eq_true, decide_eq_true_eq] at h
  obtain ⟨h1, h2⟩ := h
  obtain ⟨_, _, h3, h4, _⟩ := sright_parts h2
  exact ⟨h1, by omega, h2⟩
theorem on_lt {z : Nat} (hz : 0 < z) (a n : Int) : on z a n < z := by
  have h1 := Int.emod_nonneg (a + n) (b := (z : Int)) (by omega)
  have h2 := Int.emod_lt_of_pos (a + n) (b := (z : Int)) (by omega)
  unfold on; omega
theorem on_cast {z : Nat} (hz : 0 < z) (a n : Int) : ((on z a n : Nat) : Int) = (a + n) % (z : Int) := by
  have h1 := Int.emod_nonneg (a + n) (b := (z : Int)) (by omega)
  unfold on; omega
theorem on_on {z : Nat} (hz : 0 < z) (a n m : Int) : on z ((on z a n : Nat) : Int) m = on z a (n + m) := by
  unfold on
  rw [show ((((a + n) % (z : Int)).toNat : Nat) : Int) = (a + n) % (z : Int) from on_cast hz a n, Int.emod_add_emod, Int.add_assoc]
theorem on_zero {z a : Nat} (ha : a < z) : on z (a : Int) 0 = a := by
  unfold on
  rw [Int.add_zero, Int.emod_eq_of_lt (by omega) (by omega)]; omega
theorem on_all {z a : Nat} (ha : a < z) : on z (a : Int) (z : Int) = a := by
  unfold on
  rw [Int.add_emod_right, Int.emod_eq_of_lt (by omega) (by omega)]; omega
theorem on_nat {z : Nat} (a i : Nat) : on z (a : Int) (i : Int) = (a + i) % z := by
  unfold on
  rw [show ((a : Int) + (i : Int)) % (z : Int) = (((a + i) % z : Nat) : Int) by simp]; omega
theorem on_back {z a : Nat} (ha : a < z) (k : Int) : on z ((on z a k : Nat) : Int) (-k) = a := by
  rw [on_on (by omega), show k + -k = 0 by omega, on_zero ha]
theorem tmod_emod (z : Nat) (x : Int) : x.tmod z % z = x % z := by
  rw [Int.tmod_def, show x - z * x.tdiv z = x + z * (-(x.tdiv z)) by rw [Int.mul_neg]; omega, Int.add_mul_emod_self_left]
/-- The numbers' own way to a cell (Go's %). -/
theorem on_go {z : Nat} (hz : 0 < z) (a n : Int) : (a.tmod z + n.tmod z + 2 * z).tmod z = ((on z a n : Nat) : Int) := by
  have h1 : -(z : Int) < a.tmod z := by
    have := Int.lt_tmod_of_pos a (b := (z : Int)) (by omega); omega
  have h2 : -(z : Int) < n.tmod z := by
    have := Int.lt_tmod_of_pos n (b := (z : Int)) (by omega); omega
  rw [on_cast hz, Int.tmod_eq_emod_of_nonneg (by omega)]
  have e : ∀ x : Int, x.tmod z % z = x % z := fun x => tmod_emod z x
  rw [show (2 : Int) * z = z + z by omega, ← Int.add_assoc, Int.add_emod_right, Int.add_emod_right, Int.add_emod, e, e, ← Int.add_emod]
/-- Bounds of what stands in between. -/
theorem on_room {z : Nat} (hz : 0 < z) (hz2 : z < 1000000000) (a n : Int) : -1000000000 < a.tmod z ∧ a.tmod z < 1000000000 ∧ -1000000000 < n.tmod z ∧ n.tmod z < 1000000000 ∧ 0 < a.tmod z + n.tmod z + 2 * z := by
  have h1 := Int.lt_tmod_of_pos a (b := (z : Int)) (by omega)
  have h2 := Int.lt_tmod_of_pos n (b := (z : Int)) (by omega)
  have h3 := Int.tmod_lt_of_pos a (b := (z : Int)) (by omega)
  have h4 := Int.tmod_lt_of_pos n (b := (z : Int)) (by omega)
  omega
theorem spanLen_pos {z : Nat} (hz : 0 < z) (a b : Int) : 0 < spanLen z a b ∧ spanLen z a b ≤ z := by
  unfold spanLen
  have := on_lt hz b (-a)
  split <;> omega
theorem span_length (z : Nat) (a b : Int) : (span z a b).length = spanLen z a b := by simp [span]
theorem span_getD {z : Nat} {a b : Int} {i : Nat} (hi : i < spanLen z a b) : (span z a b).getD i 0 = on z a (i : Int) := by
  simp [span, List.getD_eq_getElem?_getD, hi]
/-- A span has each cell once at most. -/
theorem on_inj {z a i j : Nat} (hi : i < z) (hj : j < z) (h : on z (a : Int) (i : Int) = on z (a : Int) (j : Int)) : i = j := by
  rw [on_nat, on_nat] at h
  have h1 : on z ((((a + i) % z : Nat)) : Int) (-(a : Int)) = on z ((((a + j) % z : Nat)) : Int) (-(a : Int)) := by rw [h]
  have e : ∀ k, k < z → on z ((((a + k) % z : Nat)) : Int) (-(a : Int)) = k := fun k hk => by
    rw [← on_nat, on_on (by omega)]
    unfold on
    rw [show (a : Int) + ((k : Int) + -(a : Int)) = k by omega, Int.emod_eq_of_lt (by omega) (by omega)]; omega
  rw [e i hi, e j hj] at h1
  exact h1
/-- Where a span ends. -/
theorem span_end {z a b k : Nat} (ha : a < z) (hb : b < z) (h0 : 1 ≤ k) (hk : k ≤ spanLen z a b) : (on z (a : Int) (k : Int) = b ∨ on z (a : Int) (k : Int) = a) ↔ k = spanLen z a b := by
  have hz : 0 < z := by omega
  have hl : on z (b : Int) (-(a : Int)) = if a ≤ b then b - a else z + b - a := by
    unfold on
    split
    · rw [Int.emod_eq_of_lt (by omega) (by omega)]; omega
    · rw [← Int.add_emod_right, Int.emod_eq_of_lt (by omega) (by omega)]; omega
  have hs : spanLen z a b = if a < b then b - a else z + b - a := by
    unfold spanLen; rw [hl]
    by_cases h1 : a < b
    · simp only [h1, if_true]; split <;> simp_all <;> omega
    · by_cases h2 : a = b
      · subst h2; simp
      · rw [if_neg (show ¬ a ≤ b by omega), if_neg (by omega), if_neg h1]
  have he : on z (a : Int) (k : Int) = if a + k < z then a + k else a + k - z := by
    rw [on_nat]
    have hkz : k ≤ z := Nat.le_trans hk (spanLen_pos hz _ _).2
    split
    · exact Nat.mod_eq_of_lt (by assumption)
    · by_cases h2 : a + k - z < z
      · rw [Nat.mod_eq_sub_mod (by omega), Nat.mod_eq_of_lt h2]
      · omega
  rw [he]
  rw [hs] at hk ⊢
  split <;> split <;> (try split at hk) <;> omega
end Grd
end Go.Proofs.Ytoacookbfpcncaa
