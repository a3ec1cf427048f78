/- Plain: shifts of 64 bits. Written by tools/gen_win.py. -/
import Derived.Test.YteggdfkmncikpaaDoorWinArg
import Derived.Test.YteggdfkmncikpaaDoorWinRef
import Derived.Deep.Cut
import Derived.Deep.LoopGhost
import Derived.Deep.RegionLaw
import Derived.Deep.RegionHeld3
import Derived.IntWalk
import Derived.Lib.SmallJoins
namespace Go.Proofs.YteggdfkmncikpaaDoor
open Go.RowKit Sha Six Apd Cut Err
set_option linter.unusedVariables false
set_option linter.unusedSimpArgs false
namespace Win
theorem wu64 (n : Int) : IntKind.u64.wrap n = n % 18446744073709551616 := by simp [IntKind.wrap, IntKind.bits, IntKind.signed]
theorem wi64 (n : Int) (h0 : 0 ≤ n) (h1 : n < 18446744073709551616) : IntKind.u64.wrap n = n := by rw [wu64]; omega
theorem and_one (b : Nat) (hb : b < 18446744073709551616) : bits .and .u64 (b : Int) 1 = ((b % 2 : Nat) : Int) := by
  have h := (bits_nat .u64 64 (Nat.le_refl _) (fun n h0 h1 => wi64 n h0 h1) b 1 (by exact hb) (by decide)).1
  rw [show ((1 : Nat) : Int) = 1 from rfl] at h
  rw [h, show (1 : Nat) = 2 ^ 1 - 1 from rfl, Nat.and_two_pow_sub_one_eq_mod]
theorem or_nat (a b : Nat) (ha : a < 18446744073709551616) (hb : b < 18446744073709551616) : bits .or .u64 (a : Int) (b : Int) = ((a ||| b : Nat) : Int) :=
  (bits_nat .u64 64 (Nat.le_refl _) (fun n h0 h1 => wi64 n h0 h1) a b ha hb).2
theorem or_one (a : Nat) (ha : a < 18446744073709551616) : bits .or .u64 (a : Int) 1 = ((a ||| 1 : Nat) : Int) := or_nat a 1 ha (by decide)
theorem shr_nat (b k : Nat) : ((b : Int) / 2 ^ k) = ((b >>> k : Nat) : Int) := by
  rw [Nat.shiftRight_eq_div_pow]; simp
/-- A count that may be great. -/
theorem shr_min (b k : Nat) (hb : b < 18446744073709551616) : b >>> min k 64 = b >>> k := by
  rcases Nat.le_total k 64 with h | h
  · rw [Nat.min_eq_left h]
  · rw [Nat.min_eq_right h, Nat.shiftRight_eq_div_pow, Nat.shiftRight_eq_div_pow, Nat.div_eq_of_lt (by exact hb), Nat.div_eq_of_lt (Nat.lt_of_lt_of_le hb (Nat.pow_le_pow_right (n := 2) (by decide) h))]
theorem shr_lt (b k : Nat) (hb : b < 18446744073709551616) : b >>> k < 18446744073709551616 := Nat.lt_of_le_of_lt (Nat.shiftRight_le b k) hb
theorem bit_mod (b k : Nat) : b >>> k % 2 = if b.testBit k then 1 else 0 := by
  rw [Nat.shiftRight_eq_div_pow, Nat.testBit_eq_decide_div_mod_eq]
  have := Nat.mod_two_eq_zero_or_one (b / 2 ^ k)
  by_cases h : b / 2 ^ k % 2 = 1
  · simp [h]
  · simp [h]; omega
theorem shl_wrap (b k : Nat) : IntKind.u64.wrap ((b : Int) * 2 ^ min k 64) = ((b <<< k % 18446744073709551616 : Nat) : Int) := by
  rw [wu64, Nat.shiftLeft_eq]
  have e : ((b : Int) * 2 ^ min k 64) = ((b * 2 ^ min k 64 : Nat) : Int) := by simp
  rw [e]
  rcases Nat.le_total k 64 with h | h
  · rw [Nat.min_eq_left h]; omega
  · rw [Nat.min_eq_right h]
    have h1 : b * 2 ^ 64 % 18446744073709551616 = 0 := Nat.mul_mod_left _ _
    have h2 : b * 2 ^ k % 18446744073709551616 = 0 := by
      rw [show k = (k - 64) + 64 by omega, Nat.pow_add, ← Nat.mul_assoc]
      exact Nat.mul_mod_left _ _
    omega
theorem one_shl (k : Nat) (h : k < 64) : IntKind.u64.wrap (2 ^ min k 64) = ((1 <<< k : Nat) : Int) := by
  have := shl_wrap 1 k
  rw [show (((1 : Nat) : Int) * 2 ^ min k 64) = 2 ^ min k 64 by simp] at this
  rw [this, Nat.mod_eq_of_lt (shift_lt h)]
/-- No bit of a number below 1. -/
theorem shr_zero {s : W} (hb : s.bits < 18446744073709551616) (ht : 0 < s.top) : (s.bits >>> s.top.toNat = 0) ↔ ∀ k, k < 64 → s.bits.testBit k = true → (k : Int) < s.top := by
  constructor
  · intro h k hk hkb
    refine Classical.byContradiction fun hn => ?_
    have h1 := congrArg (fun x => x.testBit (k - s.top.toNat)) h
    simp only [Nat.testBit_shiftRight, Nat.zero_testBit] at h1
    rw [show s.top.toNat + (k - s.top.toNat) = k by omega, hkb] at h1
    cases h1
  · intro h
    refine Nat.eq_of_testBit_eq fun i => ?_
    rw [Nat.testBit_shiftRight, Nat.zero_testBit]
    rcases Nat.lt_or_ge (s.top.toNat + i) 64 with hi | hi
    · cases hbb : s.bits.testBit (s.top.toNat + i) with
      | false => rfl
      | true => have := h _ hi hbb; omega
    · exact small_bit hb hi
theorem orb_step (T : Int) (q : List Int) (k : Nat) (h : k < q.length) : orb T (q.take (k + 1)) 0 = if T - q.getD k 0 < 64 then orb T (q.take k) 0 ||| 1 <<< (T - q.getD k 0).toNat else orb T (q.take k) 0 := by
  rw [List.take_add_one, List.getElem?_eq_getElem h, orb_app, List.getD_eq_getElem?_getD, List.getElem?_eq_getElem h]
  rfl
end Win
end Go.Proofs.YteggdfkmncikpaaDoor
