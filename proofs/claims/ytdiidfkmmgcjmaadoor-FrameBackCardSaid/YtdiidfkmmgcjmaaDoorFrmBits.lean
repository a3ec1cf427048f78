/- Plain: a number's bits joined. Written by tools/gen_frm_code.py. -/
import Derived.Test.YtdiidfkmmgcjmaaDoorFrmSpec
import Derived.Deep.Cut
import Derived.Deep.LoopGhost
import Derived.Deep.RegionLaw
import Derived.Deep.RegionHeld3
import Derived.IntWalk
import Derived.Lib.SmallJoins
namespace Go.Proofs.YtdiidfkmmgcjmaaDoor
open Go.RowKit
set_option linter.unusedVariables false
set_option linter.unusedSimpArgs false
namespace Frm
theorem wrap_of (z : Int) : BitVec.ofInt 64 (wrap64 z) = BitVec.ofInt 64 z := by
  refine BitVec.eq_of_toInt_eq ?_
  rw [BitVec.toInt_ofInt, BitVec.toInt_ofInt]
  refine Int.bmod_eq_bmod_iff_bmod_sub_eq_zero.2 ?_
  have h : ∃ k : Int, wrap64 z - z = 18446744073709551616 * k := ⟨-((z + 9223372036854775808) / 18446744073709551616), by unfold wrap64; omega⟩
  obtain ⟨k, h⟩ := h
  rw [h]
  simp [Int.bmod]
theorem wrap_nat (a : Nat) (h : a < 18446744073709551616) : IntKind.i64.wrap ((a : Nat) : Int) = wrap64 (a : Int) := by
  rw [IntKind.wrap_i64, wrap64]
theorem or_wrap (n x : Nat) (hx : x < 256) (hn : n < 72057594037927936) : bits .or .i64 (wrap64 ((n : Int) * 256)) (x : Int) = wrap64 ((n * 256 + x : Nat) : Int) := by
  have e1 : BitVec.ofInt 64 (wrap64 ((n : Int) * 256)) = BitVec.ofNat 64 (n * 256) := by
    rw [wrap_of]
    rw [show ((n : Int) * 256) = ((n * 256 : Nat) : Int) by simp, BitVec.ofInt_natCast]
  have e2 : BitVec.ofInt 64 (x : Int) = BitVec.ofNat 64 x := BitVec.ofInt_natCast 64 x
  have h1 : n * 256 % 2 ^ 64 = n * 256 := Nat.mod_eq_of_lt (by omega)
  have h2 : x % 2 ^ 64 = x := Nat.mod_eq_of_lt (by omega)
  have h3 : n * 256 ||| x = n * 256 + x := by
    have := Nat.two_pow_add_eq_or_of_lt (i := 8) hx n
    rw [show (2 : Nat) ^ 8 = 256 from rfl, Nat.mul_comm] at this
    exact this.symm
  show IntKind.i64.wrap (((BitVec.ofInt 64 (wrap64 ((n : Int) * 256))) ||| (BitVec.ofInt 64 (x : Int))).toNat : Int) = _
  rw [e1, e2, BitVec.toNat_or, BitVec.toNat_ofNat, BitVec.toNat_ofNat, h1, h2, h3]
  exact wrap_nat _ (by omega)
theorem num_snoc (l : List Nat) (x : Nat) : num (l ++ [x]) = num l * 256 + x := by simp [num]
theorem num_step {l : List Nat} {k : Nat} (hk : k < l.length) : num (l.take (k + 1)) = num (l.take k) * 256 + l.getD k 0 := by
  rw [List.take_add_one, List.getElem?_eq_getElem hk, List.getD_eq_getElem?_getD, List.getElem?_eq_getElem hk]
  exact num_snoc _ _
theorem num_pow {l : List Nat} (h8 : ∀ x ∈ l, x < 256) : ∀ k, k ≤ l.length → num (l.take k) < 256 ^ k
  | 0, _ => by simp [num]
  | k + 1, hk => by
    have ih := num_pow h8 k (by omega)
    rw [num_step (by omega), Nat.pow_succ]
    have hx : l.getD k 0 < 256 := by
      rw [List.getD_eq_getElem?_getD, List.getElem?_eq_getElem (by omega)]
      exact h8 _ (List.getElem_mem _)
    omega
/-- The number of eight bytes, as the code tells whether it may be. -/
def seqv (l : List Nat) : Int := wrap64 (num l : Nat)
theorem seqv_ok {l : List Nat} (h8 : ∀ x ∈ l, x < 256) (hl : l.length = 8) : (decide (1 ≤ seqv l) && decide (seqv l ≤ 4611686018427387904)) = true ↔ ¬ (num l < 1 ∨ 4611686018427387904 < num l) := by
  have h := num_pow h8 8 (by omega)
  rw [List.take_of_length_le (by omega), show (256 : Nat) ^ 8 = 18446744073709551616 by decide] at h
  unfold seqv wrap64
  simp only [Bool.and_eq_true, decide_eq_true_eq]
  omega
theorem seqv_val {l : List Nat} (h : num l ≤ 4611686018427387904) : seqv l = (num l : Int) := by unfold seqv; rw [IntWalk.wrap64_in]; omega
end Frm
end Go.Proofs.YtdiidfkmmgcjmaaDoor
