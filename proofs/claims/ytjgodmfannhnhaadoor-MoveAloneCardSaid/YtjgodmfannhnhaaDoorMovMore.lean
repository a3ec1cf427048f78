/- Plain: moves to and fro, and around. -/
import Derived.Test.YtjgodmfannhnhaaDoorMovSpec
namespace Go.Proofs.YtjgodmfannhnhaaDoor
set_option linter.unusedVariables false
namespace Mov
open Grd Fld
theorem on_negall {z a : Nat} (ha : a < z) : on z (a : Int) (0 + -((z : Nat) : Int)) = a := by
  unfold on
  rw [show (a : Int) + (0 + -(z : Int)) = (a : Int) - (z : Int) by omega, Int.sub_emod_right, Int.emod_eq_of_lt (by omega) (by omega)]; omega
theorem on_injn {z a i j : Nat} (ha : a < z) (hi : i < z) (hj : j < z) (h : on z (a : Int) (-(i : Int)) = on z (a : Int) (-(j : Int))) : i = j := by
  have e1 := on_self ha i
  have e2 := on_self ha j
  rw [← h] at e2
  exact on_inj hi hj (e1.trans e2.symm)
theorem right_lk {s : S} {b : Bool} (h : sright s = true) {c : Int} (h0 : 0 ≤ c) (h1 : c < (s.cs.length : Int)) : sright ⟨s.rows, s.cols, s.cs, c, b, s.ins⟩ = true := right_to h h0 h1
end Mov
end Go.Proofs.YtjgodmfannhnhaaDoor
