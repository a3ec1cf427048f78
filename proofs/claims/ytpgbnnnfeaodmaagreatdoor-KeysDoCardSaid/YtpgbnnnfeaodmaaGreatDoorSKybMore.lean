/- Plain: what a key changes; what is refused; what asks. -/
import Derived.Test.YtpgbnnnfeaodmaaGreatDoorSKybSpec
namespace Go.Proofs.YtpgbnnnfeaodmaaGreatDoor
set_option linter.unusedVariables false
namespace Kyb
open Grd Fld Edt
theorem kdo_asks {s : S} {kind : Int} {c : Nat} (h : kind ≠ 17) : (kdo s kind c).2.1 = false := by
  rcases kinds kind with rfl | rfl | rfl | hm | hw | rfl | rfl | rfl | hn
  · rw [kdo_1]
  · rw [kdo_10]
  · rw [kdo_11]
  · rw [kdo_mv s c hm]
  · rw [kdo_wp s c hw]
  · rw [kdo_16]
  · rw [kdo_15]; split <;> rfl
  · exact absurd rfl h
  · rw [kdo_no s c hn]
end Kyb
end Go.Proofs.YtpgbnnnfeaodmaaGreatDoor
