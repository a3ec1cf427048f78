/- Package edit's leafs: Digit, suitsNumeric, Deny, Modify; the searches through a list of numbers. -/
import Derived.Test.YtaopkelobglnbaaGreatDoorEdtFirst
import Derived.Test.YtaopkelobglnbaaGreatDoorGrdInts
import Derived.Test.YtaopkelobglnbaaGreatDoorScrBox
import Derived.Test.YtaopkelobglnbaaGreatDoorScrGave
import Derived.Test.YtaopkelobglnbaaGreatDoorBunFlc
import Derived.Test.YtaopkelobglnbaaGreatDoorBunFlc
import Derived.Test.YtaopkelobglnbaaGreatDoorBunFlc
import Derived.Test.YtaopkelobglnbaaGreatDoorBunLow
import Derived.Deep.Cut
import Derived.Deep.RegionHeld3
namespace Go.Proofs.YtaopkelobglnbaaGreatDoor
open Go.RowKit Sha Six Apd Cut Err Att Grd Fld Scr
set_option linter.unusedVariables false
namespace Edt
set_option maxRecDepth 100000 in
set_option maxHeartbeats 8000000 in
theorem index_any (v : Value) (xs : List Nat) (a j : Nat) (w : World) (h : IntsIn w v xs) (hl : xs.length < 100000000) (hj : j < xs.length) (hja : xs.getD j 0 = a) (hn : ∀ i, i < j → xs.getD i 0 ≠ a) :
    Calls Tryz.prog 29 #[v, .int .i64 (a : Int)] w fun e w' => e = .returned (.int .i64 (j : Int)) ∧ w = w' := by
  have H1 := Lib.hid h
  have HL := Lib.hid hl
  have HJ := Lib.hid hj
  have HA := Lib.hid hja
  have HN := Lib.hid hn
  obtain ⟨a1, k1, rfl⟩ := h.form
  clear h hl hj hja hn
  go_enter Tryz.func29, Tryz.ntmps29
  go_wp2_with fail
  go_loopg [8] (xs.length + 1) (fun m i wr => ∃ k : Nat, k ≤ j ∧ m = xs.length + 1 - k ∧ i = .int .i64 k ∧ w = wr)
  case atStart => exact ⟨0, Nat.zero_le _, rfl, rfl, rfl⟩
  case round =>
    obtain ⟨k, hk, rfl, rfl, rfl⟩ := hrel
    have hkl : k < xs.length := by have := HJ.out; omega
    have ew : IntKind.i64.wrap ((k : Int) + 1) = (k : Int) + 1 := by
      have := HL.out
      rw [IntWalk.i64_in] <;> omega
    have hlt : (k : Int) < (xs.length : Int) := by omega
    obtain ⟨g1, o1, rfl, d1⟩ := H1.out.cell hkl
    have hi0 : (0 : Int) ≤ (k : Int) := by omega
    by_cases he : k = j
    · have hx : ((a : Int) == ((xs.getD k 0 : Nat) : Int)) = true := by rw [he, HA.out]; simp
      generalize xs.getD k 0 = x at *
      replace he := Lib.hid he
      go_wp2_with fail
      go_ret
      exact ⟨by rw [← he.out]; rfl, rfl⟩
    · have hx : ((a : Int) == ((xs.getD k 0 : Nat) : Int)) = false := by have := HN.out k (by omega); rw [Bool.eq_false_iff]; intro h0; rw [beq_iff_eq] at h0; omega
      generalize xs.getD k 0 = x at *
      have hk1 := Lib.hid (show k + 1 ≤ j by omega)
      clear he hk
      go_wp2_with fail
      go_roundg (xs.length + 1 - (k + 1))
      case measure => omega
      case rel => exact ⟨k + 1, hk1.out, rfl, by first | rfl | go_num, rfl⟩
end Edt
end Go.Proofs.YtaopkelobglnbaaGreatDoor
