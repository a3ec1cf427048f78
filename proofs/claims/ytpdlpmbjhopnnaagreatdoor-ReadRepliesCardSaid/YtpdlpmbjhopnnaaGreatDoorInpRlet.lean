/- Letter of the document. -/
import Derived.Test.YtpdlpmbjhopnnaaGreatDoorBunInp
import Derived.Test.YtpdlpmbjhopnnaaGreatDoorBunRlg
namespace Go.Proofs.YtpdlpmbjhopnnaaGreatDoor
open Go.RowKit Sha Cut Err Six Att
namespace Inp
theorem rletter_any (b : Nat) (w : World) (hb : b < 256) :
    Calls Tryz.prog 38 #[.int .u8 (b : Int)] w fun e w' => e = .returned (.bool (letter b)) ∧ w = w' := by
  have HC := Lib.hid fun W => rchar_any b W hb
  have HL := Lib.hid (show letter b = (b != 0 && char b) from rfl)
  generalize letter b = res at HL ⊢
  by_cases h0 : b = 0
  · subst h0
    clear hb HC
    go_enter Tryz.func38, Tryz.ntmps38
    go_wp2_with fail
    go_ret
    exact ⟨by rw [HL.out]; rfl, rfl⟩
  · have e1 : ((b : Int) != 0) = true := by simpa using h0
    have HL := Lib.hid (show res = char b by rw [HL.out]; simp [h0])
    generalize char b = r at *
    clear h0 hb
    go_enter Tryz.func38, Tryz.ntmps38
    go_wp2_with fail
    with_reducible refine (HC.out _).mono ?_
    rintro e w1 ⟨rfl, rfl⟩
    go_wp2_with fail
    go_ret
    exact ⟨by rw [HL.out]; rfl, rfl⟩
end Inp
end Go.Proofs.YtpdlpmbjhopnnaaGreatDoor
