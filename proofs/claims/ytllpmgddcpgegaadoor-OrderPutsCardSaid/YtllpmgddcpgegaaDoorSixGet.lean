/- Get of package six returns what the plain functions say. -/
import Derived.Test.YtllpmgddcpgegaaDoorSixLeaf
namespace Go.Proofs.YtllpmgddcpgegaaDoor
open Go.RowKit
namespace Six
theorem get_yes (b : Nat) (w : World) (hb : b < 256) (hg : isGraphic b = true) :
    Calls Tryd.prog 68 #[.int .u8 (b : Int)] w fun e w' => e = .returned (.tuple #[.int .i64 (b % 64 : Nat), .nilIface]) ∧ ∃ m, w' = w.drewN m := by
  have HP := put_any (b % 64) w (Nat.mod_lt _ (by decide))
  rw [put_of_graphic hg] at HP
  clear hg
  have HL := low_any b w hb
  generalize b % 64 = n at HP HL
  go_enter Tryd.func68, Tryd.ntmps68
  go_wp2_with (first | (go_at_call 71; refine HL.mono ?_; rintro e w' ⟨rfl, rfl⟩) | (go_at_call 47; refine HP.mono ?_; rintro e w' ⟨rfl, m, rfl⟩))
  go_ret2
  exact ⟨rfl, _, rfl⟩
theorem get_no (b : Nat) (w : World) (hb : b < 256) (hg : isGraphic b = false) :
    Calls Tryd.prog 68 #[.int .u8 (b : Int)] w fun e w' => e = .returned (.tuple #[.int .i64 0, .iface 57 (.int .i64 3)]) ∧ ∃ m, w' = w.drewN m := by
  have HP := put_any (b % 64) w (Nat.mod_lt _ (by decide))
  have hne := not_graphic hg (b % 64) (Nat.mod_lt _ (by decide))
  clear hg
  have HL := low_any b w hb
  generalize put (b % 64) = p at HP hne
  generalize b % 64 = n at HP HL
  have t1 : (((p : Nat) : Int) == (b : Int)) = false := by simp; omega
  have t2 : (((p : Nat) : Int) != (b : Int)) = true := by simp; omega
  go_enter Tryd.func68, Tryd.ntmps68
  go_wp2_with (first | (go_at_call 71; refine HL.mono ?_; rintro e w' ⟨rfl, rfl⟩) | (go_at_call 47; refine HP.mono ?_; rintro e w' ⟨rfl, m, rfl⟩))
  go_ret2
  exact ⟨rfl, _, rfl⟩
end Six
end Go.Proofs.YtllpmgddcpgegaaDoor
