/- The functions of package attr return what the plain functions say. -/
import Derived.Test.YtllpmgddcpgegaaDoorSixGet
import Derived.Test.YtllpmgddcpgegaaDoorAttrChar
import Derived.Test.YtllpmgddcpgegaaDoorKeep
import Derived.Laws.ResultCell
import Derived.OwnWalk
import Derived.Laws.Rows
namespace Go.Proofs.YtllpmgddcpgegaaDoor
open Go.RowKit Six Err
namespace Att
theorem puti (n : Int) (w : World) (h0 : 0 ≤ n) (h : n < 64) :
    Calls Tryd.prog 47 #[.int .i64 n] w fun e w' => e = .returned (.tuple #[.int .u8 (put n.toNat : Nat), .nilIface]) ∧ ∃ m, w' = w.drewN m := by
  obtain ⟨k, rfl⟩ := Int.eq_ofNat_of_zero_le h0
  rw [Int.toNat_natCast]
  exact put_any k w (by omega)
theorem part_yes (n : Int) (w : World) :
    Calls Tryd.prog 46 #[.bool true, .int .i64 n] w fun e w' => e = .returned (.int .i64 n) ∧ w = w' := by
  go_enter Tryd.func46, Tryd.ntmps46
  go_wp2
  go_ret
  exact ⟨rfl, rfl⟩
theorem part_no (n : Int) (w : World) :
    Calls Tryd.prog 46 #[.bool false, .int .i64 n] w fun e w' => e = .returned (.int .i64 0) ∧ w = w' := by
  go_enter Tryd.func46, Tryd.ntmps46
  go_wp2
  go_ret
  exact ⟨rfl, rfl⟩
theorem ret_put8 {a b : Nat} (h : a = b) : Ending.returned (.tuple #[.int .u8 (put a : Nat), .nilIface]) = .returned (.tuple #[.int .u8 (put b : Nat), .nilIface]) := by rw [h]
set_option maxHeartbeats 4000000 in
theorem put_ok (p n m : Bool) (s : Nat) (w : World) (hs : s < 4) :
    Calls Tryd.prog 25 #[.agg #[.bool p, .bool n, .int .i64 (s : Int), .bool m]] w fun e w' => e = .returned (.tuple #[.int .u8 (put (num p n m s) : Nat), .nilIface]) ∧ Below w.heap.size w w' := by
  cases p <;> cases n <;> cases m
  all_goals
    go_enter Tryd.func25, Tryd.ntmps25
    go_wp2
    go_quiet (first | (go_at_call 46; with_reducible exact quiet_same (part_yes _ _)) | (go_at_call 46; with_reducible exact quiet_same (part_no _ _)))
    go_wp2_with fail
    refine (puti _ _ (by omega) (by omega)).mono ?_
    rintro e w1 ⟨rfl, k, rfl⟩
    go_wp2_with fail
    go_ret2
    exact ⟨ret_put8 (by unfold num bit; simp; omega), ((Below.refl _ _).alloc (Nat.le_refl _) _).trans (below_drewN _ _ _)⟩
theorem put_bad (p n m : Bool) (s : Int) (w : World) (hs : s < 0 ∨ 4 ≤ s) :
    Calls Tryd.prog 25 #[.agg #[.bool p, .bool n, .int .i64 s, .bool m]] w fun e w' => e = .returned (.tuple #[.int .u8 0, .iface 57 (.int .i64 1)]) ∧ Below w.heap.size w w' := by
  rcases hs with h | h
  · go_enter Tryd.func25, Tryd.ntmps25
    go_wp2
    go_ret2
    exact ⟨rfl, (Below.refl _ _).alloc (Nat.le_refl _) _⟩
  · have h0 : ¬ s < 0 := by omega
    go_enter Tryd.func25, Tryd.ntmps25
    go_wp2
    go_ret2
    exact ⟨rfl, (Below.refl _ _).alloc (Nat.le_refl _) _⟩
theorem ret_p8 {a b : Nat} (h : a = b) : Ending.returned (.int .u8 (put a : Nat)) = .returned (.int .u8 (put b : Nat)) := by rw [h]
end Att
end Go.Proofs.YtllpmgddcpgegaaDoor
