/- The functions of package attr return what the plain functions say. -/
import Derived.Test.YteckncagccfioaaDoorSixGet
import Derived.Test.YteckncagccfioaaDoorAttrSpec
import Derived.Test.YteckncagccfioaaDoorKeep
import Derived.Laws.ResultCell
import Derived.OwnWalk
import Derived.Laws.Rows
namespace Go.Proofs.YteckncagccfioaaDoor
open Go.RowKit Six Err
namespace Att
theorem puti (n : Int) (w : World) (h0 : 0 ≤ n) (h : n < 64) :
    Calls Tryd.prog 22 #[.int .i64 n] w fun e w' => e = .returned (.tuple #[.int .u8 (put n.toNat : Nat), .nilIface]) ∧ ∃ m, w' = w.drewN m := by
  obtain ⟨k, rfl⟩ := Int.eq_ofNat_of_zero_le h0
  rw [Int.toNat_natCast]
  exact put_any k w (by omega)
theorem part_yes (n : Int) (w : World) :
    Calls Tryd.prog 21 #[.bool true, .int .i64 n] w fun e w' => e = .returned (.int .i64 n) ∧ w = w' := by
  go_enter Tryd.func21, Tryd.ntmps21
  go_wp2
  go_ret
  exact ⟨rfl, rfl⟩
theorem part_no (n : Int) (w : World) :
    Calls Tryd.prog 21 #[.bool false, .int .i64 n] w fun e w' => e = .returned (.int .i64 0) ∧ w = w' := by
  go_enter Tryd.func21, Tryd.ntmps21
  go_wp2
  go_ret
  exact ⟨rfl, rfl⟩
theorem ret_bool {a b : Bool} (h : a = b) : Ending.returned (.bool a) = .returned (.bool b) := by rw [h]
theorem ret_put8 {a b : Nat} (h : a = b) : Ending.returned (.tuple #[.int .u8 (put a : Nat), .nilIface]) = .returned (.tuple #[.int .u8 (put b : Nat), .nilIface]) := by rw [h]
set_option maxHeartbeats 4000000 in
theorem put_ok (p n m : Bool) (s : Nat) (w : World) (hs : s < 4) :
    Calls Tryd.prog 5 #[.agg #[.bool p, .bool n, .int .i64 (s : Int), .bool m]] w fun e w' => e = .returned (.tuple #[.int .u8 (put (num p n m s) : Nat), .nilIface]) ∧ Below w.heap.size w w' := by
  cases p <;> cases n <;> cases m
  all_goals
    go_enter Tryd.func5, Tryd.ntmps5
    go_wp2
    go_quiet (first | (go_at_call 21; with_reducible exact quiet_same (part_yes _ _)) | (go_at_call 21; with_reducible exact quiet_same (part_no _ _)))
    go_wp2_with fail
    refine (puti _ _ (by omega) (by omega)).mono ?_
    rintro e w1 ⟨rfl, k, rfl⟩
    go_wp2_with fail
    go_ret2
    exact ⟨ret_put8 (by unfold num bit; simp; omega), ((Below.refl _ _).alloc (Nat.le_refl _) _).trans (below_drewN _ _ _)⟩
theorem put_bad (p n m : Bool) (s : Int) (w : World) (hs : s < 0 ∨ 4 ≤ s) :
    Calls Tryd.prog 5 #[.agg #[.bool p, .bool n, .int .i64 s, .bool m]] w fun e w' => e = .returned (.tuple #[.int .u8 0, .iface 44 (.int .i64 1)]) ∧ Below w.heap.size w w' := by
  rcases hs with h | h
  · go_enter Tryd.func5, Tryd.ntmps5
    go_wp2
    go_ret2
    exact ⟨rfl, (Below.refl _ _).alloc (Nat.le_refl _) _⟩
  · have h0 : ¬ s < 0 := by omega
    go_enter Tryd.func5, Tryd.ntmps5
    go_wp2
    go_ret2
    exact ⟨rfl, (Below.refl _ _).alloc (Nat.le_refl _) _⟩
theorem ret_p8 {a b : Nat} (h : a = b) : Ending.returned (.int .u8 (put a : Nat)) = .returned (.int .u8 (put b : Nat)) := by rw [h]
set_option maxHeartbeats 4000000 in
theorem putWcc_any (a u r : Bool) (w : World) :
    Calls Tryd.prog 7 #[.agg #[.bool a, .bool u, .bool r]] w fun e w' => e = .returned (.int .u8 (put (wnum a u r) : Nat)) ∧ Below w.heap.size w w' := by
  cases a <;> cases u <;> cases r
  all_goals
    go_enter Tryd.func7, Tryd.ntmps7
    go_wp2
    go_quiet (first | (go_at_call 21; with_reducible exact quiet_same (part_yes _ _)) | (go_at_call 21; with_reducible exact quiet_same (part_no _ _)))
    go_wp2_with fail
    refine (puti _ _ (by omega) (by omega)).mono ?_
    rintro e w1 ⟨rfl, k, rfl⟩
    go_wp2_with fail
    go_ret
    exact ⟨ret_p8 (by decide), ((Below.refl _ _).alloc (Nat.le_refl _) _).trans (below_drewN _ _ _)⟩
theorem char_any (b : Nat) (w : World) (hb : b < 256) :
    Calls Tryd.prog 15 #[.int .u8 (b : Int)] w fun e w' => e = .returned (.bool (char b)) ∧ w = w' := by
  by_cases h0 : b = 0
  · subst h0
    go_enter Tryd.func15, Tryd.ntmps15
    go_wp2
    go_ret
    exact ⟨rfl, rfl⟩
  by_cases h1 : b = 28
  · subst h1
    go_enter Tryd.func15, Tryd.ntmps15
    go_wp2
    go_ret
    exact ⟨rfl, rfl⟩
  by_cases h2 : b = 30
  · subst h2
    go_enter Tryd.func15, Tryd.ntmps15
    go_wp2
    go_ret
    exact ⟨rfl, rfl⟩
  have k0 : ((b : Int) == 0) = false := by simp; omega
  have k1 : ((b : Int) == 28) = false := by simp; omega
  have k2 : ((b : Int) == 30) = false := by simp; omega
  have hc : char b = (decide (64 ≤ b) && decide (b ≤ 254)) := by unfold char; simp [h0, h1, h2]
  rw [hc]
  clear hc h0 h1 h2
  by_cases h3 : 64 ≤ b
  · by_cases h4 : b ≤ 254
    · go_enter Tryd.func15, Tryd.ntmps15
      go_wp2
      go_ret
      exact ⟨ret_bool (by simp [h3, h4]; omega), rfl⟩
    · go_enter Tryd.func15, Tryd.ntmps15
      go_wp2
      go_ret
      exact ⟨ret_bool (by simp [h4]; try omega), rfl⟩
  · go_enter Tryd.func15, Tryd.ntmps15
    go_wp2
    go_ret
    exact ⟨ret_bool (by simp; try omega), rfl⟩
end Att
end Go.Proofs.YteckncagccfioaaDoor
