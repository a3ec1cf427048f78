/- SixRput, AttrRchar, AttrRef, AttrRputW in one text (by tools/bundle.py). -/
import Derived.Test.YtpdlpmbjhopnnaaGreatDoorBunLow
import Derived.Test.YtpdlpmbjhopnnaaGreatDoorBunBase
import Derived.Test.YtpdlpmbjhopnnaaGreatDoorBunPlain
/- The document's Put of layer 3 returns what the plain function says. -/
namespace Go.Proofs.YtpdlpmbjhopnnaaGreatDoor
open Go.RowKit
namespace Six
theorem rvalue_any (i : Nat) (w : World) (hi : i < 128) :
    Calls Tryz.prog 108 #[.int .u8 (digits i : Nat)] w fun e w' => e = .returned (.int .i64 (value (digits i) : Nat)) ∧ w = w' := by
  rcases digits_hex i hi with ⟨h1, h2⟩ | ⟨h1, h2⟩
  · have hv := Lib.hid (show ((digits i : Nat) : Int) - 48 = (value (digits i) : Nat) by unfold value; rw [if_neg (by omega)]; omega)
    generalize digits i = c at *
    go_enter Tryz.func108, Tryz.ntmps108
    go_wp2
    go_ret
    exact ⟨ret_i64 hv.out, rfl⟩
  · have hv := Lib.hid (show ((digits i : Nat) : Int) - 87 = (value (digits i) : Nat) by unfold value; rw [if_pos (by omega)]; omega)
    generalize digits i = c at *
    go_enter Tryz.func108, Tryz.ntmps108
    go_wp2
    go_ret
    exact ⟨ret_i64 hv.out, rfl⟩
set_option maxHeartbeats 1000000 in
theorem rput_any (n : Nat) (w : World) (hn : n < 64) :
    Calls Tryz.prog 66 #[.int .i64 (n : Int)] w fun e w' => e = .returned (.int .u8 (put n : Nat)) ∧ ∃ m, w' = w.drewN m := by
  have h0 := value_lt (2 * n) (by omega)
  have h1 := value_lt (2 * n + 1) (by omega)
  have h2 := Lib.hid (put_digits n hn)
  have h3 := put_lt n hn
  go_enter Tryz.func66, Tryz.ntmps66
  go_wp2_with fail
  have q0 : IntKind.i64.wrap (2 * (n : Int)) = 2 * (n : Int) := by rw [IntWalk.i64_in] <;> omega
  have q1 : IntKind.i64.wrap (2 * (n : Int) + 1) = 2 * (n : Int) + 1 := by rw [IntWalk.i64_in] <;> omega
  have x0 := index_text (2 * n) (by omega)
  have x1 := index_text (2 * n + 1) (by omega)
  rw [show ((2 * n : Nat) : Int) = 2 * (n : Int) by omega] at x0
  rw [show ((2 * n + 1 : Nat) : Int) = 2 * (n : Int) + 1 by omega] at x1
  have HV := Lib.hid (fun (W : World) => rvalue_any (2 * n) W (by omega))
  have HW := Lib.hid (fun (W : World) => rvalue_any (2 * n + 1) W (by omega))
  generalize value (digits (2 * n)) = v0 at *
  generalize value (digits (2 * n + 1)) = v1 at *
  generalize digits (2 * n) = d0 at *
  generalize digits (2 * n + 1) = d1 at *
  have q2 : IntKind.i64.wrap (16 * (v0 : Int)) = 16 * (v0 : Int) := by rw [IntWalk.i64_in] <;> omega
  have q3 : IntKind.i64.wrap (16 * (v0 : Int) + v1) = 16 * (v0 : Int) + v1 := by rw [IntWalk.i64_in] <;> omega
  have q4 : IntKind.u8.wrap (16 * (v0 : Int) + v1) = 16 * (v0 : Int) + v1 := by rw [IntWalk.u8_in] <;> omega
  rw [text_def.out]
  go_quiet (first | (go_at_call 108; with_reducible exact quiet_same (HV.out _)) | (go_at_call 108; with_reducible exact quiet_same (HW.out _)))
  clear x0 x1 q0 q1 q2 q3 q4 HV HW
  go_wp2
  go_ret
  exact ⟨ret_u8 (by have := h2.out; omega), nq, rfl⟩
end Six
end Go.Proofs.YtpdlpmbjhopnnaaGreatDoor
/- The document's Char of layer 5. -/
namespace Go.Proofs.YtpdlpmbjhopnnaaGreatDoor
open Go.RowKit Six
namespace Att
set_option maxHeartbeats 4000000 in
theorem rchar_any (b : Nat) (w : World) (hb : b < 256) :
    Calls Tryz.prog 68 #[.int .u8 (b : Int)] w fun e w' => e = .returned (.bool (char b)) ∧ w = w' := by
  by_cases h0 : b = 0
  · subst h0
    go_enter Tryz.func68, Tryz.ntmps68
    go_wp2
    go_ret
    exact ⟨rfl, rfl⟩
  by_cases h1 : b = 28
  · subst h1
    go_enter Tryz.func68, Tryz.ntmps68
    go_wp2
    go_ret
    exact ⟨rfl, rfl⟩
  by_cases h2 : b = 30
  · subst h2
    go_enter Tryz.func68, Tryz.ntmps68
    go_wp2
    go_ret
    exact ⟨rfl, rfl⟩
  have k0 : ((b : Int) == 0) = false := by simp; omega
  have k1 : ((b : Int) == 28) = false := by simp; omega
  have k2 : ((b : Int) == 30) = false := by simp; omega
  have hc : char b = (decide (64 ≤ b) && decide (b ≤ 254)) := by unfold char; simp [h0, h1, h2]
  rw [hc]
  clear hc h0 h1 h2
  by_cases h3 : 64 ≤ b
  · by_cases h4 : b ≤ 254
    · go_enter Tryz.func68, Tryz.ntmps68
      go_wp2
      go_ret
      exact ⟨ret_bool (by simp [h3, h4]; try omega), rfl⟩
    · go_enter Tryz.func68, Tryz.ntmps68
      go_wp2
      go_ret
      exact ⟨ret_bool (by simp [h4]; try omega), rfl⟩
  · go_enter Tryz.func68, Tryz.ntmps68
    go_wp2
    go_ret
    exact ⟨ret_bool (by first | rfl | (simp; done) | (simp; omega) | omega), rfl⟩
end Att
end Go.Proofs.YtpdlpmbjhopnnaaGreatDoor
/- The document's Put of layer 5 returns what the plain functions say. -/
namespace Go.Proofs.YtpdlpmbjhopnnaaGreatDoor
open Go.RowKit Six Err
namespace Att
theorem rputi (n : Int) (w : World) (h0 : 0 ≤ n) (h : n < 64) :
    Calls Tryz.prog 66 #[.int .i64 n] w fun e w' => e = .returned (.int .u8 (put n.toNat : Nat)) ∧ ∃ m, w' = w.drewN m := by
  obtain ⟨k, rfl⟩ := Int.eq_ofNat_of_zero_le h0
  rw [Int.toNat_natCast]
  exact rput_any k w (by omega)
set_option maxHeartbeats 4000000 in
theorem rput5 (p n m : Bool) (s : Int) (w : World) (h0 : 0 ≤ s) (hs : s < 4) :
    Calls Tryz.prog 69 #[.agg #[.bool p, .bool n, .int .i64 s, .bool m]] w fun e w' => e = .returned (.int .u8 (put (num p n m s.toNat) : Nat)) ∧ Below w.heap.size w w' := by
  cases p <;> cases n <;> cases m
  all_goals
    go_enter Tryz.func69, Tryz.ntmps69
    go_wp2_with fail
    refine (rputi _ _ (by omega) (by omega)).mono ?_
    rintro e w1 ⟨rfl, k, rfl⟩
    go_wp2_with fail
    go_ret
    exact ⟨ret_p8 (by unfold num bit; simp; try omega), ((Below.refl _ _).alloc (Nat.le_refl _) _).trans (below_drewN _ _ _)⟩
end Att
end Go.Proofs.YtpdlpmbjhopnnaaGreatDoor
/- The document's PutWcc of layer 5 returns what the plain functions say. -/
namespace Go.Proofs.YtpdlpmbjhopnnaaGreatDoor
open Go.RowKit Six Err
namespace Att
set_option maxHeartbeats 4000000 in
theorem rputWcc (a u r : Bool) (w : World) :
    Calls Tryz.prog 32 #[.agg #[.bool a, .bool u, .bool r]] w fun e w' => e = .returned (.int .u8 (put (wnum a u r) : Nat)) ∧ Below w.heap.size w w' := by
  cases a <;> cases u <;> cases r
  all_goals
    go_enter Tryz.func32, Tryz.ntmps32
    go_wp2_with fail
    refine (rputi _ _ (by omega) (by omega)).mono ?_
    rintro e w1 ⟨rfl, k, rfl⟩
    go_wp2_with fail
    go_ret
    exact ⟨ret_p8 (by decide), ((Below.refl _ _).alloc (Nat.le_refl _) _).trans (below_drewN _ _ _)⟩
end Att
end Go.Proofs.YtpdlpmbjhopnnaaGreatDoor
