/- The document's Put of layer 3 returns what the plain function says. -/
import Derived.Test.YtllpmgddcpgegaaDoorSixLeaf
namespace Go.Proofs.YtllpmgddcpgegaaDoor
open Go.RowKit
namespace Six
theorem rvalue_any (i : Nat) (w : World) (hi : i < 128) :
    Calls Tryd.prog 67 #[.int .u8 (digits i : Nat)] w fun e w' => e = .returned (.int .i64 (value (digits i) : Nat)) ∧ w = w' := by
  rcases digits_hex i hi with ⟨h1, h2⟩ | ⟨h1, h2⟩
  · have hv := Lib.hid (show ((digits i : Nat) : Int) - 48 = (value (digits i) : Nat) by unfold value; rw [if_neg (by omega)]; omega)
    generalize digits i = c at *
    go_enter Tryd.func67, Tryd.ntmps67
    go_wp2
    go_ret
    exact ⟨ret_i64 hv.out, rfl⟩
  · have hv := Lib.hid (show ((digits i : Nat) : Int) - 87 = (value (digits i) : Nat) by unfold value; rw [if_pos (by omega)]; omega)
    generalize digits i = c at *
    go_enter Tryd.func67, Tryd.ntmps67
    go_wp2
    go_ret
    exact ⟨ret_i64 hv.out, rfl⟩
set_option maxHeartbeats 1000000 in
theorem rput_any (n : Nat) (w : World) (hn : n < 64) :
    Calls Tryd.prog 56 #[.int .i64 (n : Int)] w fun e w' => e = .returned (.int .u8 (put n : Nat)) ∧ ∃ m, w' = w.drewN m := by
  have h0 := value_lt (2 * n) (by omega)
  have h1 := value_lt (2 * n + 1) (by omega)
  have h2 := Lib.hid (put_digits n hn)
  have h3 := put_lt n hn
  go_enter Tryd.func56, Tryd.ntmps56
  go_wp2_with fail
  have q0 : IntKind.i64.wrap (2 * (n : Int)) = 2 * (n : Int) := by rw [IntWalk.i64_in] <;> omega
  have q1 : IntKind.i64.wrap (2 * (n : Int) + 1) = 2 * (n : Int) + 1 := by rw [IntWalk.i64_in] <;> omega
  have x0 := index_text (2 * n) (by omega)
  have x1 := index_text (2 * n + 1) (by omega)
  rw [show ((2 * n : Nat) : Int) = 2 * (n : Int) by omega] at x0
  rw [show ((2 * n + 1 : Nat) : Int) = 2 * (n : Int) + 1 by omega] at x1
  have HV := Lib.hid (fun (W : World) => rvalue_any (2 * n) W (by omega))
  have HW := Lib.hid (fun (W : World) => rvalue_any (2 * n + 1) W (by omega))
  generalize value (digits (2 * n)) = v0 at *
  generalize value (digits (2 * n + 1)) = v1 at *
  generalize digits (2 * n) = d0 at *
  generalize digits (2 * n + 1) = d1 at *
  have q2 : IntKind.i64.wrap (16 * (v0 : Int)) = 16 * (v0 : Int) := by rw [IntWalk.i64_in] <;> omega
  have q3 : IntKind.i64.wrap (16 * (v0 : Int) + v1) = 16 * (v0 : Int) + v1 := by rw [IntWalk.i64_in] <;> omega
  have q4 : IntKind.u8.wrap (16 * (v0 : Int) + v1) = 16 * (v0 : Int) + v1 := by rw [IntWalk.u8_in] <;> omega
  rw [text_def.out]
  go_quiet (first | (go_at_call 67; with_reducible exact quiet_same (HV.out _)) | (go_at_call 67; with_reducible exact quiet_same (HW.out _)))
  clear x0 x1 q0 q1 q2 q3 q4 HV HW
  go_wp2
  go_ret
  exact ⟨ret_u8 (by have := h2.out; omega), nq, rfl⟩
end Six
end Go.Proofs.YtllpmgddcpgegaaDoor
