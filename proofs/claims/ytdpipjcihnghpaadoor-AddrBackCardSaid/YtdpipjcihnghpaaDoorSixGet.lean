/- Get of package six, and the document's Put and Get, return what the plain functions say. -/
import Derived.Test.YtdpipjcihnghpaaDoorSixLeaf
namespace Go.Proofs.YtdpipjcihnghpaaDoor
open Go.RowKit
namespace Six
theorem get_yes (b : Nat) (w : World) (hb : b < 256) (hg : isGraphic b = true) :
    Calls Tryd.prog 21 #[.int .u8 (b : Int)] w fun e w' => e = .returned (.tuple #[.int .i64 (b % 64 : Nat), .nilIface]) ∧ ∃ m, w' = w.drewN m := by
  have HP := put_any (b % 64) w (Nat.mod_lt _ (by decide))
  rw [put_of_graphic hg] at HP
  clear hg
  have HL := low_any b w hb
  generalize b % 64 = n at HP HL
  go_enter Tryd.func21, Tryd.ntmps21
  go_wp2_with (first | (go_at_call 28; refine HL.mono ?_; rintro e w' ⟨rfl, rfl⟩) | (go_at_call 27; refine HP.mono ?_; rintro e w' ⟨rfl, m, rfl⟩))
  go_ret2
  exact ⟨rfl, _, rfl⟩
theorem get_no (b : Nat) (w : World) (hb : b < 256) (hg : isGraphic b = false) :
    Calls Tryd.prog 21 #[.int .u8 (b : Int)] w fun e w' => e = .returned (.tuple #[.int .i64 0, .iface 40 (.int .i64 3)]) ∧ ∃ m, w' = w.drewN m := by
  have HP := put_any (b % 64) w (Nat.mod_lt _ (by decide))
  have hne := not_graphic hg (b % 64) (Nat.mod_lt _ (by decide))
  clear hg
  have HL := low_any b w hb
  generalize put (b % 64) = p at HP hne
  generalize b % 64 = n at HP HL
  have t1 : (((p : Nat) : Int) == (b : Int)) = false := by simp; omega
  have t2 : (((p : Nat) : Int) != (b : Int)) = true := by simp; omega
  go_enter Tryd.func21, Tryd.ntmps21
  go_wp2_with (first | (go_at_call 28; refine HL.mono ?_; rintro e w' ⟨rfl, rfl⟩) | (go_at_call 27; refine HP.mono ?_; rintro e w' ⟨rfl, m, rfl⟩))
  go_ret2
  exact ⟨rfl, _, rfl⟩
theorem rvalue_any (i : Nat) (w : World) (hi : i < 128) :
    Calls Tryd.prog 29 #[.int .u8 (digits i : Nat)] w fun e w' => e = .returned (.int .i64 (value (digits i) : Nat)) ∧ w = w' := by
  rcases digits_hex i hi with ⟨h1, h2⟩ | ⟨h1, h2⟩
  · have hv := Lib.hid (show ((digits i : Nat) : Int) - 48 = (value (digits i) : Nat) by unfold value; rw [if_neg (by omega)]; omega)
    generalize digits i = c at *
    go_enter Tryd.func29, Tryd.ntmps29
    go_wp2
    go_ret
    exact ⟨ret_i64 hv.out, rfl⟩
  · have hv := Lib.hid (show ((digits i : Nat) : Int) - 87 = (value (digits i) : Nat) by unfold value; rw [if_pos (by omega)]; omega)
    generalize digits i = c at *
    go_enter Tryd.func29, Tryd.ntmps29
    go_wp2
    go_ret
    exact ⟨ret_i64 hv.out, rfl⟩
set_option maxHeartbeats 1000000 in
theorem rput_any (n : Nat) (w : World) (hn : n < 64) :
    Calls Tryd.prog 22 #[.int .i64 (n : Int)] w fun e w' => e = .returned (.int .u8 (put n : Nat)) ∧ ∃ m, w' = w.drewN m := by
  have h0 := value_lt (2 * n) (by omega)
  have h1 := value_lt (2 * n + 1) (by omega)
  have h2 := Lib.hid (put_digits n hn)
  have h3 := put_lt n hn
  go_enter Tryd.func22, Tryd.ntmps22
  go_wp2_with fail
  have q0 : IntKind.i64.wrap (2 * (n : Int)) = 2 * (n : Int) := by rw [IntWalk.i64_in] <;> omega
  have q1 : IntKind.i64.wrap (2 * (n : Int) + 1) = 2 * (n : Int) + 1 := by rw [IntWalk.i64_in] <;> omega
  have x0 := index_text (2 * n) (by omega)
  have x1 := index_text (2 * n + 1) (by omega)
  rw [show ((2 * n : Nat) : Int) = 2 * (n : Int) by omega] at x0
  rw [show ((2 * n + 1 : Nat) : Int) = 2 * (n : Int) + 1 by omega] at x1
  have HV := Lib.hid (fun (W : World) => rvalue_any (2 * n) W (by omega))
  have HW := Lib.hid (fun (W : World) => rvalue_any (2 * n + 1) W (by omega))
  generalize value (digits (2 * n)) = v0 at *
  generalize value (digits (2 * n + 1)) = v1 at *
  generalize digits (2 * n) = d0 at *
  generalize digits (2 * n + 1) = d1 at *
  have q2 : IntKind.i64.wrap (16 * (v0 : Int)) = 16 * (v0 : Int) := by rw [IntWalk.i64_in] <;> omega
  have q3 : IntKind.i64.wrap (16 * (v0 : Int) + v1) = 16 * (v0 : Int) + v1 := by rw [IntWalk.i64_in] <;> omega
  have q4 : IntKind.u8.wrap (16 * (v0 : Int) + v1) = 16 * (v0 : Int) + v1 := by rw [IntWalk.u8_in] <;> omega
  rw [text_def.out]
  go_quiet (first | (go_at_call 29; with_reducible exact quiet_same (HV.out _)) | (go_at_call 29; with_reducible exact quiet_same (HW.out _)))
  clear x0 x1 q0 q1 q2 q3 q4 HV HW
  go_wp2
  go_ret
  exact ⟨ret_u8 (by have := h2.out; omega), nq, rfl⟩
set_option maxHeartbeats 1000000 in
theorem rget_yes (b : Nat) (w : World) (_hb : b < 256) (hg : isGraphic b = true) :
    Calls Tryd.prog 18 #[.int .u8 (b : Int)] w fun e w' => e = .returned (.int .i64 (b % 64 : Nat)) ∧ ∃ m, w' = w.drewN m := by
  have hpg := put_of_graphic hg
  have HN : ∀ k, k < b % 64 → put k ≠ b := fun k hk e => by
    have := put_low k (by omega)
    rw [e] at this; omega
  have hn : b % 64 < 64 := Nat.mod_lt _ (by decide)
  have HP := Lib.hid hpg
  have HQ := Lib.hid HN
  clear hpg HN hg
  generalize b % 64 = n at *
  go_enter Tryd.func18, Tryd.ntmps18
  go_wp2_with fail
  go_loopw [3] (fun i wr => ∃ k m : Nat, k ≤ n ∧ i = .int .i64 k ∧ wr = w.drewN m) (fun i _ => n - (intOf i).toNat)
  case atStart => exact ⟨0, 0, Nat.zero_le _, rfl, rfl⟩
  case round =>
    obtain ⟨k, m, hk, rfl, rfl⟩ := hrel
    by_cases hlt : k < n
    · have hne := HQ.out k hlt
      have HC := fun W => rput_any k W (by omega)
      generalize put k = p at hne HC
      have t1 : (((p : Nat) : Int) == (b : Int)) = false := by simp; omega
      go_wp2_with (go_at_call 22; refine (HC _).mono ?_; rintro e w' ⟨rfl, m, rfl⟩)
      go_roundw
      case rel => exact ⟨k + 1, _, by omega, by go_num, rfl⟩
      case measure => simp [intOf]; omega
    · obtain rfl : k = n := by omega
      have HC := fun W => rput_any k W hn
      rw [HP.out] at HC
      go_wp2_with (go_at_call 22; refine (HC _).mono ?_; rintro e w' ⟨rfl, m, rfl⟩)
      go_ret
      exact ⟨rfl, _, rfl⟩
set_option maxHeartbeats 1000000 in
theorem rget_no (b : Nat) (w : World) (_hb : b < 256) (hg : isGraphic b = false) :
    Calls Tryd.prog 18 #[.int .u8 (b : Int)] w fun e w' => e = .returned (.int .i64 (-1)) ∧ ∃ m, w' = w.drewN m := by
  have HQ := Lib.hid (not_graphic hg)
  clear hg
  go_enter Tryd.func18, Tryd.ntmps18
  go_wp2_with fail
  go_loopw [3] (fun i wr => ∃ k m : Nat, k ≤ 64 ∧ i = .int .i64 k ∧ wr = w.drewN m) (fun i _ => 64 - (intOf i).toNat)
  case atStart => exact ⟨0, 0, Nat.zero_le _, rfl, rfl⟩
  case round =>
    obtain ⟨k, m, hk, rfl, rfl⟩ := hrel
    by_cases hlt : k < 64
    · have hne := HQ.out k hlt
      have HC := fun W => rput_any k W hlt
      generalize put k = p at hne HC
      have t1 : (((p : Nat) : Int) == (b : Int)) = false := by simp; omega
      go_wp2_with (go_at_call 22; refine (HC _).mono ?_; rintro e w' ⟨rfl, m, rfl⟩)
      go_roundw
      case rel => exact ⟨k + 1, _, by omega, by go_num, rfl⟩
      case measure => simp [intOf]; omega
    · obtain rfl : k = 64 := by omega
      clear hlt hk
      go_wp2_with fail
      go_ret
      exact ⟨rfl, _, rfl⟩
end Six
end Go.Proofs.YtdpipjcihnghpaaDoor
