/- The document's Get of layer 3 returns what the plain function says. -/
import Derived.Test.YtllpmgddcpgegaaDoorSixRput
namespace Go.Proofs.YtllpmgddcpgegaaDoor
open Go.RowKit
namespace Six
set_option maxHeartbeats 1000000 in
theorem rget_yes (b : Nat) (w : World) (_hb : b < 256) (hg : isGraphic b = true) :
    Calls Tryd.prog 62 #[.int .u8 (b : Int)] w fun e w' => e = .returned (.int .i64 (b % 64 : Nat)) ∧ ∃ m, w' = w.drewN m := by
  have hpg := put_of_graphic hg
  have HN : ∀ k, k < b % 64 → put k ≠ b := fun k hk e => by
    have := put_low k (by omega)
    rw [e] at this; omega
  have hn : b % 64 < 64 := Nat.mod_lt _ (by decide)
  have HP := Lib.hid hpg
  have HQ := Lib.hid HN
  clear hpg HN hg
  generalize b % 64 = n at *
  go_enter Tryd.func62, Tryd.ntmps62
  go_wp2_with fail
  go_loopw [3] (fun i wr => ∃ k m : Nat, k ≤ n ∧ i = .int .i64 k ∧ wr = w.drewN m) (fun i _ => n - (intOf i).toNat)
  case atStart => exact ⟨0, 0, Nat.zero_le _, rfl, rfl⟩
  case round =>
    obtain ⟨k, m, hk, rfl, rfl⟩ := hrel
    by_cases hlt : k < n
    · have hne := HQ.out k hlt
      have HC := fun W => rput_any k W (by omega)
      generalize put k = p at hne HC
      have t1 : (((p : Nat) : Int) == (b : Int)) = false := by simp; omega
      go_wp2_with (go_at_call 56; refine (HC _).mono ?_; rintro e w' ⟨rfl, m, rfl⟩)
      go_roundw
      case rel => exact ⟨k + 1, _, by omega, by go_num, rfl⟩
      case measure => simp [intOf]; omega
    · obtain rfl : k = n := by omega
      have HC := fun W => rput_any k W hn
      rw [HP.out] at HC
      go_wp2_with (go_at_call 56; refine (HC _).mono ?_; rintro e w' ⟨rfl, m, rfl⟩)
      go_ret
      exact ⟨rfl, _, rfl⟩
set_option maxHeartbeats 1000000 in
theorem rget_no (b : Nat) (w : World) (_hb : b < 256) (hg : isGraphic b = false) :
    Calls Tryd.prog 62 #[.int .u8 (b : Int)] w fun e w' => e = .returned (.int .i64 (-1)) ∧ ∃ m, w' = w.drewN m := by
  have HQ := Lib.hid (not_graphic hg)
  clear hg
  go_enter Tryd.func62, Tryd.ntmps62
  go_wp2_with fail
  go_loopw [3] (fun i wr => ∃ k m : Nat, k ≤ 64 ∧ i = .int .i64 k ∧ wr = w.drewN m) (fun i _ => 64 - (intOf i).toNat)
  case atStart => exact ⟨0, 0, Nat.zero_le _, rfl, rfl⟩
  case round =>
    obtain ⟨k, m, hk, rfl, rfl⟩ := hrel
    by_cases hlt : k < 64
    · have hne := HQ.out k hlt
      have HC := fun W => rput_any k W hlt
      generalize put k = p at hne HC
      have t1 : (((p : Nat) : Int) == (b : Int)) = false := by simp; omega
      go_wp2_with (go_at_call 56; refine (HC _).mono ?_; rintro e w' ⟨rfl, m, rfl⟩)
      go_roundw
      case rel => exact ⟨k + 1, _, by omega, by go_num, rfl⟩
      case measure => simp [intOf]; omega
    · obtain rfl : k = 64 := by omega
      clear hlt hk
      go_wp2_with fail
      go_ret
      exact ⟨rfl, _, rfl⟩
end Six
end Go.Proofs.YtllpmgddcpgegaaDoor
