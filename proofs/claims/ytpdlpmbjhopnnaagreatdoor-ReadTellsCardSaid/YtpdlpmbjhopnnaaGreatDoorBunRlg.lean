/- AttrKinds in one text (by tools/bundle.py). -/
import Derived.Test.YtpdlpmbjhopnnaaGreatDoorBunRlp
/- The document's kinds of bytes of layer 5. -/
namespace Go.Proofs.YtpdlpmbjhopnnaaGreatDoor
open Go.RowKit Six Err
namespace Att
set_option maxHeartbeats 4000000 in
theorem rbare_any (b : Nat) (w : World) (hb : b < 256) :
    Calls Tryz.prog 24 #[.int .u8 (b : Int)] w fun e w' => e = .returned (.bool (bare b)) ∧ w = w' := by
  by_cases h0 : b = 109
  · subst h0
    go_enter Tryz.func24, Tryz.ntmps24
    go_wp2
    go_ret
    exact ⟨rfl, rfl⟩
  by_cases h1 : b = 108
  · subst h1
    go_enter Tryz.func24, Tryz.ntmps24
    go_wp2
    go_ret
    exact ⟨rfl, rfl⟩
  by_cases h2 : b = 110
  · subst h2
    go_enter Tryz.func24, Tryz.ntmps24
    go_wp2
    go_ret
    exact ⟨rfl, rfl⟩
  by_cases h3 : b = 107
  · subst h3
    go_enter Tryz.func24, Tryz.ntmps24
    go_wp2
    go_ret
    exact ⟨rfl, rfl⟩
  have hc : bare b = false := by unfold bare; simp [h0, h1, h2, h3]
  rw [hc]
  have k0 : ((b : Int) == 109) = false := by simp; omega
  have k1 : ((b : Int) == 108) = false := by simp; omega
  have k2 : ((b : Int) == 110) = false := by simp; omega
  have k3 : ((b : Int) == 107) = false := by simp; omega
  clear hc h0 h1 h2 h3
  go_enter Tryz.func24, Tryz.ntmps24
  go_wp2
  go_ret
  exact ⟨rfl, rfl⟩
set_option maxHeartbeats 4000000 in
theorem raid_any (b : Nat) (w : World) (hb : b < 256) :
    Calls Tryz.prog 13 #[.int .u8 (b : Int)] w fun e w' => e = .returned (.bool (aid b)) ∧ w = w' := by
  have HB := fun W => rbare_any b W hb
  cases hr : bare b with
  | true =>
    rw [hr] at HB
    rw [bare_aid b hr]
    clear hr
    go_enter Tryz.func13, Tryz.ntmps13
    go_wp2_with (go_at_call 24; refine (HB _).mono ?_; rintro e w' ⟨rfl, rfl⟩)
    go_ret
    exact ⟨rfl, rfl⟩
  | false =>
    rw [hr] at HB
    by_cases h0 : b = 125
    · subst h0
      go_enter Tryz.func13, Tryz.ntmps13
      go_wp2_with (go_at_call 24; refine (HB _).mono ?_; rintro e w' ⟨rfl, rfl⟩)
      go_ret
      exact ⟨rfl, rfl⟩
    have k0 : ((b : Int) == 125) = false := by simp; omega
    by_cases h1 : 241 ≤ b
    · by_cases h2 : b ≤ 249
      · skip
        rw [show aid b = true by unfold aid; rw [hr]; simp; omega]
        clear hr h0
        go_enter Tryz.func13, Tryz.ntmps13
        go_wp2_with (go_at_call 24; refine (HB _).mono ?_; rintro e w' ⟨rfl, rfl⟩)
        go_ret
        exact ⟨ret_bool (by first | rfl | (simp; done) | (simp; omega)), rfl⟩
      · skip
        rw [show aid b = false by unfold aid; rw [hr]; simp; omega]
        clear hr h0
        go_enter Tryz.func13, Tryz.ntmps13
        go_wp2_with (go_at_call 24; refine (HB _).mono ?_; rintro e w' ⟨rfl, rfl⟩)
        go_ret
        exact ⟨ret_bool (by first | rfl | (simp; done) | (simp; omega)), rfl⟩
    · by_cases h3 : 122 ≤ b
      · by_cases h4 : b ≤ 124
        · skip
          rw [show aid b = true by unfold aid; rw [hr]; simp; omega]
          clear hr h0
          go_enter Tryz.func13, Tryz.ntmps13
          go_wp2_with (go_at_call 24; refine (HB _).mono ?_; rintro e w' ⟨rfl, rfl⟩)
          go_ret
          exact ⟨ret_bool (by first | rfl | (simp; done) | (simp; omega)), rfl⟩
        · skip
          rw [show aid b = false by unfold aid; rw [hr]; simp; omega]
          clear hr h0
          go_enter Tryz.func13, Tryz.ntmps13
          go_wp2_with (go_at_call 24; refine (HB _).mono ?_; rintro e w' ⟨rfl, rfl⟩)
          go_ret
          exact ⟨ret_bool (by first | rfl | (simp; done) | (simp; omega)), rfl⟩
      · skip
        rw [show aid b = false by unfold aid; rw [hr]; simp; omega]
        clear hr h0
        go_enter Tryz.func13, Tryz.ntmps13
        go_wp2_with (go_at_call 24; refine (HB _).mono ?_; rintro e w' ⟨rfl, rfl⟩)
        go_ret
        exact ⟨ret_bool (by first | rfl | (simp; done) | (simp; omega)), rfl⟩
end Att
end Go.Proofs.YtpdlpmbjhopnnaaGreatDoor
