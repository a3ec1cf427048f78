/- AttrKey, AttrBare in one text (by tools/bundle.py). -/
import Derived.Test.YtpdlpmbjhopnnaaDoorBunPlain
import Derived.Test.YtpdlpmbjhopnnaaDoorBunBase
/- The keys of package attr are told as the plain functions say. -/
namespace Go.Proofs.YtpdlpmbjhopnnaaDoor
open Go.RowKit Six Err
namespace Att
theorem aid_no {b : Nat} (hb : b < 256) (h0 : b ≠ 109) (h1 : b ≠ 108) (h2 : b ≠ 110) (h3 : b ≠ 107) (h4 : b ≠ 125) (h5 : b ≠ 241) (h6 : b ≠ 242) (h7 : b ≠ 243) (h8 : b ≠ 244) (h9 : b ≠ 245) (h10 : b ≠ 246) (h11 : b ≠ 247) (h12 : b ≠ 248) (h13 : b ≠ 249) (h14 : b ≠ 122) (h15 : b ≠ 123) (h16 : b ≠ 124) : aid b = false ∧ bare b = false := by
  have hall : ∀ b, b < 256 → aid b = true → ([109, 108, 110, 107, 125, 241, 242, 243, 244, 245, 246, 247, 248, 249, 122, 123, 124] : List Nat).contains b = true := by decide +kernel
  have ha : aid b = false := by
    cases h : aid b with
    | false => rfl
    | true =>
      have hc := hall b hb h
      simp at hc
      omega
  refine ⟨ha, ?_⟩
  cases h : bare b with
  | false => rfl
  | true => rw [bare_aid b h] at ha; cases ha
set_option maxHeartbeats 4000000 in
theorem key_any (b : Nat) (w : World) (hb : b < 256) :
    Calls Tryd.prog 39 #[.int .u8 (b : Int)] w fun e w' => e = .returned (.tuple #[.bool (aid b), .bool (bare b)]) ∧ w = w' := by
  by_cases h0 : b = 109
  · subst h0
    go_enter Tryd.func39, Tryd.ntmps39
    go_wp2
    go_ret2
    exact ⟨rfl, rfl⟩
  by_cases h1 : b = 108
  · subst h1
    go_enter Tryd.func39, Tryd.ntmps39
    go_wp2
    go_ret2
    exact ⟨rfl, rfl⟩
  by_cases h2 : b = 110
  · subst h2
    go_enter Tryd.func39, Tryd.ntmps39
    go_wp2
    go_ret2
    exact ⟨rfl, rfl⟩
  by_cases h3 : b = 107
  · subst h3
    go_enter Tryd.func39, Tryd.ntmps39
    go_wp2
    go_ret2
    exact ⟨rfl, rfl⟩
  by_cases h4 : b = 125
  · subst h4
    go_enter Tryd.func39, Tryd.ntmps39
    go_wp2
    go_ret2
    exact ⟨rfl, rfl⟩
  by_cases h5 : b = 241
  · subst h5
    go_enter Tryd.func39, Tryd.ntmps39
    go_wp2
    go_ret2
    exact ⟨rfl, rfl⟩
  by_cases h6 : b = 242
  · subst h6
    go_enter Tryd.func39, Tryd.ntmps39
    go_wp2
    go_ret2
    exact ⟨rfl, rfl⟩
  by_cases h7 : b = 243
  · subst h7
    go_enter Tryd.func39, Tryd.ntmps39
    go_wp2
    go_ret2
    exact ⟨rfl, rfl⟩
  by_cases h8 : b = 244
  · subst h8
    go_enter Tryd.func39, Tryd.ntmps39
    go_wp2
    go_ret2
    exact ⟨rfl, rfl⟩
  by_cases h9 : b = 245
  · subst h9
    go_enter Tryd.func39, Tryd.ntmps39
    go_wp2
    go_ret2
    exact ⟨rfl, rfl⟩
  by_cases h10 : b = 246
  · subst h10
    go_enter Tryd.func39, Tryd.ntmps39
    go_wp2
    go_ret2
    exact ⟨rfl, rfl⟩
  by_cases h11 : b = 247
  · subst h11
    go_enter Tryd.func39, Tryd.ntmps39
    go_wp2
    go_ret2
    exact ⟨rfl, rfl⟩
  by_cases h12 : b = 248
  · subst h12
    go_enter Tryd.func39, Tryd.ntmps39
    go_wp2
    go_ret2
    exact ⟨rfl, rfl⟩
  by_cases h13 : b = 249
  · subst h13
    go_enter Tryd.func39, Tryd.ntmps39
    go_wp2
    go_ret2
    exact ⟨rfl, rfl⟩
  by_cases h14 : b = 122
  · subst h14
    go_enter Tryd.func39, Tryd.ntmps39
    go_wp2
    go_ret2
    exact ⟨rfl, rfl⟩
  by_cases h15 : b = 123
  · subst h15
    go_enter Tryd.func39, Tryd.ntmps39
    go_wp2
    go_ret2
    exact ⟨rfl, rfl⟩
  by_cases h16 : b = 124
  · subst h16
    go_enter Tryd.func39, Tryd.ntmps39
    go_wp2
    go_ret2
    exact ⟨rfl, rfl⟩
  obtain ⟨ha, hr⟩ := aid_no hb h0 h1 h2 h3 h4 h5 h6 h7 h8 h9 h10 h11 h12 h13 h14 h15 h16
  rw [ha, hr]
  have k0 : ((b : Int) == 109) = false := by simp; omega
  have k1 : ((b : Int) == 108) = false := by simp; omega
  have k2 : ((b : Int) == 110) = false := by simp; omega
  have k3 : ((b : Int) == 107) = false := by simp; omega
  have k4 : ((b : Int) == 125) = false := by simp; omega
  have k5 : ((b : Int) == 241) = false := by simp; omega
  have k6 : ((b : Int) == 242) = false := by simp; omega
  have k7 : ((b : Int) == 243) = false := by simp; omega
  have k8 : ((b : Int) == 244) = false := by simp; omega
  have k9 : ((b : Int) == 245) = false := by simp; omega
  have k10 : ((b : Int) == 246) = false := by simp; omega
  have k11 : ((b : Int) == 247) = false := by simp; omega
  have k12 : ((b : Int) == 248) = false := by simp; omega
  have k13 : ((b : Int) == 249) = false := by simp; omega
  have k14 : ((b : Int) == 122) = false := by simp; omega
  have k15 : ((b : Int) == 123) = false := by simp; omega
  have k16 : ((b : Int) == 124) = false := by simp; omega
  clear ha hr h0 h1 h2 h3 h4 h5 h6 h7 h8 h9 h10 h11 h12 h13 h14 h15 h16
  go_enter Tryd.func39, Tryd.ntmps39
  go_wp2
  go_ret2
  exact ⟨rfl, rfl⟩
theorem aid_any (b : Nat) (w : World) (hb : b < 256) :
    Calls Tryd.prog 21 #[.int .u8 (b : Int)] w fun e w' => e = .returned (.bool (aid b)) ∧ w = w' := by
  have HK := fun W => key_any b W hb
  generalize aid b = x at HK ⊢
  generalize bare b = y at HK
  go_enter Tryd.func21, Tryd.ntmps21
  go_wp2_with (go_at_call 39; refine (HK _).mono ?_; rintro e w' ⟨rfl, rfl⟩)
  go_ret
  exact ⟨rfl, rfl⟩
end Att
end Go.Proofs.YtpdlpmbjhopnnaaDoor
/- The bare keys of package attr. -/
namespace Go.Proofs.YtpdlpmbjhopnnaaDoor
open Go.RowKit Six Err
namespace Att
theorem bare_any (b : Nat) (w : World) (hb : b < 256) :
    Calls Tryd.prog 22 #[.int .u8 (b : Int)] w fun e w' => e = .returned (.bool (bare b)) ∧ w = w' := by
  have HK := fun W => key_any b W hb
  generalize aid b = x at HK
  generalize bare b = y at HK ⊢
  go_enter Tryd.func22, Tryd.ntmps22
  go_wp2_with (go_at_call 39; refine (HK _).mono ?_; rintro e w' ⟨rfl, rfl⟩)
  go_ret
  exact ⟨rfl, rfl⟩
end Att
end Go.Proofs.YtpdlpmbjhopnnaaDoor
