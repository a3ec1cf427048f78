/- Get, GetWcc and the keys of package attr return what the plain functions say. -/
import Derived.Test.YteckncagccfioaaDoorAttrLeaf
import Derived.Test.YteckncagccfioaaDoorCells
namespace Go.Proofs.YteckncagccfioaaDoor
open Go.RowKit Six Err
namespace Att
theorem aid_no {b : Nat} (hb : b < 256) (h0 : b ≠ 109) (h1 : b ≠ 108) (h2 : b ≠ 110) (h3 : b ≠ 107) (h4 : b ≠ 125) (h5 : b ≠ 241) (h6 : b ≠ 242) (h7 : b ≠ 243) (h8 : b ≠ 244) (h9 : b ≠ 245) (h10 : b ≠ 246) (h11 : b ≠ 247) (h12 : b ≠ 248) (h13 : b ≠ 249) (h14 : b ≠ 122) (h15 : b ≠ 123) (h16 : b ≠ 124) : aid b = false ∧ bare b = false := by
  have hall : ∀ b, b < 256 → aid b = true → ([109, 108, 110, 107, 125, 241, 242, 243, 244, 245, 246, 247, 248, 249, 122, 123, 124] : List Nat).contains b = true := by decide +kernel
  have ha : aid b = false := by
    cases h : aid b with
    | false => rfl
    | true =>
      have hc := hall b hb h
      simp at hc
      omega
  refine ⟨ha, ?_⟩
  cases h : bare b with
  | false => rfl
  | true => rw [bare_aid b h] at ha; cases ha
set_option maxHeartbeats 4000000 in
theorem key_any (b : Nat) (w : World) (hb : b < 256) :
    Calls Tryd.prog 26 #[.int .u8 (b : Int)] w fun e w' => e = .returned (.tuple #[.bool (aid b), .bool (bare b)]) ∧ w = w' := by
  by_cases h0 : b = 109
  · subst h0
    go_enter Tryd.func26, Tryd.ntmps26
    go_wp2
    go_ret2
    exact ⟨rfl, rfl⟩
  by_cases h1 : b = 108
  · subst h1
    go_enter Tryd.func26, Tryd.ntmps26
    go_wp2
    go_ret2
    exact ⟨rfl, rfl⟩
  by_cases h2 : b = 110
  · subst h2
    go_enter Tryd.func26, Tryd.ntmps26
    go_wp2
    go_ret2
    exact ⟨rfl, rfl⟩
  by_cases h3 : b = 107
  · subst h3
    go_enter Tryd.func26, Tryd.ntmps26
    go_wp2
    go_ret2
    exact ⟨rfl, rfl⟩
  by_cases h4 : b = 125
  · subst h4
    go_enter Tryd.func26, Tryd.ntmps26
    go_wp2
    go_ret2
    exact ⟨rfl, rfl⟩
  by_cases h5 : b = 241
  · subst h5
    go_enter Tryd.func26, Tryd.ntmps26
    go_wp2
    go_ret2
    exact ⟨rfl, rfl⟩
  by_cases h6 : b = 242
  · subst h6
    go_enter Tryd.func26, Tryd.ntmps26
    go_wp2
    go_ret2
    exact ⟨rfl, rfl⟩
  by_cases h7 : b = 243
  · subst h7
    go_enter Tryd.func26, Tryd.ntmps26
    go_wp2
    go_ret2
    exact ⟨rfl, rfl⟩
  by_cases h8 : b = 244
  · subst h8
    go_enter Tryd.func26, Tryd.ntmps26
    go_wp2
    go_ret2
    exact ⟨rfl, rfl⟩
  by_cases h9 : b = 245
  · subst h9
    go_enter Tryd.func26, Tryd.ntmps26
    go_wp2
    go_ret2
    exact ⟨rfl, rfl⟩
  by_cases h10 : b = 246
  · subst h10
    go_enter Tryd.func26, Tryd.ntmps26
    go_wp2
    go_ret2
    exact ⟨rfl, rfl⟩
  by_cases h11 : b = 247
  · subst h11
    go_enter Tryd.func26, Tryd.ntmps26
    go_wp2
    go_ret2
    exact ⟨rfl, rfl⟩
  by_cases h12 : b = 248
  · subst h12
    go_enter Tryd.func26, Tryd.ntmps26
    go_wp2
    go_ret2
    exact ⟨rfl, rfl⟩
  by_cases h13 : b = 249
  · subst h13
    go_enter Tryd.func26, Tryd.ntmps26
    go_wp2
    go_ret2
    exact ⟨rfl, rfl⟩
  by_cases h14 : b = 122
  · subst h14
    go_enter Tryd.func26, Tryd.ntmps26
    go_wp2
    go_ret2
    exact ⟨rfl, rfl⟩
  by_cases h15 : b = 123
  · subst h15
    go_enter Tryd.func26, Tryd.ntmps26
    go_wp2
    go_ret2
    exact ⟨rfl, rfl⟩
  by_cases h16 : b = 124
  · subst h16
    go_enter Tryd.func26, Tryd.ntmps26
    go_wp2
    go_ret2
    exact ⟨rfl, rfl⟩
  obtain ⟨ha, hr⟩ := aid_no hb h0 h1 h2 h3 h4 h5 h6 h7 h8 h9 h10 h11 h12 h13 h14 h15 h16
  rw [ha, hr]
  have k0 : ((b : Int) == 109) = false := by simp; omega
  have k1 : ((b : Int) == 108) = false := by simp; omega
  have k2 : ((b : Int) == 110) = false := by simp; omega
  have k3 : ((b : Int) == 107) = false := by simp; omega
  have k4 : ((b : Int) == 125) = false := by simp; omega
  have k5 : ((b : Int) == 241) = false := by simp; omega
  have k6 : ((b : Int) == 242) = false := by simp; omega
  have k7 : ((b : Int) == 243) = false := by simp; omega
  have k8 : ((b : Int) == 244) = false := by simp; omega
  have k9 : ((b : Int) == 245) = false := by simp; omega
  have k10 : ((b : Int) == 246) = false := by simp; omega
  have k11 : ((b : Int) == 247) = false := by simp; omega
  have k12 : ((b : Int) == 248) = false := by simp; omega
  have k13 : ((b : Int) == 249) = false := by simp; omega
  have k14 : ((b : Int) == 122) = false := by simp; omega
  have k15 : ((b : Int) == 123) = false := by simp; omega
  have k16 : ((b : Int) == 124) = false := by simp; omega
  clear ha hr h0 h1 h2 h3 h4 h5 h6 h7 h8 h9 h10 h11 h12 h13 h14 h15 h16
  go_enter Tryd.func26, Tryd.ntmps26
  go_wp2
  go_ret2
  exact ⟨rfl, rfl⟩
theorem aid_any (b : Nat) (w : World) (hb : b < 256) :
    Calls Tryd.prog 17 #[.int .u8 (b : Int)] w fun e w' => e = .returned (.bool (aid b)) ∧ w = w' := by
  have HK := fun W => key_any b W hb
  generalize aid b = x at HK ⊢
  generalize bare b = y at HK
  go_enter Tryd.func17, Tryd.ntmps17
  go_wp2_with (go_at_call 26; refine (HK _).mono ?_; rintro e w' ⟨rfl, rfl⟩)
  go_ret
  exact ⟨rfl, rfl⟩
theorem bare_any (b : Nat) (w : World) (hb : b < 256) :
    Calls Tryd.prog 19 #[.int .u8 (b : Int)] w fun e w' => e = .returned (.bool (bare b)) ∧ w = w' := by
  have HK := fun W => key_any b W hb
  generalize aid b = x at HK
  generalize bare b = y at HK ⊢
  go_enter Tryd.func19, Tryd.ntmps19
  go_wp2_with (go_at_call 26; refine (HK _).mono ?_; rintro e w' ⟨rfl, rfl⟩)
  go_ret
  exact ⟨rfl, rfl⟩
theorem bit_ne (b : Bool) (n : Nat) (h : 0 < n) : (((bit b n : Nat) : Int) != 0) = b := by
  unfold bit; cases b <;> simp; omega
theorem masks : ∀ k, k < 64 → bits .and .i64 ((k : Nat) : Int) 32 = (bit (k / 32 % 2 == 1) 32 : Nat) ∧ bits .and .i64 ((k : Nat) : Int) 16 = (bit (k / 16 % 2 == 1) 16 : Nat)
    ∧ bits .and .i64 ((k : Nat) : Int) 4 = (bit (k / 4 % 2 == 1) 4 : Nat) ∧ bits .and .i64 ((k : Nat) : Int) 2 = (bit (k / 2 % 2 == 1) 2 : Nat) ∧ bits .and .i64 ((k : Nat) : Int) 1 = (bit (k % 2 == 1) 1 : Nat) := by
  decide +kernel
theorem num_bits (p n m : Bool) (s : Nat) (hs : s < 4) : (num p n m s / 32 % 2 == 1) = p ∧ (num p n m s / 16 % 2 == 1) = n ∧ (num p n m s / 2 % 2 == 1) = false ∧ (num p n m s % 2 == 1) = m ∧ num p n m s / 4 % 4 = s := by
  unfold num bit
  obtain rfl | rfl | rfl | rfl : s = 0 ∨ s = 1 ∨ s = 2 ∨ s = 3 := by omega
  all_goals cases p <;> cases n <;> cases m <;> decide
theorem wnum_bits (a u r : Bool) : (wnum a u r / 4 % 2 == 1) = a ∧ (wnum a u r / 2 % 2 == 1) = u ∧ (wnum a u r % 2 == 1) = r := by
  cases a <;> cases u <;> cases r <;> decide
set_option maxHeartbeats 4000000 in
theorem get_ok (p n m : Bool) (s : Nat) (w : World) (hs : s < 4) :
    Calls Tryd.prog 11 #[.int .u8 (put (num p n m s) : Nat)] w fun e w' => e = .returned (.tuple #[.agg #[.bool p, .bool n, .int .i64 (s : Int), .bool m], .nilIface]) ∧ Below w.heap.size w w' := by
  have hn := num_lt p n m s hs
  have HG := fun W => get_yes (put (num p n m s)) W (put_lt _ hn) (graphic_put _ hn)
  rw [put_low _ hn] at HG
  obtain ⟨b32, b16, b2, b1, b4⟩ := num_bits p n m s hs
  obtain ⟨q32, q16, _, q2, q1⟩ := masks (num p n m s) hn
  rw [b32] at q32
  rw [b16] at q16
  rw [b2] at q2
  rw [b1] at q1
  have q2 : bits .and .i64 (num p n m s : Nat) 2 = 0 := q2
  have q4 : ((num p n m s : Nat) : Int) / 4 % 4 = s := by omega
  have z32 := bit_ne p 32 (by decide)
  have z16 := bit_ne n 16 (by decide)
  have z1 := bit_ne m 1 (by decide)
  clear b32 b16 b2 b1 b4
  generalize put (num p n m s) = b at HG
  generalize num p n m s = k at *
  have HB := Lib.hid HG
  clear HG
  go_enter Tryd.func11, Tryd.ntmps11
  go_wp2_with fail
  refine (HB.out _).mono ?_
  rintro e w1 ⟨rfl, j, rfl⟩
  go_wp2_with fail
  obtain ⟨h1, h2⟩ := set4 w j 23 (.bool false) (.bool false) (.int .i64 0) (.bool false) (.bool p) (.bool n) (.int .i64 (s : Int)) (.bool m)
  have H1 := Lib.hid h1
  have H2 := Lib.hid h2
  clear h1 h2
  generalize (((((w.alloc (.cells #[.bool false, .bool false, .int .i64 0, .bool false] 23)).drewN j).setCell ⟨w.heap.size, 0, none⟩ (.bool p)).setCell ⟨w.heap.size, 1, none⟩ (.bool n)).setCell ⟨w.heap.size, 2, none⟩ (.int .i64 (s : Int))).setCell ⟨w.heap.size, 3, none⟩ (.bool m) = wz at *
  exact bodyPost_ret (v := .tuple #[.agg #[.bool p, .bool n, .int .i64 (s : Int), .bool m], .nilIface]) (results_cell_row_tmp rfl _ _ _ w.heap.size _ rfl (run_loadVar_row wz w.heap.size 23 23 _ (0, 0) _ H1.out Tryd.underlying23 rfl (by kernel_rfl)) .nilIface rfl) rfl ⟨rfl, H2.out⟩
set_option maxHeartbeats 4000000 in
theorem get_bad (b : Nat) (w : World) (hb : b < 256) (hn : noAttr b = true) :
    Calls Tryd.prog 11 #[.int .u8 (b : Int)] w fun e w' => e = .returned (.tuple #[.agg #[.bool false, .bool false, .int .i64 0, .bool false], .iface 44 (.int .i64 3)]) ∧ Below w.heap.size w w' := by
  cases hg : isGraphic b with
  | false =>
    have HB := Lib.hid fun W => get_no b W hb hg
    clear hg hn
    go_enter Tryd.func11, Tryd.ntmps11
    go_wp2_with fail
    refine (HB.out _).mono ?_
    rintro e w1 ⟨rfl, j, rfl⟩
    go_wp2_with fail
    obtain ⟨h1, h2⟩ := set4 w j 23 (.bool false) (.bool false) (.int .i64 0) (.bool false) (.bool false) (.bool false) (.int .i64 0) (.bool false)
    have H1 := Lib.hid h1
    have H2 := Lib.hid h2
    clear h1 h2
    generalize (((((w.alloc (.cells #[.bool false, .bool false, .int .i64 0, .bool false] 23)).drewN j).setCell ⟨w.heap.size, 0, none⟩ (.bool false)).setCell ⟨w.heap.size, 1, none⟩ (.bool false)).setCell ⟨w.heap.size, 2, none⟩ (.int .i64 0)).setCell ⟨w.heap.size, 3, none⟩ (.bool false) = wz at *
    exact bodyPost_ret (v := .tuple #[.agg #[.bool false, .bool false, .int .i64 0, .bool false], .iface 44 (.int .i64 3)]) (results_cell_row_tmp rfl _ _ _ w.heap.size _ rfl (run_loadVar_row wz w.heap.size 23 23 _ (0, 0) _ H1.out Tryd.underlying23 rfl (by kernel_rfl)) (.iface 44 (.int .i64 3)) rfl) rfl ⟨rfl, H2.out⟩
  | true =>
    have HG := fun W => get_yes b W hb hg
    have hm : b % 64 < 64 := Nat.mod_lt _ (by decide)
    obtain ⟨_, _, _, q2, _⟩ := masks (b % 64) hm
    have e2 : (b % 64 / 2 % 2 == 1) = true := by unfold noAttr at hn; rw [hg] at hn; simpa using hn
    rw [e2] at q2
    have q2 : bits .and .i64 (b % 64 : Nat) 2 = 2 := q2
    clear e2 hg hn
    generalize b % 64 = k at *
    have HB := Lib.hid HG
    clear HG
    go_enter Tryd.func11, Tryd.ntmps11
    go_wp2_with fail
    refine (HB.out _).mono ?_
    rintro e w1 ⟨rfl, j, rfl⟩
    go_wp2_with fail
    obtain ⟨h1, h2⟩ := set4 w j 23 (.bool false) (.bool false) (.int .i64 0) (.bool false) (.bool false) (.bool false) (.int .i64 0) (.bool false)
    have H1 := Lib.hid h1
    have H2 := Lib.hid h2
    clear h1 h2
    generalize (((((w.alloc (.cells #[.bool false, .bool false, .int .i64 0, .bool false] 23)).drewN j).setCell ⟨w.heap.size, 0, none⟩ (.bool false)).setCell ⟨w.heap.size, 1, none⟩ (.bool false)).setCell ⟨w.heap.size, 2, none⟩ (.int .i64 0)).setCell ⟨w.heap.size, 3, none⟩ (.bool false) = wz at *
    exact bodyPost_ret (v := .tuple #[.agg #[.bool false, .bool false, .int .i64 0, .bool false], .iface 44 (.int .i64 3)]) (results_cell_row_tmp rfl _ _ _ w.heap.size _ rfl (run_loadVar_row wz w.heap.size 23 23 _ (0, 0) _ H1.out Tryd.underlying23 rfl (by kernel_rfl)) (.iface 44 (.int .i64 3)) rfl) rfl ⟨rfl, H2.out⟩
end Att
end Go.Proofs.YteckncagccfioaaDoor
