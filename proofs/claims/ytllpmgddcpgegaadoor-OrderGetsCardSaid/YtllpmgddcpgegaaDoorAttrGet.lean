/- Get of package attr returns what the plain functions say. -/
import Derived.Test.YtllpmgddcpgegaaDoorAttrLeaf
import Derived.Test.YtllpmgddcpgegaaDoorCells
namespace Go.Proofs.YtllpmgddcpgegaaDoor
open Go.RowKit Six Err
namespace Att
theorem bit_ne (b : Bool) (n : Nat) (h : 0 < n) : (((bit b n : Nat) : Int) != 0) = b := by
  unfold bit; cases b <;> simp; omega
theorem masks : ∀ k, k < 64 → bits .and .i64 ((k : Nat) : Int) 32 = (bit (k / 32 % 2 == 1) 32 : Nat) ∧ bits .and .i64 ((k : Nat) : Int) 16 = (bit (k / 16 % 2 == 1) 16 : Nat)
    ∧ bits .and .i64 ((k : Nat) : Int) 4 = (bit (k / 4 % 2 == 1) 4 : Nat) ∧ bits .and .i64 ((k : Nat) : Int) 2 = (bit (k / 2 % 2 == 1) 2 : Nat) ∧ bits .and .i64 ((k : Nat) : Int) 1 = (bit (k % 2 == 1) 1 : Nat) := by
  decide +kernel
theorem num_bits (p n m : Bool) (s : Nat) (hs : s < 4) : (num p n m s / 32 % 2 == 1) = p ∧ (num p n m s / 16 % 2 == 1) = n ∧ (num p n m s / 2 % 2 == 1) = false ∧ (num p n m s % 2 == 1) = m ∧ num p n m s / 4 % 4 = s := by
  unfold num bit
  obtain rfl | rfl | rfl | rfl : s = 0 ∨ s = 1 ∨ s = 2 ∨ s = 3 := by omega
  all_goals cases p <;> cases n <;> cases m <;> decide
theorem wnum_bits (a u r : Bool) : (wnum a u r / 4 % 2 == 1) = a ∧ (wnum a u r / 2 % 2 == 1) = u ∧ (wnum a u r % 2 == 1) = r := by
  cases a <;> cases u <;> cases r <;> decide
set_option maxHeartbeats 4000000 in
theorem get_ok (p n m : Bool) (s : Nat) (w : World) (hs : s < 4) :
    Calls Tryd.prog 60 #[.int .u8 (put (num p n m s) : Nat)] w fun e w' => e = .returned (.tuple #[.agg #[.bool p, .bool n, .int .i64 (s : Int), .bool m], .nilIface]) ∧ Below w.heap.size w w' := by
  have hn := num_lt p n m s hs
  have HG := fun W => get_yes (put (num p n m s)) W (put_lt _ hn) (graphic_put _ hn)
  rw [put_low _ hn] at HG
  obtain ⟨b32, b16, b2, b1, b4⟩ := num_bits p n m s hs
  obtain ⟨q32, q16, _, q2, q1⟩ := masks (num p n m s) hn
  rw [b32] at q32
  rw [b16] at q16
  rw [b2] at q2
  rw [b1] at q1
  have q2 : bits .and .i64 (num p n m s : Nat) 2 = 0 := q2
  have q4 : ((num p n m s : Nat) : Int) / 4 % 4 = s := by omega
  have z32 := bit_ne p 32 (by decide)
  have z16 := bit_ne n 16 (by decide)
  have z1 := bit_ne m 1 (by decide)
  clear b32 b16 b2 b1 b4
  generalize put (num p n m s) = b at HG
  generalize num p n m s = k at *
  have HB := Lib.hid HG
  clear HG
  go_enter Tryd.func60, Tryd.ntmps60
  go_wp2_with fail
  refine (HB.out _).mono ?_
  rintro e w1 ⟨rfl, j, rfl⟩
  go_wp2_with fail
  obtain ⟨h1, h2⟩ := set4 w j 24 (.bool false) (.bool false) (.int .i64 0) (.bool false) (.bool p) (.bool n) (.int .i64 (s : Int)) (.bool m)
  have H1 := Lib.hid h1
  have H2 := Lib.hid h2
  clear h1 h2
  generalize (((((w.alloc (.cells #[.bool false, .bool false, .int .i64 0, .bool false] 24)).drewN j).setCell ⟨w.heap.size, 0, none⟩ (.bool p)).setCell ⟨w.heap.size, 1, none⟩ (.bool n)).setCell ⟨w.heap.size, 2, none⟩ (.int .i64 (s : Int))).setCell ⟨w.heap.size, 3, none⟩ (.bool m) = wz at *
  exact bodyPost_ret (v := .tuple #[.agg #[.bool p, .bool n, .int .i64 (s : Int), .bool m], .nilIface]) (results_cell_row_tmp rfl _ _ _ w.heap.size _ rfl (run_loadVar_row wz w.heap.size 24 24 _ (0, 0) _ H1.out Tryd.underlying24 rfl (by kernel_rfl)) .nilIface rfl) rfl ⟨rfl, H2.out⟩
set_option maxHeartbeats 4000000 in
theorem get_bad (b : Nat) (w : World) (hb : b < 256) (hn : noAttr b = true) :
    Calls Tryd.prog 60 #[.int .u8 (b : Int)] w fun e w' => e = .returned (.tuple #[.agg #[.bool false, .bool false, .int .i64 0, .bool false], .iface 57 (.int .i64 3)]) ∧ Below w.heap.size w w' := by
  cases hg : isGraphic b with
  | false =>
    have HB := Lib.hid fun W => get_no b W hb hg
    clear hg hn
    go_enter Tryd.func60, Tryd.ntmps60
    go_wp2_with fail
    refine (HB.out _).mono ?_
    rintro e w1 ⟨rfl, j, rfl⟩
    go_wp2_with fail
    obtain ⟨h1, h2⟩ := set4 w j 24 (.bool false) (.bool false) (.int .i64 0) (.bool false) (.bool false) (.bool false) (.int .i64 0) (.bool false)
    have H1 := Lib.hid h1
    have H2 := Lib.hid h2
    clear h1 h2
    generalize (((((w.alloc (.cells #[.bool false, .bool false, .int .i64 0, .bool false] 24)).drewN j).setCell ⟨w.heap.size, 0, none⟩ (.bool false)).setCell ⟨w.heap.size, 1, none⟩ (.bool false)).setCell ⟨w.heap.size, 2, none⟩ (.int .i64 0)).setCell ⟨w.heap.size, 3, none⟩ (.bool false) = wz at *
    exact bodyPost_ret (v := .tuple #[.agg #[.bool false, .bool false, .int .i64 0, .bool false], .iface 57 (.int .i64 3)]) (results_cell_row_tmp rfl _ _ _ w.heap.size _ rfl (run_loadVar_row wz w.heap.size 24 24 _ (0, 0) _ H1.out Tryd.underlying24 rfl (by kernel_rfl)) (.iface 57 (.int .i64 3)) rfl) rfl ⟨rfl, H2.out⟩
  | true =>
    have HG := fun W => get_yes b W hb hg
    have hm : b % 64 < 64 := Nat.mod_lt _ (by decide)
    obtain ⟨_, _, _, q2, _⟩ := masks (b % 64) hm
    have e2 : (b % 64 / 2 % 2 == 1) = true := by unfold noAttr at hn; rw [hg] at hn; simpa using hn
    rw [e2] at q2
    have q2 : bits .and .i64 (b % 64 : Nat) 2 = 2 := q2
    clear e2 hg hn
    generalize b % 64 = k at *
    have HB := Lib.hid HG
    clear HG
    go_enter Tryd.func60, Tryd.ntmps60
    go_wp2_with fail
    refine (HB.out _).mono ?_
    rintro e w1 ⟨rfl, j, rfl⟩
    go_wp2_with fail
    obtain ⟨h1, h2⟩ := set4 w j 24 (.bool false) (.bool false) (.int .i64 0) (.bool false) (.bool false) (.bool false) (.int .i64 0) (.bool false)
    have H1 := Lib.hid h1
    have H2 := Lib.hid h2
    clear h1 h2
    generalize (((((w.alloc (.cells #[.bool false, .bool false, .int .i64 0, .bool false] 24)).drewN j).setCell ⟨w.heap.size, 0, none⟩ (.bool false)).setCell ⟨w.heap.size, 1, none⟩ (.bool false)).setCell ⟨w.heap.size, 2, none⟩ (.int .i64 0)).setCell ⟨w.heap.size, 3, none⟩ (.bool false) = wz at *
    exact bodyPost_ret (v := .tuple #[.agg #[.bool false, .bool false, .int .i64 0, .bool false], .iface 57 (.int .i64 3)]) (results_cell_row_tmp rfl _ _ _ w.heap.size _ rfl (run_loadVar_row wz w.heap.size 24 24 _ (0, 0) _ H1.out Tryd.underlying24 rfl (by kernel_rfl)) (.iface 57 (.int .i64 3)) rfl) rfl ⟨rfl, H2.out⟩
end Att
end Go.Proofs.YtllpmgddcpgegaaDoor
