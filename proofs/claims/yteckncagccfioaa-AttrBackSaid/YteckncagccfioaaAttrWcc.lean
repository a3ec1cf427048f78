/- GetWcc of package attr returns what the plain functions say. -/
import Derived.Test.YteckncagccfioaaAttrGet
namespace Go.Proofs.Yteckncagccfioaa
open Go.RowKit Six Err
namespace Att
theorem wnum_small (a u r : Bool) : wnum a u r < 64 := Nat.lt_trans (wnum_lt a u r) (by decide)
set_option maxHeartbeats 4000000 in
theorem getWcc_ok (a u r : Bool) (w : World) :
    Calls Try.prog 10 #[.int .u8 (put (wnum a u r) : Nat)] w fun e w' => e = .returned (.tuple #[.agg #[.bool a, .bool u, .bool r], .nilIface]) ∧ Below w.heap.size w w' := by
  have hn := wnum_small a u r
  have h8 := wnum_lt a u r
  have HG := fun W => get_yes (put (wnum a u r)) W (put_lt _ hn) (graphic_put _ hn)
  rw [put_low _ hn] at HG
  obtain ⟨b4, b2, b1⟩ := wnum_bits a u r
  obtain ⟨_, _, q4, q2, q1⟩ := masks (wnum a u r) hn
  rw [b4] at q4
  rw [b2] at q2
  rw [b1] at q1
  have z4 := bit_ne a 4 (by decide)
  have z2 := bit_ne u 2 (by decide)
  have z1 := bit_ne r 1 (by decide)
  clear b4 b2 b1
  generalize put (wnum a u r) = b at HG
  generalize wnum a u r = k at *
  have HB := Lib.hid HG
  clear HG
  go_enter Try.func10, Try.ntmps10
  go_wp2_with fail
  refine (HB.out _).mono ?_
  rintro e w1 ⟨rfl, j, rfl⟩
  go_wp2_with fail
  obtain ⟨h1, h2⟩ := set3 w j 25 (.bool false) (.bool false) (.bool false) (.bool a) (.bool u) (.bool r)
  have H1 := Lib.hid h1
  have H2 := Lib.hid h2
  clear h1 h2
  generalize ((((w.alloc (.cells #[.bool false, .bool false, .bool false] 25)).drewN j).setCell ⟨w.heap.size, 0, none⟩ (.bool a)).setCell ⟨w.heap.size, 1, none⟩ (.bool u)).setCell ⟨w.heap.size, 2, none⟩ (.bool r) = wz at *
  exact bodyPost_ret (v := .tuple #[.agg #[.bool a, .bool u, .bool r], .nilIface]) (results_cell_row_tmp rfl _ _ _ w.heap.size _ rfl (run_loadVar_row wz w.heap.size 25 25 _ (0, 0) _ H1.out Try.underlying25 rfl (by kernel_rfl)) .nilIface rfl) rfl ⟨rfl, H2.out⟩
set_option maxHeartbeats 4000000 in
theorem getWcc_bad (b : Nat) (w : World) (hb : b < 256) (hn : noWrite b = true) :
    Calls Try.prog 10 #[.int .u8 (b : Int)] w fun e w' => e = .returned (.tuple #[.agg #[.bool false, .bool false, .bool false], .iface 39 (.int .i64 3)]) ∧ Below w.heap.size w w' := by
  cases hg : isGraphic b with
  | false =>
    have HB := Lib.hid fun W => get_no b W hb hg
    clear hg hn
    go_enter Try.func10, Try.ntmps10
    go_wp2_with fail
    refine (HB.out _).mono ?_
    rintro e w1 ⟨rfl, j, rfl⟩
    go_wp2_with fail
    obtain ⟨h1, h2⟩ := set3 w j 25 (.bool false) (.bool false) (.bool false) (.bool false) (.bool false) (.bool false)
    have H1 := Lib.hid h1
    have H2 := Lib.hid h2
    clear h1 h2
    generalize ((((w.alloc (.cells #[.bool false, .bool false, .bool false] 25)).drewN j).setCell ⟨w.heap.size, 0, none⟩ (.bool false)).setCell ⟨w.heap.size, 1, none⟩ (.bool false)).setCell ⟨w.heap.size, 2, none⟩ (.bool false) = wz at *
    exact bodyPost_ret (v := .tuple #[.agg #[.bool false, .bool false, .bool false], .iface 39 (.int .i64 3)]) (results_cell_row_tmp rfl _ _ _ w.heap.size _ rfl (run_loadVar_row wz w.heap.size 25 25 _ (0, 0) _ H1.out Try.underlying25 rfl (by kernel_rfl)) (.iface 39 (.int .i64 3)) rfl) rfl ⟨rfl, H2.out⟩
  | true =>
    have HG := fun W => get_yes b W hb hg
    have e2 : 7 < b % 64 := by unfold noWrite at hn; rw [hg] at hn; simp at hn; omega
    clear hg hn
    generalize b % 64 = k at *
    have HB := Lib.hid HG
    clear HG
    go_enter Try.func10, Try.ntmps10
    go_wp2_with fail
    refine (HB.out _).mono ?_
    rintro e w1 ⟨rfl, j, rfl⟩
    go_wp2_with fail
    obtain ⟨h1, h2⟩ := set3 w j 25 (.bool false) (.bool false) (.bool false) (.bool false) (.bool false) (.bool false)
    have H1 := Lib.hid h1
    have H2 := Lib.hid h2
    clear h1 h2
    generalize ((((w.alloc (.cells #[.bool false, .bool false, .bool false] 25)).drewN j).setCell ⟨w.heap.size, 0, none⟩ (.bool false)).setCell ⟨w.heap.size, 1, none⟩ (.bool false)).setCell ⟨w.heap.size, 2, none⟩ (.bool false) = wz at *
    exact bodyPost_ret (v := .tuple #[.agg #[.bool false, .bool false, .bool false], .iface 39 (.int .i64 3)]) (results_cell_row_tmp rfl _ _ _ w.heap.size _ rfl (run_loadVar_row wz w.heap.size 25 25 _ (0, 0) _ H1.out Try.underlying25 rfl (by kernel_rfl)) (.iface 39 (.int .i64 3)) rfl) rfl ⟨rfl, H2.out⟩
end Att
end Go.Proofs.Yteckncagccfioaa
