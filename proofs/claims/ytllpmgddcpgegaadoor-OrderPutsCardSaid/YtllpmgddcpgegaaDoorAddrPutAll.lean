/- Put of package addr, of whatever number. (Sizes that may be.) -/
import Derived.Test.YtllpmgddcpgegaaDoorAddrPut
import Derived.Test.YtllpmgddcpgegaaDoorAddrFirst
namespace Go.Proofs.YtllpmgddcpgegaaDoor
open Go.RowKit Err Six
namespace Adr
theorem put_all (a n : Nat) (w : World) (ha : a < n) (h2 : n ≤ 16383) :
    Calls Tryd.prog 26 #[.int .i64 (a : Int), .int .i64 (n : Int)] w fun e w' => e = .returned (.tuple #[.agg #[.int .u8 (first a n : Nat), .int .u8 (second a n : Nat)], .nilIface]) ∧ Below w.heap.size w w' := by
  unfold first second
  by_cases h : n ≤ 4096
  · rw [if_pos h, if_pos h]; exact put_short a n w ha h
  · rw [if_neg h, if_neg h]; exact put_long a n w ha (by omega) h2
set_option maxHeartbeats 1000000 in
theorem put_none (a : Int) (n : Nat) (w : World) (h1 : 1 ≤ n) (h2 : n ≤ 16383) (ha : a < 0 ∨ n ≤ a) :
    Calls Tryd.prog 26 #[.int .i64 a, .int .i64 (n : Int)] w fun e w' => e = .returned (.tuple #[.agg #[.int .u8 0, .int .u8 0], .iface 57 (.int .i64 4)]) ∧ Below w.heap.size w w' := by
  have HS := Lib.hid fun W => size_yes n W h1 h2
  have HA : Hid (Below w.heap.size w (w.alloc (.cells #[.int .u8 0, .int .u8 0] 54))) := (Below.refl _ _).alloc (Nat.le_refl _) _
  have HN := Lib.hid (heap_alloc_new w (.cells #[.int .u8 0, .int .u8 0] 54))
  by_cases h : a < 0
  · clear ha h1 h2
    go_enter Tryd.func26, Tryd.ntmps26
    go_wp2_with fail
    refine (HS.out _).mono ?_
    rintro e w1 ⟨rfl, rfl⟩
    clear HS
    go_wp2_with fail
    exact bodyPost_ret (v := .tuple #[.agg #[.int .u8 0, .int .u8 0], .iface 57 (.int .i64 4)]) (results_cell_row_tmp rfl _ _ _ w.heap.size _ rfl (run_loadVar_row _ w.heap.size 54 54 _ (0, 0) _ HN.out Tryd.underlying54 rfl (by kernel_rfl)) (.iface 57 (.int .i64 4)) rfl) rfl ⟨rfl, HA.out⟩
  · have h3 : (n : Int) ≤ a := by omega
    clear ha h1 h2
    go_enter Tryd.func26, Tryd.ntmps26
    go_wp2_with fail
    refine (HS.out _).mono ?_
    rintro e w1 ⟨rfl, rfl⟩
    clear HS
    go_wp2_with fail
    exact bodyPost_ret (v := .tuple #[.agg #[.int .u8 0, .int .u8 0], .iface 57 (.int .i64 4)]) (results_cell_row_tmp rfl _ _ _ w.heap.size _ rfl (run_loadVar_row _ w.heap.size 54 54 _ (0, 0) _ HN.out Tryd.underlying54 rfl (by kernel_rfl)) (.iface 57 (.int .i64 4)) rfl) rfl ⟨rfl, HA.out⟩
end Adr
end Go.Proofs.YtllpmgddcpgegaaDoor
