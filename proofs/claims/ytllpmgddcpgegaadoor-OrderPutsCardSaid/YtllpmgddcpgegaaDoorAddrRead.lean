/- getShort and getLong of package addr. -/
import Derived.Test.YtllpmgddcpgegaaDoorAddrSize
namespace Go.Proofs.YtllpmgddcpgegaaDoor
open Go.RowKit Err Six
namespace Adr
theorem ret3 {a b : Int} {c d : Int} {v : Value} (h : a = b) (k : c = d) : Ending.returned (.tuple #[.int .i64 a, .int .i64 c, v]) = .returned (.tuple #[.int .i64 b, .int .i64 d, v]) := by rw [h, k]
theorem spot_new (w : World) (m : Nat) (n k : Int) :
    SpotAt ((w.drewN m).alloc (.cells #[.int .i64 n, .iface 57 (.int .i64 k)] 81)) w.heap.size n k ∧ Below w.heap.size w ((w.drewN m).alloc (.cells #[.int .i64 n, .iface 57 (.int .i64 k)] 81)) := by
  have h : ((w.drewN m).alloc (.cells #[.int .i64 n, .iface 57 (.int .i64 k)] 81)).heap[w.heap.size]? = some (.cells #[.int .i64 n, .iface 57 (.int .i64 k)] 81 (0, 0)) := heap_alloc_new (w.drewN m) _
  exact ⟨⟨cell_of_row _ _ 0 _ _ _ h, cell_of_row _ _ 1 _ _ _ h⟩, (below_drewN w.heap.size m w).alloc (Nat.le_refl _) _⟩
set_option maxHeartbeats 1000000 in
theorem getShort_ok (g o len cap x y : Nat) (w : World) (hl : 2 ≤ len) (hx : x < 256) (hy : y < 256) (h0 : w.cell? ⟨g, o, none⟩ = some (.int .u8 (x : Int))) (h1 : w.cell? ⟨g, o + 1, none⟩ = some (.int .u8 (y : Int))) (gx : isGraphic x = true) (gy : isGraphic y = true) :
    Calls Tryd.prog 69 #[.slice (some ⟨g, o, none⟩) len cap] w fun e w' => e = .returned (.tuple #[.int .i64 (x % 64 : Nat), .int .i64 (y % 64 : Nat), .nilIface]) ∧ ∃ m, w' = w.drewN m := by
  have HX := Lib.hid fun W => get_yes x W hx gx
  have HY := Lib.hid fun W => get_yes y W hy gy
  clear gx gy
  go_enter Tryd.func69, Tryd.ntmps69
  go_wp2_with fail
  refine (HX.out _).mono ?_
  rintro e w1 ⟨rfl, m, rfl⟩
  clear HX
  go_wp2_with fail
  refine (HY.out _).mono ?_
  rintro e w2 ⟨rfl, m2, rfl⟩
  clear HY
  go_wp2_with fail
  go_ret3
  exact ⟨rfl, _, rfl⟩
set_option maxHeartbeats 1000000 in
theorem getShort_0 (g o len cap x : Nat) (w : World) (hl : 2 ≤ len) (hx : x < 256) (h0 : w.cell? ⟨g, o, none⟩ = some (.int .u8 (x : Int))) (gx : isGraphic x = false) :
    Calls Tryd.prog 69 #[.slice (some ⟨g, o, none⟩) len cap] w fun e w' => ∃ B, e = .returned (.tuple #[.int .i64 0, .int .i64 0, .iface 78 (.pointer (some ⟨B, 0, none⟩))]) ∧ SpotAt w' B 0 3 ∧ Below w.heap.size w w' := by
  have HX := Lib.hid fun W => get_no x W hx gx
  clear gx
  go_enter Tryd.func69, Tryd.ntmps69
  go_wp2_with fail
  refine (HX.out _).mono ?_
  rintro e w1 ⟨rfl, m, rfl⟩
  clear HX
  go_wp2_with fail
  go_ret3
  exact ⟨_, rfl, spot_new w m 0 3⟩
set_option maxHeartbeats 1000000 in
theorem getShort_1 (g o len cap x y : Nat) (w : World) (hl : 2 ≤ len) (hx : x < 256) (hy : y < 256) (h0 : w.cell? ⟨g, o, none⟩ = some (.int .u8 (x : Int))) (h1 : w.cell? ⟨g, o + 1, none⟩ = some (.int .u8 (y : Int))) (gx : isGraphic x = true) (gy : isGraphic y = false) :
    Calls Tryd.prog 69 #[.slice (some ⟨g, o, none⟩) len cap] w fun e w' => ∃ B, e = .returned (.tuple #[.int .i64 0, .int .i64 0, .iface 78 (.pointer (some ⟨B, 0, none⟩))]) ∧ SpotAt w' B 1 3 ∧ Below w.heap.size w w' := by
  have HX := Lib.hid fun W => get_yes x W hx gx
  have HY := Lib.hid fun W => get_no y W hy gy
  clear gx gy
  go_enter Tryd.func69, Tryd.ntmps69
  go_wp2_with fail
  refine (HX.out _).mono ?_
  rintro e w1 ⟨rfl, m, rfl⟩
  clear HX
  go_wp2_with fail
  refine (HY.out _).mono ?_
  rintro e w2 ⟨rfl, m2, rfl⟩
  clear HY
  go_wp2_with fail
  go_ret3
  exact ⟨_, rfl, spot_new w (m + m2) 1 3⟩
set_option maxHeartbeats 1000000 in
theorem getLong_ok (g o len cap x y : Nat) (w : World) (hl : 2 ≤ len) (hx : x < 64) (hy : y < 256) (h0 : w.cell? ⟨g, o, none⟩ = some (.int .u8 (x : Int))) (h1 : w.cell? ⟨g, o + 1, none⟩ = some (.int .u8 (y : Int))) :
    Calls Tryd.prog 70 #[.slice (some ⟨g, o, none⟩) len cap] w fun e w' => e = .returned (.tuple #[.int .i64 (x : Int), .int .i64 (y : Int), .nilIface]) ∧ ∃ m, w' = w.drewN m := by
  go_enter Tryd.func70, Tryd.ntmps70
  go_wp2_with fail
  go_quiet (fail)
  go_wp2_with fail
  go_ret3
  exact ⟨rfl, _, rfl⟩
set_option maxHeartbeats 1000000 in
theorem getLong_0 (g o len cap x : Nat) (w : World) (hl : 2 ≤ len) (hx : x < 256) (hx2 : 64 ≤ x) (h0 : w.cell? ⟨g, o, none⟩ = some (.int .u8 (x : Int))) :
    Calls Tryd.prog 70 #[.slice (some ⟨g, o, none⟩) len cap] w fun e w' => ∃ B, e = .returned (.tuple #[.int .i64 0, .int .i64 0, .iface 78 (.pointer (some ⟨B, 0, none⟩))]) ∧ SpotAt w' B 0 3 ∧ Below w.heap.size w w' := by
  go_enter Tryd.func70, Tryd.ntmps70
  go_wp2_with fail
  go_ret3
  exact ⟨_, rfl, spot_new w 0 0 3⟩
end Adr
end Go.Proofs.YtllpmgddcpgegaaDoor
