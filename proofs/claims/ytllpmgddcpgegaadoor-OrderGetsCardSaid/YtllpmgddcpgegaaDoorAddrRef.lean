/- The document's Get of an address. -/
import Derived.Test.YtllpmgddcpgegaaDoorSixRget
import Derived.Test.YtllpmgddcpgegaaDoorAddrGet
namespace Go.Proofs.YtllpmgddcpgegaaDoor
open Go.RowKit Err Six
namespace Adr
theorem rget_size (ad : Option Addr) (len cap : Nat) (n : Int) (w : World) (h : n < 1 ∨ 16383 < n) :
    Calls Tryd.prog 44 #[.slice ad len cap, .int .i64 n] w fun e w' => e = .returned (.tuple #[.int .i64 0, .int .i64 1, .int .i64 (-1)]) ∧ Below w.heap.size w w' := by
  rcases h with h | h
  · go_enter Tryd.func44, Tryd.ntmps44
    go_wp2_with fail
    go_ret3
    exact ⟨rfl, Below.refl _ _⟩
  · go_enter Tryd.func44, Tryd.ntmps44
    go_wp2_with fail
    go_ret3
    exact ⟨rfl, Below.refl _ _⟩
theorem rget_cut (ad : Option Addr) (len cap n : Nat) (w : World) (h1 : 1 ≤ n) (h2 : n ≤ 16383) (hl : len < 2) :
    Calls Tryd.prog 44 #[.slice ad len cap, .int .i64 (n : Int)] w fun e w' => e = .returned (.tuple #[.int .i64 0, .int .i64 2, .int .i64 (-1)]) ∧ Below w.heap.size w w' := by
  go_enter Tryd.func44, Tryd.ntmps44
  go_wp2_with fail
  go_ret3
  exact ⟨rfl, Below.refl _ _⟩
set_option maxHeartbeats 1000000 in
theorem rget_s_ok (g o len cap n x y : Nat) (w : World) (h1 : 1 ≤ n) (h2 : n ≤ 16383) (hl : 2 ≤ len) (hx : x < 256) (hy : y < 256) (c0 : w.cell? ⟨g, o, none⟩ = some (.int .u8 (x : Int))) (c1 : w.cell? ⟨g, o + 1, none⟩ = some (.int .u8 (y : Int))) (hn : n ≤ 4096) (gx : isGraphic x = true) (gy : isGraphic y = true) (hv : 64 * (x % 64) + y % 64 < n) :
    Calls Tryd.prog 44 #[.slice (some ⟨g, o, none⟩) len cap, .int .i64 (n : Int)] w fun e w' => e = .returned (.tuple #[.int .i64 (64 * ((x % 64 : Nat) : Int) + (y % 64 : Nat)), .int .i64 0, .int .i64 (-1)]) ∧ Below w.heap.size w w' := by
  have HX := fun W => rget_yes x W hx gx
  have HY := fun W => rget_yes y W hy gy
  clear gx gy
  have lx : x % 64 < 64 := Nat.mod_lt _ (by decide)
  generalize x % 64 = h at *
  have ly : y % 64 < 64 := Nat.mod_lt _ (by decide)
  generalize y % 64 = l at *
  have HX := Lib.hid HX
  have HY := Lib.hid HY
  go_enter Tryd.func44, Tryd.ntmps44
  go_wp2_with fail
  go_quiet (fail)
  go_wp2_with fail
  refine (HX.out _).mono ?_
  rintro e w1 ⟨rfl, m, rfl⟩
  clear HX
  go_wp2_with fail
  refine (HY.out _).mono ?_
  rintro e w1 ⟨rfl, m, rfl⟩
  clear HY
  go_wp2_with fail
  go_ret3
  exact ⟨rfl, below_drewN _ _ _⟩
set_option maxHeartbeats 1000000 in
theorem rget_s_addr (g o len cap n x y : Nat) (w : World) (h1 : 1 ≤ n) (h2 : n ≤ 16383) (hl : 2 ≤ len) (hx : x < 256) (hy : y < 256) (c0 : w.cell? ⟨g, o, none⟩ = some (.int .u8 (x : Int))) (c1 : w.cell? ⟨g, o + 1, none⟩ = some (.int .u8 (y : Int))) (hn : n ≤ 4096) (gx : isGraphic x = true) (gy : isGraphic y = true) (hv : n ≤ 64 * (x % 64) + y % 64) :
    Calls Tryd.prog 44 #[.slice (some ⟨g, o, none⟩) len cap, .int .i64 (n : Int)] w fun e w' => e = .returned (.tuple #[.int .i64 0, .int .i64 4, .int .i64 (-1)]) ∧ Below w.heap.size w w' := by
  have HX := fun W => rget_yes x W hx gx
  have HY := fun W => rget_yes y W hy gy
  clear gx gy
  have lx : x % 64 < 64 := Nat.mod_lt _ (by decide)
  generalize x % 64 = h at *
  have ly : y % 64 < 64 := Nat.mod_lt _ (by decide)
  generalize y % 64 = l at *
  have HX := Lib.hid HX
  have HY := Lib.hid HY
  go_enter Tryd.func44, Tryd.ntmps44
  go_wp2_with fail
  go_quiet (fail)
  go_wp2_with fail
  refine (HX.out _).mono ?_
  rintro e w1 ⟨rfl, m, rfl⟩
  clear HX
  go_wp2_with fail
  refine (HY.out _).mono ?_
  rintro e w1 ⟨rfl, m, rfl⟩
  clear HY
  go_wp2_with fail
  go_ret3
  exact ⟨rfl, below_drewN _ _ _⟩
set_option maxHeartbeats 1000000 in
theorem rget_s_0t (g o len cap n x y : Nat) (w : World) (h1 : 1 ≤ n) (h2 : n ≤ 16383) (hl : 2 ≤ len) (hx : x < 256) (hy : y < 256) (c0 : w.cell? ⟨g, o, none⟩ = some (.int .u8 (x : Int))) (c1 : w.cell? ⟨g, o + 1, none⟩ = some (.int .u8 (y : Int))) (hn : n ≤ 4096) (gx : isGraphic x = false) (gy : isGraphic y = true) :
    Calls Tryd.prog 44 #[.slice (some ⟨g, o, none⟩) len cap, .int .i64 (n : Int)] w fun e w' => e = .returned (.tuple #[.int .i64 0, .int .i64 3, .int .i64 0]) ∧ Below w.heap.size w w' := by
  have HX := fun W => rget_no x W hx gx
  have HY := fun W => rget_yes y W hy gy
  clear gx gy
  have ly : y % 64 < 64 := Nat.mod_lt _ (by decide)
  generalize y % 64 = l at *
  have HX := Lib.hid HX
  have HY := Lib.hid HY
  go_enter Tryd.func44, Tryd.ntmps44
  go_wp2_with fail
  go_quiet (fail)
  go_wp2_with fail
  refine (HX.out _).mono ?_
  rintro e w1 ⟨rfl, m, rfl⟩
  clear HX
  go_wp2_with fail
  refine (HY.out _).mono ?_
  rintro e w1 ⟨rfl, m, rfl⟩
  clear HY
  go_wp2_with fail
  go_ret3
  exact ⟨rfl, below_drewN _ _ _⟩
set_option maxHeartbeats 1000000 in
theorem rget_s_0f (g o len cap n x y : Nat) (w : World) (h1 : 1 ≤ n) (h2 : n ≤ 16383) (hl : 2 ≤ len) (hx : x < 256) (hy : y < 256) (c0 : w.cell? ⟨g, o, none⟩ = some (.int .u8 (x : Int))) (c1 : w.cell? ⟨g, o + 1, none⟩ = some (.int .u8 (y : Int))) (hn : n ≤ 4096) (gx : isGraphic x = false) (gy : isGraphic y = false) :
    Calls Tryd.prog 44 #[.slice (some ⟨g, o, none⟩) len cap, .int .i64 (n : Int)] w fun e w' => e = .returned (.tuple #[.int .i64 0, .int .i64 3, .int .i64 0]) ∧ Below w.heap.size w w' := by
  have HX := fun W => rget_no x W hx gx
  have HY := fun W => rget_no y W hy gy
  clear gx gy
  have HX := Lib.hid HX
  have HY := Lib.hid HY
  go_enter Tryd.func44, Tryd.ntmps44
  go_wp2_with fail
  go_quiet (fail)
  go_wp2_with fail
  refine (HX.out _).mono ?_
  rintro e w1 ⟨rfl, m, rfl⟩
  clear HX
  go_wp2_with fail
  refine (HY.out _).mono ?_
  rintro e w1 ⟨rfl, m, rfl⟩
  clear HY
  go_wp2_with fail
  go_ret3
  exact ⟨rfl, below_drewN _ _ _⟩
set_option maxHeartbeats 1000000 in
theorem rget_s_1 (g o len cap n x y : Nat) (w : World) (h1 : 1 ≤ n) (h2 : n ≤ 16383) (hl : 2 ≤ len) (hx : x < 256) (hy : y < 256) (c0 : w.cell? ⟨g, o, none⟩ = some (.int .u8 (x : Int))) (c1 : w.cell? ⟨g, o + 1, none⟩ = some (.int .u8 (y : Int))) (hn : n ≤ 4096) (gx : isGraphic x = true) (gy : isGraphic y = false) :
    Calls Tryd.prog 44 #[.slice (some ⟨g, o, none⟩) len cap, .int .i64 (n : Int)] w fun e w' => e = .returned (.tuple #[.int .i64 0, .int .i64 3, .int .i64 1]) ∧ Below w.heap.size w w' := by
  have HX := fun W => rget_yes x W hx gx
  have HY := fun W => rget_no y W hy gy
  clear gx gy
  have lx : x % 64 < 64 := Nat.mod_lt _ (by decide)
  generalize x % 64 = h at *
  have HX := Lib.hid HX
  have HY := Lib.hid HY
  go_enter Tryd.func44, Tryd.ntmps44
  go_wp2_with fail
  go_quiet (fail)
  go_wp2_with fail
  refine (HX.out _).mono ?_
  rintro e w1 ⟨rfl, m, rfl⟩
  clear HX
  go_wp2_with fail
  refine (HY.out _).mono ?_
  rintro e w1 ⟨rfl, m, rfl⟩
  clear HY
  go_wp2_with fail
  go_ret3
  exact ⟨rfl, below_drewN _ _ _⟩
set_option maxHeartbeats 1000000 in
theorem rget_l_ok (g o len cap n x y : Nat) (w : World) (h1 : 1 ≤ n) (h2 : n ≤ 16383) (hl : 2 ≤ len) (hx : x < 256) (hy : y < 256) (c0 : w.cell? ⟨g, o, none⟩ = some (.int .u8 (x : Int))) (c1 : w.cell? ⟨g, o + 1, none⟩ = some (.int .u8 (y : Int))) (hn : 4096 < n) (lx : x < 64) (hv : 256 * x + y < n) :
    Calls Tryd.prog 44 #[.slice (some ⟨g, o, none⟩) len cap, .int .i64 (n : Int)] w fun e w' => e = .returned (.tuple #[.int .i64 (256 * (x : Int) + y), .int .i64 0, .int .i64 (-1)]) ∧ Below w.heap.size w w' := by
  go_enter Tryd.func44, Tryd.ntmps44
  go_wp2_with fail
  go_quiet (fail)
  go_wp2_with fail
  go_ret3
  exact ⟨rfl, below_drewN _ _ _⟩
set_option maxHeartbeats 1000000 in
theorem rget_l_addr (g o len cap n x y : Nat) (w : World) (h1 : 1 ≤ n) (h2 : n ≤ 16383) (hl : 2 ≤ len) (hx : x < 256) (hy : y < 256) (c0 : w.cell? ⟨g, o, none⟩ = some (.int .u8 (x : Int))) (c1 : w.cell? ⟨g, o + 1, none⟩ = some (.int .u8 (y : Int))) (hn : 4096 < n) (lx : x < 64) (hv : n ≤ 256 * x + y) :
    Calls Tryd.prog 44 #[.slice (some ⟨g, o, none⟩) len cap, .int .i64 (n : Int)] w fun e w' => e = .returned (.tuple #[.int .i64 0, .int .i64 4, .int .i64 (-1)]) ∧ Below w.heap.size w w' := by
  go_enter Tryd.func44, Tryd.ntmps44
  go_wp2_with fail
  go_quiet (fail)
  go_wp2_with fail
  go_ret3
  exact ⟨rfl, below_drewN _ _ _⟩
set_option maxHeartbeats 1000000 in
theorem rget_l_0 (g o len cap n x y : Nat) (w : World) (h1 : 1 ≤ n) (h2 : n ≤ 16383) (hl : 2 ≤ len) (hx : x < 256) (hy : y < 256) (c0 : w.cell? ⟨g, o, none⟩ = some (.int .u8 (x : Int))) (c1 : w.cell? ⟨g, o + 1, none⟩ = some (.int .u8 (y : Int))) (hn : 4096 < n) (lx : 64 ≤ x) :
    Calls Tryd.prog 44 #[.slice (some ⟨g, o, none⟩) len cap, .int .i64 (n : Int)] w fun e w' => e = .returned (.tuple #[.int .i64 0, .int .i64 3, .int .i64 0]) ∧ Below w.heap.size w w' := by
  go_enter Tryd.func44, Tryd.ntmps44
  go_wp2_with fail
  go_quiet (fail)
  go_wp2_with fail
  go_ret3
  exact ⟨rfl, below_drewN _ _ _⟩
end Adr
end Go.Proofs.YtllpmgddcpgegaaDoor
