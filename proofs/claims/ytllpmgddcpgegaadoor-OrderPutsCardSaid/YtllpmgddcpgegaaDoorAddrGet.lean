/- Get of package addr: the address, or what is wrong. -/
import Derived.Test.YtllpmgddcpgegaaDoorAddrRead
namespace Go.Proofs.YtllpmgddcpgegaaDoor
open Go.RowKit Err Six
namespace Adr
theorem or6 (h l : Nat) (hh : h < 64) (hl : l < 64) : bits .or .i64 ((h : Int) * 64) (l : Int) = 64 * (h : Int) + l := by
  have e : h * 64 ||| l = 64 * h + l := by
    have := Nat.shiftLeft_add_eq_or_of_lt (i := 6) (b := l) hl h
    rw [show h <<< 6 = h * 64 from Nat.shiftLeft_eq h 6] at this
    omega
  rw [show (h : Int) * 64 = ((h * 64 : Nat) : Int) by omega, i64_or_nat _ _ (by omega) (by omega), e]; omega
theorem or8 (h l : Nat) (hh : h < 64) (hl : l < 256) : bits .or .i64 ((h : Int) * 256) (l : Int) = 256 * (h : Int) + l := by
  have e : h * 256 ||| l = 256 * h + l := by
    have := Nat.shiftLeft_add_eq_or_of_lt (i := 8) (b := l) hl h
    rw [show h <<< 8 = h * 256 from Nat.shiftLeft_eq h 8] at this
    omega
  rw [show (h : Int) * 256 = ((h * 256 : Nat) : Int) by omega, i64_or_nat _ _ (by omega) (by omega), e]; omega
theorem size_no (n : Int) (w : World) (h : n < 1 ∨ 16383 < n) :
    Calls Tryd.prog 48 #[.int .i64 n] w fun e w' => e = .returned (.bool false) ∧ w = w' :=
  (isSize_any n w).mono fun _ _ ⟨he, hm⟩ => ⟨by rw [he]; exact ret_bool (by simp; omega), hm⟩
theorem get_size (ad : Option Addr) (len cap : Nat) (n : Int) (w : World) (h : n < 1 ∨ 16383 < n) :
    Calls Tryd.prog 61 #[.slice ad len cap, .int .i64 n] w fun e w' => e = .returned (.tuple #[.int .i64 0, .iface 57 (.int .i64 1)]) ∧ w = w' := by
  have HS := Lib.hid fun W => size_no n W h
  clear h
  go_enter Tryd.func61, Tryd.ntmps61
  go_wp2_with fail
  refine (HS.out _).mono ?_
  rintro e w1 ⟨rfl, rfl⟩
  clear HS
  go_wp2_with fail
  go_ret2
  exact ⟨rfl, rfl⟩
theorem get_cut (ad : Option Addr) (len cap n : Nat) (w : World) (h : 1 ≤ n) (h2 : n ≤ 16383) (hl : len < 2) :
    Calls Tryd.prog 61 #[.slice ad len cap, .int .i64 (n : Int)] w fun e w' => e = .returned (.tuple #[.int .i64 0, .iface 57 (.int .i64 2)]) ∧ w = w' := by
  have HS := Lib.hid fun W => size_yes n W h h2
  go_enter Tryd.func61, Tryd.ntmps61
  go_wp2_with fail
  refine (HS.out _).mono ?_
  rintro e w1 ⟨rfl, rfl⟩
  clear HS
  go_wp2_with fail
  go_ret2
  exact ⟨rfl, rfl⟩
set_option maxHeartbeats 1000000 in
theorem get_short_ok (ad : Option Addr) (len cap n h l : Nat) (w : World) (h1 : 1 ≤ n) (h2 : n ≤ 16383) (hn : n ≤ 4096) (hl : 2 ≤ len) (hh : h < 64) (hll : l < 64) (hv : 64 * h + l < n)
    (HR : Calls Tryd.prog 69 #[.slice ad len cap] w fun e w' => e = .returned (.tuple #[.int .i64 (h : Int), .int .i64 (l : Int), .nilIface]) ∧ ∃ m, w' = w.drewN m) :
    Calls Tryd.prog 61 #[.slice ad len cap, .int .i64 (n : Int)] w fun e w' => e = .returned (.tuple #[.int .i64 (64 * (h : Int) + l), .nilIface]) ∧ Below w.heap.size w w' := by
  have HS := Lib.hid fun W => size_yes n W h1 h2
  have HL := Lib.hid fun W => long_no n W hn
  have HB := Lib.hid fun W => lowBits_short n W (by omega)
  have HR := Lib.hid HR
  have e0 := or6 h l hh hll
  have e1 : IntKind.i64.wrap ((h : Int) * 64) = (h : Int) * 64 := by rw [IntWalk.i64_in] <;> omega
  go_enter Tryd.func61, Tryd.ntmps61
  go_wp2_with fail
  refine (HS.out _).mono ?_
  rintro e w1 ⟨rfl, rfl⟩
  clear HS
  go_wp2_with fail
  refine (HL.out _).mono ?_
  rintro e w1 ⟨rfl, rfl⟩
  clear HL
  go_wp2_with fail
  refine HR.out.mono ?_
  rintro e w1 ⟨rfl, m, rfl⟩
  clear HR
  go_wp2_with fail
  refine (HB.out _).mono ?_
  rintro e w1 ⟨rfl, rfl⟩
  clear HB
  go_wp2_with fail
  go_ret2
  exact ⟨rfl, below_drewN _ _ _⟩
set_option maxHeartbeats 1000000 in
theorem get_short_addr (ad : Option Addr) (len cap n h l : Nat) (w : World) (h1 : 1 ≤ n) (h2 : n ≤ 16383) (hn : n ≤ 4096) (hl : 2 ≤ len) (hh : h < 64) (hll : l < 64) (hv : n ≤ 64 * h + l)
    (HR : Calls Tryd.prog 69 #[.slice ad len cap] w fun e w' => e = .returned (.tuple #[.int .i64 (h : Int), .int .i64 (l : Int), .nilIface]) ∧ ∃ m, w' = w.drewN m) :
    Calls Tryd.prog 61 #[.slice ad len cap, .int .i64 (n : Int)] w fun e w' => e = .returned (.tuple #[.int .i64 0, .iface 57 (.int .i64 4)]) ∧ Below w.heap.size w w' := by
  have HS := Lib.hid fun W => size_yes n W h1 h2
  have HL := Lib.hid fun W => long_no n W hn
  have HB := Lib.hid fun W => lowBits_short n W (by omega)
  have HR := Lib.hid HR
  have e0 := or6 h l hh hll
  have e1 : IntKind.i64.wrap ((h : Int) * 64) = (h : Int) * 64 := by rw [IntWalk.i64_in] <;> omega
  go_enter Tryd.func61, Tryd.ntmps61
  go_wp2_with fail
  refine (HS.out _).mono ?_
  rintro e w1 ⟨rfl, rfl⟩
  clear HS
  go_wp2_with fail
  refine (HL.out _).mono ?_
  rintro e w1 ⟨rfl, rfl⟩
  clear HL
  go_wp2_with fail
  refine HR.out.mono ?_
  rintro e w1 ⟨rfl, m, rfl⟩
  clear HR
  go_wp2_with fail
  refine (HB.out _).mono ?_
  rintro e w1 ⟨rfl, rfl⟩
  clear HB
  go_wp2_with fail
  go_ret2
  exact ⟨rfl, below_drewN _ _ _⟩
set_option maxHeartbeats 1000000 in
theorem get_short_spot (ad : Option Addr) (len cap n : Nat) (k : Int) (w : World) (h1 : 1 ≤ n) (h2 : n ≤ 16383) (hn : n ≤ 4096) (hl : 2 ≤ len)
    (HR : Calls Tryd.prog 69 #[.slice ad len cap] w fun e w' => ∃ B, e = .returned (.tuple #[.int .i64 0, .int .i64 0, .iface 78 (.pointer (some ⟨B, 0, none⟩))]) ∧ SpotAt w' B k 3 ∧ Below w.heap.size w w') :
    Calls Tryd.prog 61 #[.slice ad len cap, .int .i64 (n : Int)] w fun e w' => ∃ B, e = .returned (.tuple #[.int .i64 0, .iface 78 (.pointer (some ⟨B, 0, none⟩))]) ∧ SpotAt w' B k 3 ∧ Below w.heap.size w w' := by
  have HS := Lib.hid fun W => size_yes n W h1 h2
  have HL := Lib.hid fun W => long_no n W hn
  have HR := Lib.hid HR
  go_enter Tryd.func61, Tryd.ntmps61
  go_wp2_with fail
  refine (HS.out _).mono ?_
  rintro e w1 ⟨rfl, rfl⟩
  clear HS
  go_wp2_with fail
  refine (HL.out _).mono ?_
  rintro e w1 ⟨rfl, rfl⟩
  clear HL
  go_wp2_with fail
  refine HR.out.mono ?_
  rintro e w1 ⟨B, rfl, hs, hb⟩
  have HS := Lib.hid hs
  have HB := Lib.hid hb
  clear HR hs hb
  go_wp2_with fail
  go_ret2
  exact ⟨B, rfl, HS.out, HB.out⟩
set_option maxHeartbeats 1000000 in
theorem get_long_ok (ad : Option Addr) (len cap n h l : Nat) (w : World) (h1 : 1 ≤ n) (h2 : n ≤ 16383) (hn : 4096 < n) (hl : 2 ≤ len) (hh : h < 64) (hll : l < 256) (hv : 256 * h + l < n)
    (HR : Calls Tryd.prog 70 #[.slice ad len cap] w fun e w' => e = .returned (.tuple #[.int .i64 (h : Int), .int .i64 (l : Int), .nilIface]) ∧ ∃ m, w' = w.drewN m) :
    Calls Tryd.prog 61 #[.slice ad len cap, .int .i64 (n : Int)] w fun e w' => e = .returned (.tuple #[.int .i64 (256 * (h : Int) + l), .nilIface]) ∧ Below w.heap.size w w' := by
  have HS := Lib.hid fun W => size_yes n W h1 h2
  have HL := Lib.hid fun W => long_yes n W hn
  have HB := Lib.hid fun W => lowBits_long n W (by omega)
  have HR := Lib.hid HR
  have e0 := or8 h l hh hll
  have e1 : IntKind.i64.wrap ((h : Int) * 256) = (h : Int) * 256 := by rw [IntWalk.i64_in] <;> omega
  go_enter Tryd.func61, Tryd.ntmps61
  go_wp2_with fail
  refine (HS.out _).mono ?_
  rintro e w1 ⟨rfl, rfl⟩
  clear HS
  go_wp2_with fail
  refine (HL.out _).mono ?_
  rintro e w1 ⟨rfl, rfl⟩
  clear HL
  go_wp2_with fail
  refine HR.out.mono ?_
  rintro e w1 ⟨rfl, m, rfl⟩
  clear HR
  go_wp2_with fail
  refine (HB.out _).mono ?_
  rintro e w1 ⟨rfl, rfl⟩
  clear HB
  go_wp2_with fail
  go_ret2
  exact ⟨rfl, below_drewN _ _ _⟩
set_option maxHeartbeats 1000000 in
theorem get_long_addr (ad : Option Addr) (len cap n h l : Nat) (w : World) (h1 : 1 ≤ n) (h2 : n ≤ 16383) (hn : 4096 < n) (hl : 2 ≤ len) (hh : h < 64) (hll : l < 256) (hv : n ≤ 256 * h + l)
    (HR : Calls Tryd.prog 70 #[.slice ad len cap] w fun e w' => e = .returned (.tuple #[.int .i64 (h : Int), .int .i64 (l : Int), .nilIface]) ∧ ∃ m, w' = w.drewN m) :
    Calls Tryd.prog 61 #[.slice ad len cap, .int .i64 (n : Int)] w fun e w' => e = .returned (.tuple #[.int .i64 0, .iface 57 (.int .i64 4)]) ∧ Below w.heap.size w w' := by
  have HS := Lib.hid fun W => size_yes n W h1 h2
  have HL := Lib.hid fun W => long_yes n W hn
  have HB := Lib.hid fun W => lowBits_long n W (by omega)
  have HR := Lib.hid HR
  have e0 := or8 h l hh hll
  have e1 : IntKind.i64.wrap ((h : Int) * 256) = (h : Int) * 256 := by rw [IntWalk.i64_in] <;> omega
  go_enter Tryd.func61, Tryd.ntmps61
  go_wp2_with fail
  refine (HS.out _).mono ?_
  rintro e w1 ⟨rfl, rfl⟩
  clear HS
  go_wp2_with fail
  refine (HL.out _).mono ?_
  rintro e w1 ⟨rfl, rfl⟩
  clear HL
  go_wp2_with fail
  refine HR.out.mono ?_
  rintro e w1 ⟨rfl, m, rfl⟩
  clear HR
  go_wp2_with fail
  refine (HB.out _).mono ?_
  rintro e w1 ⟨rfl, rfl⟩
  clear HB
  go_wp2_with fail
  go_ret2
  exact ⟨rfl, below_drewN _ _ _⟩
set_option maxHeartbeats 1000000 in
theorem get_long_spot (ad : Option Addr) (len cap n : Nat) (k : Int) (w : World) (h1 : 1 ≤ n) (h2 : n ≤ 16383) (hn : 4096 < n) (hl : 2 ≤ len)
    (HR : Calls Tryd.prog 70 #[.slice ad len cap] w fun e w' => ∃ B, e = .returned (.tuple #[.int .i64 0, .int .i64 0, .iface 78 (.pointer (some ⟨B, 0, none⟩))]) ∧ SpotAt w' B k 3 ∧ Below w.heap.size w w') :
    Calls Tryd.prog 61 #[.slice ad len cap, .int .i64 (n : Int)] w fun e w' => ∃ B, e = .returned (.tuple #[.int .i64 0, .iface 78 (.pointer (some ⟨B, 0, none⟩))]) ∧ SpotAt w' B k 3 ∧ Below w.heap.size w w' := by
  have HS := Lib.hid fun W => size_yes n W h1 h2
  have HL := Lib.hid fun W => long_yes n W hn
  have HR := Lib.hid HR
  go_enter Tryd.func61, Tryd.ntmps61
  go_wp2_with fail
  refine (HS.out _).mono ?_
  rintro e w1 ⟨rfl, rfl⟩
  clear HS
  go_wp2_with fail
  refine (HL.out _).mono ?_
  rintro e w1 ⟨rfl, rfl⟩
  clear HL
  go_wp2_with fail
  refine HR.out.mono ?_
  rintro e w1 ⟨B, rfl, hs, hb⟩
  have HS := Lib.hid hs
  have HB := Lib.hid hb
  clear HR hs hb
  go_wp2_with fail
  go_ret2
  exact ⟨B, rfl, HS.out, HB.out⟩
end Adr
end Go.Proofs.YtllpmgddcpgegaaDoor
