/- The small functions of package hash return what the plain functions say; memory that was there stays. -/
import Derived.Test.YtdiidfkmmgcjmaaDoorRows
import Derived.WalkKit
import Derived.WalkSpells
import Derived.WalkLawsBesides
import Derived.Deep.QuietTactic
import Derived.BigQuiet
import Derived.Lib.Hide
import Derived.Test.YtdiidfkmmgcjmaaDoorShaSpec
set_option maxRecDepth 100000
namespace Go.Proofs.YtdiidfkmmgcjmaaDoor
open Go.RowKit
namespace Sha

theorem ret_u32 {a b : Int} (h : a = b) : Ending.returned (.int .u32 a) = .returned (.int .u32 b) := by rw [h]
theorem rotr_cast (x n : Nat) (hx : x < 4294967296) :
    bits .or .u32 ((x : Int) / 2 ^ n) ((x : Int) * 2 ^ (32 - n) % 4294967296) = ((rotr x n : Nat) : Int) := by
  have e1 : ((x : Int) / 2 ^ n) = ((x / 2 ^ n : Nat) : Int) := by simp
  have e2 : ((x : Int) * 2 ^ (32 - n) % 4294967296) = ((x * 2 ^ (32 - n) % 4294967296 : Nat) : Int) := by simp
  rw [e1, e2, u32_or_nat _ _ (Nat.lt_of_le_of_lt (Nat.div_le_self _ _) hx) (Nat.mod_lt _ (by decide))]; rfl
set_option maxHeartbeats 400000 in
theorem turned_any (x : Nat) (n : Int) (w : World) (hx : x < 4294967296) (h0 : 1 ≤ n) (h1 : n ≤ 31) :
    Calls Tryd.prog 56 #[.int .u32 x, .int .i64 n] w fun e w' => e = .returned (.int .u32 ((rotr x n.toNat : Nat) : Int)) ∧ ∃ k, w' = w.drewN k := by
  obtain ⟨n, rfl⟩ := Int.eq_ofNat_of_zero_le (show 0 ≤ n by omega)
  have E := rotr_cast x n hx
  have H := Lib.hid E
  clear E
  go_enter Tryd.func56, Tryd.ntmps56
  go_wp2
  go_quiet (fail)
  go_wp2
  go_ret
  exact ⟨ret_u32 H.out, _, rfl⟩

theorem xor2 (a b : Nat) (ha : a < 4294967296) (hb : b < 4294967296) : bits .xor .u32 (a : Int) (b : Int) = ((a ^^^ b : Nat) : Int) := u32_xor_nat a b ha hb
theorem div8 (x : Nat) : (x : Int) / 8 = ((x / 8 : Nat) : Int) := by omega
theorem div1024 (x : Nat) : (x : Int) / 1024 = ((x / 1024 : Nat) : Int) := by omega

set_option maxHeartbeats 400000 in
theorem ssig0_any (x : Nat) (w : World) (hx : x < 4294967296) :
    Calls Tryd.prog 55 #[.int .u32 x] w fun e w' => e = .returned (.int .u32 ((ssig0 x : Nat) : Int)) ∧ ∃ k, w' = w.drewN k := by
  have E : bits .xor .u32 (bits .xor .u32 ((rotr x 7 : Nat) : Int) ((rotr x 18 : Nat) : Int)) ((x : Int) / 8) = ((ssig0 x : Nat) : Int) := by
    rw [div8, xor2 _ _ (rotr_lt _ _ hx) (rotr_lt _ _ hx), xor2 _ _ (xor_lt (rotr_lt _ _ hx) (rotr_lt _ _ hx)) (by omega)]; rfl
  have H := Lib.hid E
  clear E
  go_enter Tryd.func55, Tryd.ntmps55
  go_wp2_with fail
  refine (turned_any x 7 _ hx (by decide) (by decide)).mono ?_
  rintro e w' ⟨rfl, k1, rfl⟩
  go_wp2_with fail
  refine (turned_any x 18 _ hx (by decide) (by decide)).mono ?_
  rintro e w' ⟨rfl, k2, rfl⟩
  go_wp2_with fail
  go_ret
  exact ⟨ret_u32 H.out, k1 + k2, rfl⟩
set_option maxHeartbeats 400000 in
theorem ssig1_any (x : Nat) (w : World) (hx : x < 4294967296) :
    Calls Tryd.prog 54 #[.int .u32 x] w fun e w' => e = .returned (.int .u32 ((ssig1 x : Nat) : Int)) ∧ ∃ k, w' = w.drewN k := by
  have E : bits .xor .u32 (bits .xor .u32 ((rotr x 17 : Nat) : Int) ((rotr x 19 : Nat) : Int)) ((x : Int) / 1024) = ((ssig1 x : Nat) : Int) := by
    rw [div1024, xor2 _ _ (rotr_lt _ _ hx) (rotr_lt _ _ hx), xor2 _ _ (xor_lt (rotr_lt _ _ hx) (rotr_lt _ _ hx)) (by omega)]; rfl
  have H := Lib.hid E
  clear E
  go_enter Tryd.func54, Tryd.ntmps54
  go_wp2_with fail
  refine (turned_any x 17 _ hx (by decide) (by decide)).mono ?_
  rintro e w' ⟨rfl, k1, rfl⟩
  go_wp2_with fail
  refine (turned_any x 19 _ hx (by decide) (by decide)).mono ?_
  rintro e w' ⟨rfl, k2, rfl⟩
  go_wp2_with fail
  go_ret
  exact ⟨ret_u32 H.out, k1 + k2, rfl⟩

set_option maxHeartbeats 400000 in
theorem bsig0_any (x : Nat) (w : World) (hx : x < 4294967296) :
    Calls Tryd.prog 53 #[.int .u32 x] w fun e w' => e = .returned (.int .u32 ((bsig0 x : Nat) : Int)) ∧ ∃ k, w' = w.drewN k := by
  have E : bits .xor .u32 (bits .xor .u32 ((rotr x 2 : Nat) : Int) ((rotr x 13 : Nat) : Int)) ((rotr x 22 : Nat) : Int) = ((bsig0 x : Nat) : Int) := by
    rw [xor2 _ _ (rotr_lt _ _ hx) (rotr_lt _ _ hx), xor2 _ _ (xor_lt (rotr_lt _ _ hx) (rotr_lt _ _ hx)) (rotr_lt _ _ hx)]; rfl
  have H := Lib.hid E
  clear E
  go_enter Tryd.func53, Tryd.ntmps53
  go_wp2_with fail
  refine (turned_any x 2 _ hx (by decide) (by decide)).mono ?_
  rintro e w' ⟨rfl, k1, rfl⟩
  go_wp2_with fail
  refine (turned_any x 13 _ hx (by decide) (by decide)).mono ?_
  rintro e w' ⟨rfl, k2, rfl⟩
  go_wp2_with fail
  refine (turned_any x 22 _ hx (by decide) (by decide)).mono ?_
  rintro e w' ⟨rfl, k3, rfl⟩
  go_wp2_with fail
  go_ret
  exact ⟨ret_u32 H.out, k1 + k2 + k3, rfl⟩

set_option maxHeartbeats 400000 in
theorem bsig1_any (x : Nat) (w : World) (hx : x < 4294967296) :
    Calls Tryd.prog 52 #[.int .u32 x] w fun e w' => e = .returned (.int .u32 ((bsig1 x : Nat) : Int)) ∧ ∃ k, w' = w.drewN k := by
  have E : bits .xor .u32 (bits .xor .u32 ((rotr x 6 : Nat) : Int) ((rotr x 11 : Nat) : Int)) ((rotr x 25 : Nat) : Int) = ((bsig1 x : Nat) : Int) := by
    rw [xor2 _ _ (rotr_lt _ _ hx) (rotr_lt _ _ hx), xor2 _ _ (xor_lt (rotr_lt _ _ hx) (rotr_lt _ _ hx)) (rotr_lt _ _ hx)]; rfl
  have H := Lib.hid E
  clear E
  go_enter Tryd.func52, Tryd.ntmps52
  go_wp2_with fail
  refine (turned_any x 6 _ hx (by decide) (by decide)).mono ?_
  rintro e w' ⟨rfl, k1, rfl⟩
  go_wp2_with fail
  refine (turned_any x 11 _ hx (by decide) (by decide)).mono ?_
  rintro e w' ⟨rfl, k2, rfl⟩
  go_wp2_with fail
  refine (turned_any x 25 _ hx (by decide) (by decide)).mono ?_
  rintro e w' ⟨rfl, k3, rfl⟩
  go_wp2_with fail
  go_ret
  exact ⟨ret_u32 H.out, k1 + k2 + k3, rfl⟩

set_option maxHeartbeats 400000 in
theorem value_any (d : Nat) (w : World) (hd : d < 256) :
    Calls Tryd.prog 47 #[.int .u8 d] w fun e w' => e = .returned (.int .u32 ((dval d : Nat) : Int)) ∧ w = w' := by
  by_cases h : 97 ≤ d
  · have E : ((d : Int) - 97 + 10) = ((dval d : Nat) : Int) := by unfold dval; rw [if_pos h]; omega
    have H := Lib.hid E
    clear E
    go_enter Tryd.func47, Tryd.ntmps47
    go_wp2
    go_ret
    exact ⟨ret_u32 H.out, rfl⟩
  · have E : (((d : Int) - 48) % 256) = ((dval d : Nat) : Int) := by unfold dval; rw [if_neg h]; omega
    have H := Lib.hid E
    clear E
    go_enter Tryd.func47, Tryd.ntmps47
    go_wp2
    go_ret
    exact ⟨ret_u32 H.out, rfl⟩
end Sha
end Go.Proofs.YtdiidfkmmgcjmaaDoor
