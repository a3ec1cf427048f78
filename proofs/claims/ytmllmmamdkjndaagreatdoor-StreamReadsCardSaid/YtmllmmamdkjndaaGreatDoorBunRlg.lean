/- SixRget, AddrRef, AddrRall, AttrRget, AttrRgetW in one text (by tools/bundle.py). -/
import Derived.Test.YtmllmmamdkjndaaGreatDoorBunRlp
import Derived.Test.YtmllmmamdkjndaaGreatDoorBunLow
/- The document's Get of layer 3 returns what the plain function says. -/
namespace Go.Proofs.YtmllmmamdkjndaaGreatDoor
open Go.RowKit
namespace Six
set_option maxHeartbeats 1000000 in
theorem rget_yes (b : Nat) (w : World) (_hb : b < 256) (hg : isGraphic b = true) :
    Calls Tryz.prog 51 #[.int .u8 (b : Int)] w fun e w' => e = .returned (.int .i64 (b % 64 : Nat)) ∧ ∃ m, w' = w.drewN m := by
  have hpg := put_of_graphic hg
  have HN : ∀ k, k < b % 64 → put k ≠ b := fun k hk e => by
    have := put_low k (by omega)
    rw [e] at this; omega
  have hn : b % 64 < 64 := Nat.mod_lt _ (by decide)
  have HP := Lib.hid hpg
  have HQ := Lib.hid HN
  clear hpg HN hg
  generalize b % 64 = n at *
  go_enter Tryz.func51, Tryz.ntmps51
  go_wp2_with fail
  go_loopw [3] (fun i wr => ∃ k m : Nat, k ≤ n ∧ i = .int .i64 k ∧ wr = w.drewN m) (fun i _ => n - (intOf i).toNat)
  case atStart => exact ⟨0, 0, Nat.zero_le _, rfl, rfl⟩
  case round =>
    obtain ⟨k, m, hk, rfl, rfl⟩ := hrel
    by_cases hlt : k < n
    · have hne := HQ.out k hlt
      have HC := fun W => rput_any k W (by omega)
      generalize put k = p at hne HC
      have t1 : (((p : Nat) : Int) == (b : Int)) = false := by simp; omega
      go_wp2_with (go_at_call 49; refine (HC _).mono ?_; rintro e w' ⟨rfl, m, rfl⟩)
      go_roundw
      case rel => exact ⟨k + 1, _, by omega, by go_num, rfl⟩
      case measure => simp [intOf]; omega
    · obtain rfl : k = n := by omega
      have HC := fun W => rput_any k W hn
      rw [HP.out] at HC
      go_wp2_with (go_at_call 49; refine (HC _).mono ?_; rintro e w' ⟨rfl, m, rfl⟩)
      go_ret
      exact ⟨rfl, _, rfl⟩
set_option maxHeartbeats 1000000 in
theorem rget_no (b : Nat) (w : World) (_hb : b < 256) (hg : isGraphic b = false) :
    Calls Tryz.prog 51 #[.int .u8 (b : Int)] w fun e w' => e = .returned (.int .i64 (-1)) ∧ ∃ m, w' = w.drewN m := by
  have HQ := Lib.hid (not_graphic hg)
  clear hg
  go_enter Tryz.func51, Tryz.ntmps51
  go_wp2_with fail
  go_loopw [3] (fun i wr => ∃ k m : Nat, k ≤ 64 ∧ i = .int .i64 k ∧ wr = w.drewN m) (fun i _ => 64 - (intOf i).toNat)
  case atStart => exact ⟨0, 0, Nat.zero_le _, rfl, rfl⟩
  case round =>
    obtain ⟨k, m, hk, rfl, rfl⟩ := hrel
    by_cases hlt : k < 64
    · have hne := HQ.out k hlt
      have HC := fun W => rput_any k W hlt
      generalize put k = p at hne HC
      have t1 : (((p : Nat) : Int) == (b : Int)) = false := by simp; omega
      go_wp2_with (go_at_call 49; refine (HC _).mono ?_; rintro e w' ⟨rfl, m, rfl⟩)
      go_roundw
      case rel => exact ⟨k + 1, _, by omega, by go_num, rfl⟩
      case measure => simp [intOf]; omega
    · obtain rfl : k = 64 := by omega
      clear hlt hk
      go_wp2_with fail
      go_ret
      exact ⟨rfl, _, rfl⟩
end Six
end Go.Proofs.YtmllmmamdkjndaaGreatDoor
/- The document's Get of an address. -/
namespace Go.Proofs.YtmllmmamdkjndaaGreatDoor
open Go.RowKit Err Six
namespace Adr
theorem rget_size (ad : Option Addr) (len cap : Nat) (n : Int) (w : World) (h : n < 1 ∨ 16383 < n) :
    Calls Tryz.prog 36 #[.slice ad len cap, .int .i64 n] w fun e w' => e = .returned (.tuple #[.int .i64 0, .int .i64 1, .int .i64 (-1)]) ∧ Below w.heap.size w w' := by
  rcases h with h | h
  · go_enter Tryz.func36, Tryz.ntmps36
    go_wp2_with fail
    go_ret3
    exact ⟨rfl, Below.refl _ _⟩
  · go_enter Tryz.func36, Tryz.ntmps36
    go_wp2_with fail
    go_ret3
    exact ⟨rfl, Below.refl _ _⟩
theorem rget_cut (ad : Option Addr) (len cap n : Nat) (w : World) (h1 : 1 ≤ n) (h2 : n ≤ 16383) (hl : len < 2) :
    Calls Tryz.prog 36 #[.slice ad len cap, .int .i64 (n : Int)] w fun e w' => e = .returned (.tuple #[.int .i64 0, .int .i64 2, .int .i64 (-1)]) ∧ Below w.heap.size w w' := by
  go_enter Tryz.func36, Tryz.ntmps36
  go_wp2_with fail
  go_ret3
  exact ⟨rfl, Below.refl _ _⟩
set_option maxHeartbeats 1000000 in
theorem rget_s_ok (g o len cap n x y : Nat) (w : World) (h1 : 1 ≤ n) (h2 : n ≤ 16383) (hl : 2 ≤ len) (hx : x < 256) (hy : y < 256) (c0 : w.cell? ⟨g, o, none⟩ = some (.int .u8 (x : Int))) (c1 : w.cell? ⟨g, o + 1, none⟩ = some (.int .u8 (y : Int))) (hn : n ≤ 4096) (gx : isGraphic x = true) (gy : isGraphic y = true) (hv : 64 * (x % 64) + y % 64 < n) :
    Calls Tryz.prog 36 #[.slice (some ⟨g, o, none⟩) len cap, .int .i64 (n : Int)] w fun e w' => e = .returned (.tuple #[.int .i64 (64 * ((x % 64 : Nat) : Int) + (y % 64 : Nat)), .int .i64 0, .int .i64 (-1)]) ∧ Below w.heap.size w w' := by
  have HX := fun W => rget_yes x W hx gx
  have HY := fun W => rget_yes y W hy gy
  clear gx gy
  have lx : x % 64 < 64 := Nat.mod_lt _ (by decide)
  generalize x % 64 = h at *
  have ly : y % 64 < 64 := Nat.mod_lt _ (by decide)
  generalize y % 64 = l at *
  have HX := Lib.hid HX
  have HY := Lib.hid HY
  go_enter Tryz.func36, Tryz.ntmps36
  go_wp2_with fail
  go_quiet (fail)
  go_wp2_with fail
  refine (HX.out _).mono ?_
  rintro e w1 ⟨rfl, m, rfl⟩
  clear HX
  go_wp2_with fail
  refine (HY.out _).mono ?_
  rintro e w1 ⟨rfl, m, rfl⟩
  clear HY
  go_wp2_with fail
  go_ret3
  exact ⟨rfl, below_drewN _ _ _⟩
set_option maxHeartbeats 1000000 in
theorem rget_s_addr (g o len cap n x y : Nat) (w : World) (h1 : 1 ≤ n) (h2 : n ≤ 16383) (hl : 2 ≤ len) (hx : x < 256) (hy : y < 256) (c0 : w.cell? ⟨g, o, none⟩ = some (.int .u8 (x : Int))) (c1 : w.cell? ⟨g, o + 1, none⟩ = some (.int .u8 (y : Int))) (hn : n ≤ 4096) (gx : isGraphic x = true) (gy : isGraphic y = true) (hv : n ≤ 64 * (x % 64) + y % 64) :
    Calls Tryz.prog 36 #[.slice (some ⟨g, o, none⟩) len cap, .int .i64 (n : Int)] w fun e w' => e = .returned (.tuple #[.int .i64 0, .int .i64 4, .int .i64 (-1)]) ∧ Below w.heap.size w w' := by
  have HX := fun W => rget_yes x W hx gx
  have HY := fun W => rget_yes y W hy gy
  clear gx gy
  have lx : x % 64 < 64 := Nat.mod_lt _ (by decide)
  generalize x % 64 = h at *
  have ly : y % 64 < 64 := Nat.mod_lt _ (by decide)
  generalize y % 64 = l at *
  have HX := Lib.hid HX
  have HY := Lib.hid HY
  go_enter Tryz.func36, Tryz.ntmps36
  go_wp2_with fail
  go_quiet (fail)
  go_wp2_with fail
  refine (HX.out _).mono ?_
  rintro e w1 ⟨rfl, m, rfl⟩
  clear HX
  go_wp2_with fail
  refine (HY.out _).mono ?_
  rintro e w1 ⟨rfl, m, rfl⟩
  clear HY
  go_wp2_with fail
  go_ret3
  exact ⟨rfl, below_drewN _ _ _⟩
set_option maxHeartbeats 1000000 in
theorem rget_s_0t (g o len cap n x y : Nat) (w : World) (h1 : 1 ≤ n) (h2 : n ≤ 16383) (hl : 2 ≤ len) (hx : x < 256) (hy : y < 256) (c0 : w.cell? ⟨g, o, none⟩ = some (.int .u8 (x : Int))) (c1 : w.cell? ⟨g, o + 1, none⟩ = some (.int .u8 (y : Int))) (hn : n ≤ 4096) (gx : isGraphic x = false) (gy : isGraphic y = true) :
    Calls Tryz.prog 36 #[.slice (some ⟨g, o, none⟩) len cap, .int .i64 (n : Int)] w fun e w' => e = .returned (.tuple #[.int .i64 0, .int .i64 3, .int .i64 0]) ∧ Below w.heap.size w w' := by
  have HX := fun W => rget_no x W hx gx
  have HY := fun W => rget_yes y W hy gy
  clear gx gy
  have ly : y % 64 < 64 := Nat.mod_lt _ (by decide)
  generalize y % 64 = l at *
  have HX := Lib.hid HX
  have HY := Lib.hid HY
  go_enter Tryz.func36, Tryz.ntmps36
  go_wp2_with fail
  go_quiet (fail)
  go_wp2_with fail
  refine (HX.out _).mono ?_
  rintro e w1 ⟨rfl, m, rfl⟩
  clear HX
  go_wp2_with fail
  refine (HY.out _).mono ?_
  rintro e w1 ⟨rfl, m, rfl⟩
  clear HY
  go_wp2_with fail
  go_ret3
  exact ⟨rfl, below_drewN _ _ _⟩
set_option maxHeartbeats 1000000 in
theorem rget_s_0f (g o len cap n x y : Nat) (w : World) (h1 : 1 ≤ n) (h2 : n ≤ 16383) (hl : 2 ≤ len) (hx : x < 256) (hy : y < 256) (c0 : w.cell? ⟨g, o, none⟩ = some (.int .u8 (x : Int))) (c1 : w.cell? ⟨g, o + 1, none⟩ = some (.int .u8 (y : Int))) (hn : n ≤ 4096) (gx : isGraphic x = false) (gy : isGraphic y = false) :
    Calls Tryz.prog 36 #[.slice (some ⟨g, o, none⟩) len cap, .int .i64 (n : Int)] w fun e w' => e = .returned (.tuple #[.int .i64 0, .int .i64 3, .int .i64 0]) ∧ Below w.heap.size w w' := by
  have HX := fun W => rget_no x W hx gx
  have HY := fun W => rget_no y W hy gy
  clear gx gy
  have HX := Lib.hid HX
  have HY := Lib.hid HY
  go_enter Tryz.func36, Tryz.ntmps36
  go_wp2_with fail
  go_quiet (fail)
  go_wp2_with fail
  refine (HX.out _).mono ?_
  rintro e w1 ⟨rfl, m, rfl⟩
  clear HX
  go_wp2_with fail
  refine (HY.out _).mono ?_
  rintro e w1 ⟨rfl, m, rfl⟩
  clear HY
  go_wp2_with fail
  go_ret3
  exact ⟨rfl, below_drewN _ _ _⟩
set_option maxHeartbeats 1000000 in
theorem rget_s_1 (g o len cap n x y : Nat) (w : World) (h1 : 1 ≤ n) (h2 : n ≤ 16383) (hl : 2 ≤ len) (hx : x < 256) (hy : y < 256) (c0 : w.cell? ⟨g, o, none⟩ = some (.int .u8 (x : Int))) (c1 : w.cell? ⟨g, o + 1, none⟩ = some (.int .u8 (y : Int))) (hn : n ≤ 4096) (gx : isGraphic x = true) (gy : isGraphic y = false) :
    Calls Tryz.prog 36 #[.slice (some ⟨g, o, none⟩) len cap, .int .i64 (n : Int)] w fun e w' => e = .returned (.tuple #[.int .i64 0, .int .i64 3, .int .i64 1]) ∧ Below w.heap.size w w' := by
  have HX := fun W => rget_yes x W hx gx
  have HY := fun W => rget_no y W hy gy
  clear gx gy
  have lx : x % 64 < 64 := Nat.mod_lt _ (by decide)
  generalize x % 64 = h at *
  have HX := Lib.hid HX
  have HY := Lib.hid HY
  go_enter Tryz.func36, Tryz.ntmps36
  go_wp2_with fail
  go_quiet (fail)
  go_wp2_with fail
  refine (HX.out _).mono ?_
  rintro e w1 ⟨rfl, m, rfl⟩
  clear HX
  go_wp2_with fail
  refine (HY.out _).mono ?_
  rintro e w1 ⟨rfl, m, rfl⟩
  clear HY
  go_wp2_with fail
  go_ret3
  exact ⟨rfl, below_drewN _ _ _⟩
set_option maxHeartbeats 1000000 in
theorem rget_l_ok (g o len cap n x y : Nat) (w : World) (h1 : 1 ≤ n) (h2 : n ≤ 16383) (hl : 2 ≤ len) (hx : x < 256) (hy : y < 256) (c0 : w.cell? ⟨g, o, none⟩ = some (.int .u8 (x : Int))) (c1 : w.cell? ⟨g, o + 1, none⟩ = some (.int .u8 (y : Int))) (hn : 4096 < n) (lx : x < 64) (hv : 256 * x + y < n) :
    Calls Tryz.prog 36 #[.slice (some ⟨g, o, none⟩) len cap, .int .i64 (n : Int)] w fun e w' => e = .returned (.tuple #[.int .i64 (256 * (x : Int) + y), .int .i64 0, .int .i64 (-1)]) ∧ Below w.heap.size w w' := by
  go_enter Tryz.func36, Tryz.ntmps36
  go_wp2_with fail
  go_quiet (fail)
  go_wp2_with fail
  go_ret3
  exact ⟨rfl, below_drewN _ _ _⟩
set_option maxHeartbeats 1000000 in
theorem rget_l_addr (g o len cap n x y : Nat) (w : World) (h1 : 1 ≤ n) (h2 : n ≤ 16383) (hl : 2 ≤ len) (hx : x < 256) (hy : y < 256) (c0 : w.cell? ⟨g, o, none⟩ = some (.int .u8 (x : Int))) (c1 : w.cell? ⟨g, o + 1, none⟩ = some (.int .u8 (y : Int))) (hn : 4096 < n) (lx : x < 64) (hv : n ≤ 256 * x + y) :
    Calls Tryz.prog 36 #[.slice (some ⟨g, o, none⟩) len cap, .int .i64 (n : Int)] w fun e w' => e = .returned (.tuple #[.int .i64 0, .int .i64 4, .int .i64 (-1)]) ∧ Below w.heap.size w w' := by
  go_enter Tryz.func36, Tryz.ntmps36
  go_wp2_with fail
  go_quiet (fail)
  go_wp2_with fail
  go_ret3
  exact ⟨rfl, below_drewN _ _ _⟩
set_option maxHeartbeats 1000000 in
theorem rget_l_0 (g o len cap n x y : Nat) (w : World) (h1 : 1 ≤ n) (h2 : n ≤ 16383) (hl : 2 ≤ len) (hx : x < 256) (hy : y < 256) (c0 : w.cell? ⟨g, o, none⟩ = some (.int .u8 (x : Int))) (c1 : w.cell? ⟨g, o + 1, none⟩ = some (.int .u8 (y : Int))) (hn : 4096 < n) (lx : 64 ≤ x) :
    Calls Tryz.prog 36 #[.slice (some ⟨g, o, none⟩) len cap, .int .i64 (n : Int)] w fun e w' => e = .returned (.tuple #[.int .i64 0, .int .i64 3, .int .i64 0]) ∧ Below w.heap.size w w' := by
  go_enter Tryz.func36, Tryz.ntmps36
  go_wp2_with fail
  go_quiet (fail)
  go_wp2_with fail
  go_ret3
  exact ⟨rfl, below_drewN _ _ _⟩
end Adr
end Go.Proofs.YtmllmmamdkjndaaGreatDoor
/- The document's Get of whatever bytes and size: the same plain function. -/
namespace Go.Proofs.YtmllmmamdkjndaaGreatDoor
open Go.RowKit Err Six Sha
namespace Adr
theorem rget_all (ad : Option Addr) (len cap : Nat) (ys : List Nat) (n : Int) (w : World) (hB : BytesIn w (.slice ad len cap) ys) (h8 : ∀ y ∈ ys, y < 256) :
    Calls Tryz.prog 36 #[.slice ad len cap, .int .i64 n] w fun e w' => e = .returned (.tuple #[.int .i64 ((aspec ys n).1 : Int), .int .i64 ((aspec ys n).2.1 : Int), .int .i64 (aspec ys n).2.2]) ∧ Below w.heap.size w w' := by
  unfold aspec
  by_cases h1 : n < 1 ∨ 16383 < n
  · simp only [if_pos h1]
    exact rget_size ad len cap n w h1
  simp only [if_neg h1]
  obtain ⟨N, rfl⟩ := Int.eq_ofNat_of_zero_le (a := n) (by omega)
  have hl := slice_len hB
  by_cases h2 : ys.length < 2
  · simp only [if_pos h2]
    exact rget_cut ad len cap N w (by omega) (by omega) (by omega)
  simp only [if_neg h2]
  obtain ⟨_, g, o, rfl, c0, c1⟩ := two_cells hB (by omega)
  have hx := byte_lt h8 (by decide) 0
  have hy := byte_lt h8 (by decide) 1
  generalize ys.getD 0 0 = x at c0 hx ⊢
  generalize ys.getD 1 0 = y at c1 hy ⊢
  by_cases h3 : (N : Int) ≤ 4096
  · simp only [if_pos h3]
    by_cases gx : isGraphic x = false
    · simp only [if_pos gx]
      cases gy : isGraphic y
      · exact rget_s_0f g o len cap N x y w (by omega) (by omega) (by omega) hx hy c0 c1 (by omega) gx gy
      · exact rget_s_0t g o len cap N x y w (by omega) (by omega) (by omega) hx hy c0 c1 (by omega) gx gy
    simp only [if_neg gx]
    have gx : isGraphic x = true := by simpa using gx
    by_cases gy : isGraphic y = false
    · simp only [if_pos gy]
      exact rget_s_1 g o len cap N x y w (by omega) (by omega) (by omega) hx hy c0 c1 (by omega) gx gy
    simp only [if_neg gy]
    have gy : isGraphic y = true := by simpa using gy
    by_cases h4 : (N : Int) ≤ ((64 * (x % 64) + y % 64 : Nat) : Int)
    · simp only [if_pos h4]
      exact rget_s_addr g o len cap N x y w (by omega) (by omega) (by omega) hx hy c0 c1 (by omega) gx gy (by omega)
    · simp only [if_neg h4]
      exact (rget_s_ok g o len cap N x y w (by omega) (by omega) (by omega) hx hy c0 c1 (by omega) gx gy (by omega)).mono fun e w' ⟨he, hb⟩ => ⟨by rw [he]; simp, hb⟩
  · simp only [if_neg h3]
    by_cases gx : 64 ≤ x
    · simp only [if_pos gx]
      exact rget_l_0 g o len cap N x y w (by omega) (by omega) (by omega) hx hy c0 c1 (by omega) gx
    simp only [if_neg gx]
    by_cases h4 : (N : Int) ≤ ((256 * x + y : Nat) : Int)
    · simp only [if_pos h4]
      exact rget_l_addr g o len cap N x y w (by omega) (by omega) (by omega) hx hy c0 c1 (by omega) (by omega) (by omega)
    · simp only [if_neg h4]
      exact (rget_l_ok g o len cap N x y w (by omega) (by omega) (by omega) hx hy c0 c1 (by omega) (by omega) (by omega)).mono fun e w' ⟨he, hb⟩ => ⟨by rw [he]; simp, hb⟩
end Adr
end Go.Proofs.YtmllmmamdkjndaaGreatDoor
/- The document's Get and GetWcc of layer 5, by search. -/
namespace Go.Proofs.YtmllmmamdkjndaaGreatDoor
open Go.RowKit Six Err
namespace Att
/-- The number that a search's i-th attribute has. -/
def rnum (i : Nat) : Nat := num (i % 2 == 1) (i / 2 % 2 == 1) (i / 16 == 1) (i / 4 % 4)
/-- At which place a search meets an attribute. -/
def idx (p n m : Bool) (s : Nat) : Nat := bit p 1 + bit n 2 + 4 * s + bit m 16
theorem rnum_inj : ∀ i, i < 32 → ∀ j, j < 32 → rnum i = rnum j → i = j := by decide +kernel
theorem rnum_lt : ∀ i, i < 32 → rnum i < 64 := by decide +kernel
theorem idx_lt (p n m : Bool) (s : Nat) (h : s < 4) : idx p n m s < 32 := by
  unfold idx bit; cases p <;> cases n <;> cases m <;> simp <;> omega
theorem idx_parts (p n m : Bool) (s : Nat) (h : s < 4) : (idx p n m s % 2 == 1) = p ∧ (idx p n m s / 2 % 2 == 1) = n ∧ (idx p n m s / 16 == 1) = m ∧ idx p n m s / 4 % 4 = s := by
  unfold idx bit
  obtain rfl | rfl | rfl | rfl : s = 0 ∨ s = 1 ∨ s = 2 ∨ s = 3 := by omega
  all_goals cases p <;> cases n <;> cases m <;> decide
theorem rnum_idx (p n m : Bool) (s : Nat) (h : s < 4) : rnum (idx p n m s) = num p n m s := by
  obtain ⟨a, b, c, d⟩ := idx_parts p n m s h
  unfold rnum
  rw [a, b, c, d]
theorem ahead (p n m : Bool) (s k : Nat) (h : s < 4) (hk : k < idx p n m s) : put (rnum k) ≠ put (num p n m s) := by
  intro e
  have hi := idx_lt p n m s h
  have := put_inj _ _ (rnum_lt k (by omega)) (num_lt p n m s h) e
  rw [← rnum_idx p n m s h] at this
  have := rnum_inj k (by omega) _ hi this
  omega
theorem none_at (b k : Nat) (hn : noAttr b = true) (hk : k < 32) : put (rnum k) ≠ b := by
  have h : ∀ k, k < 32 → noAttr (put (rnum k)) = false := by decide +kernel
  intro e
  rw [← e, h k hk] at hn
  cases hn
/-- The contract of the document's Put at a search's i-th attribute, in a walk's spelling. -/
theorem rput_at (k : Nat) (w : World) :
    Calls Tryz.prog 50 #[.agg #[.bool ((k : Int) % 2 == 1), .bool ((k : Int) / 2 % 2 == 1), .int .i64 ((k : Int) / 4 % 4), .bool ((k : Int) / 16 == 1)]] w fun e w' => e = .returned (.int .u8 (put (rnum k) : Nat)) ∧ Below w.heap.size w w' := by
  have h := rput5 ((k : Int) % 2 == 1) ((k : Int) / 2 % 2 == 1) ((k : Int) / 16 == 1) ((k : Int) / 4 % 4) w (by omega) (by omega)
  have e0 : ((k : Int) % 2 == 1) = (k % 2 == 1) := by rw [Bool.eq_iff_iff]; simp; omega
  have e1 : ((k : Int) / 2 % 2 == 1) = (k / 2 % 2 == 1) := by rw [Bool.eq_iff_iff]; simp; omega
  have e2 : ((k : Int) / 16 == 1) = (k / 16 == 1) := by rw [Bool.eq_iff_iff]; simp; omega
  have e3 : ((k : Int) / 4 % 4).toNat = k / 4 % 4 := by omega
  unfold rnum
  rw [← e0, ← e1, ← e2, ← e3]
  exact h
set_option maxHeartbeats 4000000 in
theorem rget_ok (p n m : Bool) (s : Nat) (w : World) (hs : s < 4) :
    Calls Tryz.prog 35 #[.int .u8 (put (num p n m s) : Nat)] w fun e w' => e = .returned (.tuple #[.agg #[.bool p, .bool n, .int .i64 (s : Int), .bool m], .bool true]) ∧ Below w.heap.size w w' := by
  have HA := Lib.hid fun k => ahead p n m s k hs
  have hi := idx_lt p n m s hs
  have HR := Lib.hid (show put (rnum (idx p n m s)) = put (num p n m s) by rw [rnum_idx p n m s hs])
  have HP := Lib.hid (idx_parts p n m s hs)
  generalize put (num p n m s) = b at *
  generalize hx : idx p n m s = i at *
  have HI := Lib.hid hx
  clear hx
  go_enter Tryz.func35, Tryz.ntmps35
  go_wp2_with fail
  go_loopw [4] (fun v wr => ∃ k : Nat, k ≤ i ∧ v = .int .i64 k ∧ wr.heap[w.heap.size]? = some (.cells #[.bool false, .bool false, .int .i64 0, .bool false] 54 (0, 0)) ∧ Below w.heap.size w wr ∧ w.heap.size < wr.heap.size) (fun v _ => i - (intOf v).toNat)
  case atStart => exact ⟨0, Nat.zero_le _, rfl, heap_alloc_new w _, (Below.refl _ _).alloc (Nat.le_refl _) _, by simp⟩
  case round =>
    obtain ⟨k, hk, rfl, hh, hb, hz⟩ := hrel
    have HH := Lib.hid hh
    have HB := Lib.hid hb
    clear hh hb
    by_cases hlt : k < i
    · have HC := Lib.hid fun W => rput_at k W
      have hne := HA.out k hlt
      generalize put (rnum k) = q at HC hne
      have t1 : (((q : Nat) : Int) == (b : Int)) = false := by simp; omega
      go_wp2_with fail
      refine (HC.out _).mono ?_
      rintro e w1 ⟨rfl, hb1⟩
      have HW := Lib.hid (((Below.refl wr.heap.size wr).alloc (Nat.le_refl _) _).trans (hb1.mono (by simp)))
      clear hb1
      go_wp2_with fail
      go_roundw
      case rel => exact ⟨k + 1, by omega, by go_num, (HW.out.block _ hz).trans HH.out, HB.out.trans (HW.out.mono (Nat.le_of_lt hz)), Nat.lt_of_lt_of_le hz HW.out.size⟩
      case measure => simp [intOf]; omega
    · obtain rfl : k = i := by omega
      have HC := Lib.hid fun W => rput5 p n m (s : Int) W (by omega) (by omega)
      rw [Int.toNat_natCast, ← rnum_idx p n m s hs, HI.out, HR.out] at HC
      obtain ⟨p0, p1, p2, p3⟩ := HP.out
      have e0 : ((k : Int) % 2 == 1) = p := by rw [← p0, Bool.eq_iff_iff]; simp; omega
      have e1 : ((k : Int) / 2 % 2 == 1) = n := by rw [← p1, Bool.eq_iff_iff]; simp; omega
      have e2 : ((k : Int) / 16 == 1) = m := by rw [← p2, Bool.eq_iff_iff]; simp; omega
      have e3 : ((k : Int) / 4 % 4) = (s : Int) := by rw [← p3]; omega
      clear p0 p1 p2 p3 hlt hk
      go_wp2_with fail
      clear e0 e1 e2 e3
      with_reducible refine (HC.out _).mono ?_
      rintro e w1 ⟨rfl, hb1⟩
      have hA : Below wr.heap.size wr (wr.alloc (.cells #[.bool p, .bool n, .int .i64 (s : Int), .bool m] 54)) := (Below.refl _ _).alloc (Nat.le_refl _) _
      have hn1 : w1.heap[wr.heap.size]? = some (.cells #[.bool p, .bool n, .int .i64 (s : Int), .bool m] 54 (0, 0)) := (hb1.block _ (by simp)).trans (heap_alloc_new wr _)
      have HW := Lib.hid (hA.trans (hb1.mono (by simp)))
      have hd1 : w1.heap[w.heap.size]? = some (.cells #[.bool false, .bool false, .int .i64 0, .bool false] 54 (0, 0)) := (HW.out.block _ hz).trans HH.out
      obtain ⟨h1, h2⟩ := over4 w1 w.heap.size 54 (.bool false) (.bool false) (.int .i64 0) (.bool false) (.bool p) (.bool n) (.int .i64 (s : Int)) (.bool m) hd1
      have H1 := Lib.hid h1
      have H2 := Lib.hid ((HB.out.trans (HW.out.mono (Nat.le_of_lt hz))).trans h2)
      obtain ⟨c0, c1, c2, c3⟩ := cells4 hn1
      obtain ⟨z0, z1, z2, z3⟩ := cells4 hd1
      obtain ⟨f0, f1, f2, f3⟩ := free4 hd1
      clear hA hb1 h1 h2 hn1 hd1
      go_wp2_with fail
      generalize (((w1.setCell ⟨w.heap.size, 0, none⟩ (.bool p)).setCell ⟨w.heap.size, 1, none⟩ (.bool n)).setCell ⟨w.heap.size, 2, none⟩ (.int .i64 (s : Int))).setCell ⟨w.heap.size, 3, none⟩ (.bool m) = wz at *
      exact bodyPost_ret (v := .tuple #[.agg #[.bool p, .bool n, .int .i64 (s : Int), .bool m], .bool true]) (results_cell_row_tmp rfl _ _ _ w.heap.size _ rfl (run_loadVar_row wz w.heap.size 54 54 _ (0, 0) _ H1.out Tryz.underlying54 rfl (by kernel_rfl)) (.bool true) rfl) rfl ⟨rfl, H2.out⟩
set_option maxHeartbeats 4000000 in
theorem rget_bad (b : Nat) (w : World) (_hb : b < 256) (hn : noAttr b = true) :
    Calls Tryz.prog 35 #[.int .u8 (b : Int)] w fun e w' => e = .returned (.tuple #[.agg #[.bool false, .bool false, .int .i64 0, .bool false], .bool false]) ∧ Below w.heap.size w w' := by
  have HA := Lib.hid fun k => none_at b k hn
  clear hn
  go_enter Tryz.func35, Tryz.ntmps35
  go_wp2_with fail
  go_loopw [4] (fun v wr => ∃ k : Nat, k ≤ 32 ∧ v = .int .i64 k ∧ wr.heap[w.heap.size]? = some (.cells #[.bool false, .bool false, .int .i64 0, .bool false] 54 (0, 0)) ∧ Below w.heap.size w wr ∧ w.heap.size < wr.heap.size) (fun v _ => 32 - (intOf v).toNat)
  case atStart => exact ⟨0, Nat.zero_le _, rfl, heap_alloc_new w _, (Below.refl _ _).alloc (Nat.le_refl _) _, by simp⟩
  case round =>
    obtain ⟨k, hk, rfl, hh, hb, hz⟩ := hrel
    have HH := Lib.hid hh
    have HB := Lib.hid hb
    by_cases hlt : k < 32
    · clear hh hb
      have HC := Lib.hid fun W => rput_at k W
      have hne := HA.out k hlt
      generalize put (rnum k) = q at HC hne
      have t1 : (((q : Nat) : Int) == (b : Int)) = false := by simp; omega
      go_wp2_with fail
      with_reducible refine (HC.out _).mono ?_
      rintro e w1 ⟨rfl, hb1⟩
      have HW := Lib.hid (((Below.refl wr.heap.size wr).alloc (Nat.le_refl _) _).trans (hb1.mono (by simp)))
      clear hb1
      go_wp2_with fail
      go_roundw
      case rel => exact ⟨k + 1, by omega, by go_num, (HW.out.block _ hz).trans HH.out, HB.out.trans (HW.out.mono (Nat.le_of_lt hz)), Nat.lt_of_lt_of_le hz HW.out.size⟩
      case measure => simp [intOf]; omega
    · obtain rfl : k = 32 := by omega
      obtain ⟨h1, h2⟩ := over4 wr w.heap.size 54 (.bool false) (.bool false) (.int .i64 0) (.bool false) (.bool false) (.bool false) (.int .i64 0) (.bool false) hh
      have H1 := Lib.hid h1
      have H2 := Lib.hid (hb.trans h2)
      obtain ⟨z0, z1, z2, z3⟩ := cells4 hh
      obtain ⟨f0, f1, f2, f3⟩ := free4 hh
      clear hlt hk hb hh h1 h2
      go_wp2_with fail
      generalize (((wr.setCell ⟨w.heap.size, 0, none⟩ (.bool false)).setCell ⟨w.heap.size, 1, none⟩ (.bool false)).setCell ⟨w.heap.size, 2, none⟩ (.int .i64 0)).setCell ⟨w.heap.size, 3, none⟩ (.bool false) = wz at *
      exact bodyPost_ret (v := .tuple #[.agg #[.bool false, .bool false, .int .i64 0, .bool false], .bool false]) (results_cell_row_tmp rfl _ _ _ w.heap.size _ rfl (run_loadVar_row wz w.heap.size 54 54 _ (0, 0) _ H1.out Tryz.underlying54 rfl (by kernel_rfl)) (.bool false) rfl) rfl ⟨rfl, H2.out⟩
end Att
end Go.Proofs.YtmllmmamdkjndaaGreatDoor
/- The document's GetWcc of layer 5, by search. -/
namespace Go.Proofs.YtmllmmamdkjndaaGreatDoor
open Go.RowKit Six Err
namespace Att
/-- The number that a search's i-th write has. -/
def wrnum (i : Nat) : Nat := wnum (i % 2 == 1) (i / 2 % 2 == 1) (i / 4 == 1)
/-- At which place a search meets a write. -/
def widx (a u r : Bool) : Nat := bit a 1 + bit u 2 + bit r 4
theorem wrnum_inj : ∀ i, i < 8 → ∀ j, j < 8 → wrnum i = wrnum j → i = j := by decide +kernel
theorem wrnum_lt : ∀ i, i < 8 → wrnum i < 64 := by decide +kernel
theorem widx_lt (a u r : Bool) : widx a u r < 8 := by cases a <;> cases u <;> cases r <;> decide
theorem widx_parts (a u r : Bool) : (widx a u r % 2 == 1) = a ∧ (widx a u r / 2 % 2 == 1) = u ∧ (widx a u r / 4 == 1) = r := by
  cases a <;> cases u <;> cases r <;> decide
theorem wrnum_idx (a u r : Bool) : wrnum (widx a u r) = wnum a u r := by
  obtain ⟨x, y, z⟩ := widx_parts a u r
  unfold wrnum
  rw [x, y, z]
theorem wahead (a u r : Bool) (k : Nat) (hk : k < widx a u r) : put (wrnum k) ≠ put (wnum a u r) := by
  intro e
  have hi := widx_lt a u r
  have := put_inj _ _ (wrnum_lt k (by omega)) (Nat.lt_trans (wnum_lt a u r) (by decide)) e
  rw [← wrnum_idx a u r] at this
  have := wrnum_inj k (by omega) _ hi this
  omega
theorem wnone_at (b k : Nat) (hn : noWrite b = true) (hk : k < 8) : put (wrnum k) ≠ b := by
  have h : ∀ k, k < 8 → noWrite (put (wrnum k)) = false := by decide +kernel
  intro e
  rw [← e, h k hk] at hn
  cases hn
theorem rputWcc_at (k : Nat) (w : World) :
    Calls Tryz.prog 33 #[.agg #[.bool ((k : Int) % 2 == 1), .bool ((k : Int) / 2 % 2 == 1), .bool ((k : Int) / 4 == 1)]] w fun e w' => e = .returned (.int .u8 (put (wrnum k) : Nat)) ∧ Below w.heap.size w w' := by
  have h := rputWcc ((k : Int) % 2 == 1) ((k : Int) / 2 % 2 == 1) ((k : Int) / 4 == 1) w
  have e0 : ((k : Int) % 2 == 1) = (k % 2 == 1) := by rw [Bool.eq_iff_iff]; simp; omega
  have e1 : ((k : Int) / 2 % 2 == 1) = (k / 2 % 2 == 1) := by rw [Bool.eq_iff_iff]; simp; omega
  have e2 : ((k : Int) / 4 == 1) = (k / 4 == 1) := by rw [Bool.eq_iff_iff]; simp; omega
  unfold wrnum
  rw [← e0, ← e1, ← e2]
  exact h
set_option maxHeartbeats 4000000 in
theorem rgetWcc_ok (p n m : Bool) (w : World) :
    Calls Tryz.prog 19 #[.int .u8 (put (wnum p n m) : Nat)] w fun e w' => e = .returned (.tuple #[.agg #[.bool p, .bool n, .bool m], .bool true]) ∧ Below w.heap.size w w' := by
  have HA := Lib.hid fun k => wahead p n m k
  have hi := widx_lt p n m
  have HR := Lib.hid (show put (wrnum (widx p n m)) = put (wnum p n m) by rw [wrnum_idx p n m])
  have HP := Lib.hid (widx_parts p n m)
  generalize put (wnum p n m) = b at *
  generalize hx : widx p n m = i at *
  have HI := Lib.hid hx
  clear hx
  go_enter Tryz.func19, Tryz.ntmps19
  go_wp2_with fail
  go_loopw [4] (fun v wr => ∃ k : Nat, k ≤ i ∧ v = .int .i64 k ∧ wr.heap[w.heap.size]? = some (.cells #[.bool false, .bool false, .bool false] 26 (0, 0)) ∧ Below w.heap.size w wr ∧ w.heap.size < wr.heap.size) (fun v _ => i - (intOf v).toNat)
  case atStart => exact ⟨0, Nat.zero_le _, rfl, heap_alloc_new w _, (Below.refl _ _).alloc (Nat.le_refl _) _, by simp⟩
  case round =>
    obtain ⟨k, hk, rfl, hh, hb, hz⟩ := hrel
    have HH := Lib.hid hh
    have HB := Lib.hid hb
    clear hh hb
    by_cases hlt : k < i
    · have HC := Lib.hid fun W => rputWcc_at k W
      have hne := HA.out k hlt
      generalize put (wrnum k) = q at HC hne
      have t1 : (((q : Nat) : Int) == (b : Int)) = false := by simp; omega
      go_wp2_with fail
      with_reducible refine (HC.out _).mono ?_
      rintro e w1 ⟨rfl, hb1⟩
      have HW := Lib.hid (((Below.refl wr.heap.size wr).alloc (Nat.le_refl _) _).trans (hb1.mono (by simp)))
      clear hb1
      go_wp2_with fail
      go_roundw
      case rel => exact ⟨k + 1, by omega, by go_num, (HW.out.block _ hz).trans HH.out, HB.out.trans (HW.out.mono (Nat.le_of_lt hz)), Nat.lt_of_lt_of_le hz HW.out.size⟩
      case measure => simp [intOf]; omega
    · obtain rfl : k = i := by omega
      have HC := Lib.hid fun W => rputWcc p n m W
      rw [← wrnum_idx p n m, HI.out, HR.out] at HC
      obtain ⟨p0, p1, p2⟩ := HP.out
      have e0 : ((k : Int) % 2 == 1) = p := by rw [← p0, Bool.eq_iff_iff]; simp; omega
      have e1 : ((k : Int) / 2 % 2 == 1) = n := by rw [← p1, Bool.eq_iff_iff]; simp; omega
      have e2 : ((k : Int) / 4 == 1) = m := by rw [← p2, Bool.eq_iff_iff]; simp; omega
      clear p0 p1 p2 hlt hk
      go_wp2_with fail
      clear e0 e1 e2
      with_reducible refine (HC.out _).mono ?_
      rintro e w1 ⟨rfl, hb1⟩
      have hA : Below wr.heap.size wr (wr.alloc (.cells #[.bool p, .bool n, .bool m] 26)) := (Below.refl _ _).alloc (Nat.le_refl _) _
      have hn1 : w1.heap[wr.heap.size]? = some (.cells #[.bool p, .bool n, .bool m] 26 (0, 0)) := (hb1.block _ (by simp)).trans (heap_alloc_new wr _)
      have HW := Lib.hid (hA.trans (hb1.mono (by simp)))
      have hd1 : w1.heap[w.heap.size]? = some (.cells #[.bool false, .bool false, .bool false] 26 (0, 0)) := (HW.out.block _ hz).trans HH.out
      obtain ⟨h1, h2⟩ := over3 w1 w.heap.size 26 (.bool false) (.bool false) (.bool false) (.bool p) (.bool n) (.bool m) hd1
      have H1 := Lib.hid h1
      have H2 := Lib.hid ((HB.out.trans (HW.out.mono (Nat.le_of_lt hz))).trans h2)
      obtain ⟨c0, c1, c2⟩ := cells3 hn1
      obtain ⟨z0, z1, z2⟩ := cells3 hd1
      obtain ⟨f0, f1, f2⟩ := free3 hd1
      clear hA hb1 h1 h2 hn1 hd1
      go_wp2_with fail
      generalize ((w1.setCell ⟨w.heap.size, 0, none⟩ (.bool p)).setCell ⟨w.heap.size, 1, none⟩ (.bool n)).setCell ⟨w.heap.size, 2, none⟩ (.bool m) = wz at *
      exact bodyPost_ret (v := .tuple #[.agg #[.bool p, .bool n, .bool m], .bool true]) (results_cell_row_tmp rfl _ _ _ w.heap.size _ rfl (run_loadVar_row wz w.heap.size 26 26 _ (0, 0) _ H1.out Tryz.underlying26 rfl (by kernel_rfl)) (.bool true) rfl) rfl ⟨rfl, H2.out⟩
set_option maxHeartbeats 4000000 in
theorem rgetWcc_bad (b : Nat) (w : World) (_hb : b < 256) (hn : noWrite b = true) :
    Calls Tryz.prog 19 #[.int .u8 (b : Int)] w fun e w' => e = .returned (.tuple #[.agg #[.bool false, .bool false, .bool false], .bool false]) ∧ Below w.heap.size w w' := by
  have HA := Lib.hid fun k => wnone_at b k hn
  clear hn
  go_enter Tryz.func19, Tryz.ntmps19
  go_wp2_with fail
  go_loopw [4] (fun v wr => ∃ k : Nat, k ≤ 8 ∧ v = .int .i64 k ∧ wr.heap[w.heap.size]? = some (.cells #[.bool false, .bool false, .bool false] 26 (0, 0)) ∧ Below w.heap.size w wr ∧ w.heap.size < wr.heap.size) (fun v _ => 8 - (intOf v).toNat)
  case atStart => exact ⟨0, Nat.zero_le _, rfl, heap_alloc_new w _, (Below.refl _ _).alloc (Nat.le_refl _) _, by simp⟩
  case round =>
    obtain ⟨k, hk, rfl, hh, hb, hz⟩ := hrel
    have HH := Lib.hid hh
    have HB := Lib.hid hb
    by_cases hlt : k < 8
    · clear hh hb
      have HC := Lib.hid fun W => rputWcc_at k W
      have hne := HA.out k hlt
      generalize put (wrnum k) = q at HC hne
      have t1 : (((q : Nat) : Int) == (b : Int)) = false := by simp; omega
      go_wp2_with fail
      with_reducible refine (HC.out _).mono ?_
      rintro e w1 ⟨rfl, hb1⟩
      have HW := Lib.hid (((Below.refl wr.heap.size wr).alloc (Nat.le_refl _) _).trans (hb1.mono (by simp)))
      clear hb1
      go_wp2_with fail
      go_roundw
      case rel => exact ⟨k + 1, by omega, by go_num, (HW.out.block _ hz).trans HH.out, HB.out.trans (HW.out.mono (Nat.le_of_lt hz)), Nat.lt_of_lt_of_le hz HW.out.size⟩
      case measure => simp [intOf]; omega
    · obtain rfl : k = 8 := by omega
      obtain ⟨h1, h2⟩ := over3 wr w.heap.size 26 (.bool false) (.bool false) (.bool false) (.bool false) (.bool false) (.bool false) hh
      have H1 := Lib.hid h1
      have H2 := Lib.hid (hb.trans h2)
      obtain ⟨z0, z1, z2⟩ := cells3 hh
      obtain ⟨f0, f1, f2⟩ := free3 hh
      clear hlt hk hb hh h1 h2
      go_wp2_with fail
      generalize ((wr.setCell ⟨w.heap.size, 0, none⟩ (.bool false)).setCell ⟨w.heap.size, 1, none⟩ (.bool false)).setCell ⟨w.heap.size, 2, none⟩ (.bool false) = wz at *
      exact bodyPost_ret (v := .tuple #[.agg #[.bool false, .bool false, .bool false], .bool false]) (results_cell_row_tmp rfl _ _ _ w.heap.size _ rfl (run_loadVar_row wz w.heap.size 26 26 _ (0, 0) _ H1.out Tryz.underlying26 rfl (by kernel_rfl)) (.bool false) rfl) rfl ⟨rfl, H2.out⟩
end Att
end Go.Proofs.YtmllmmamdkjndaaGreatDoor
