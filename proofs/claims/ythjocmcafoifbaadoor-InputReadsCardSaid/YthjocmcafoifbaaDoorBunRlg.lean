/- SixRget, AttrKinds, AddrRef, AddrRall in one text (by tools/bundle.py). -/
import Derived.Test.YthjocmcafoifbaaDoorBunRlp
import Derived.Test.YthjocmcafoifbaaDoorBunLow
/- The document's Get of layer 3 returns what the plain function says. -/
namespace Go.Proofs.YthjocmcafoifbaaDoor
open Go.RowKit
namespace Six
set_option maxHeartbeats 1000000 in
theorem rget_yes (b : Nat) (w : World) (_hb : b < 256) (hg : isGraphic b = true) :
    Calls Tryd.prog 47 #[.int .u8 (b : Int)] w fun e w' => e = .returned (.int .i64 (b % 64 : Nat)) ∧ ∃ m, w' = w.drewN m := by
  have hpg := put_of_graphic hg
  have HN : ∀ k, k < b % 64 → put k ≠ b := fun k hk e => by
    have := put_low k (by omega)
    rw [e] at this; omega
  have hn : b % 64 < 64 := Nat.mod_lt _ (by decide)
  have HP := Lib.hid hpg
  have HQ := Lib.hid HN
  clear hpg HN hg
  generalize b % 64 = n at *
  go_enter Tryd.func47, Tryd.ntmps47
  go_wp2_with fail
  go_loopw [3] (fun i wr => ∃ k m : Nat, k ≤ n ∧ i = .int .i64 k ∧ wr = w.drewN m) (fun i _ => n - (intOf i).toNat)
  case atStart => exact ⟨0, 0, Nat.zero_le _, rfl, rfl⟩
  case round =>
    obtain ⟨k, m, hk, rfl, rfl⟩ := hrel
    by_cases hlt : k < n
    · have hne := HQ.out k hlt
      have HC := fun W => rput_any k W (by omega)
      generalize put k = p at hne HC
      have t1 : (((p : Nat) : Int) == (b : Int)) = false := by simp; omega
      go_wp2_with (go_at_call 65; refine (HC _).mono ?_; rintro e w' ⟨rfl, m, rfl⟩)
      go_roundw
      case rel => exact ⟨k + 1, _, by omega, by go_num, rfl⟩
      case measure => simp [intOf]; omega
    · obtain rfl : k = n := by omega
      have HC := fun W => rput_any k W hn
      rw [HP.out] at HC
      go_wp2_with (go_at_call 65; refine (HC _).mono ?_; rintro e w' ⟨rfl, m, rfl⟩)
      go_ret
      exact ⟨rfl, _, rfl⟩
set_option maxHeartbeats 1000000 in
theorem rget_no (b : Nat) (w : World) (_hb : b < 256) (hg : isGraphic b = false) :
    Calls Tryd.prog 47 #[.int .u8 (b : Int)] w fun e w' => e = .returned (.int .i64 (-1)) ∧ ∃ m, w' = w.drewN m := by
  have HQ := Lib.hid (not_graphic hg)
  clear hg
  go_enter Tryd.func47, Tryd.ntmps47
  go_wp2_with fail
  go_loopw [3] (fun i wr => ∃ k m : Nat, k ≤ 64 ∧ i = .int .i64 k ∧ wr = w.drewN m) (fun i _ => 64 - (intOf i).toNat)
  case atStart => exact ⟨0, 0, Nat.zero_le _, rfl, rfl⟩
  case round =>
    obtain ⟨k, m, hk, rfl, rfl⟩ := hrel
    by_cases hlt : k < 64
    · have hne := HQ.out k hlt
      have HC := fun W => rput_any k W hlt
      generalize put k = p at hne HC
      have t1 : (((p : Nat) : Int) == (b : Int)) = false := by simp; omega
      go_wp2_with (go_at_call 65; refine (HC _).mono ?_; rintro e w' ⟨rfl, m, rfl⟩)
      go_roundw
      case rel => exact ⟨k + 1, _, by omega, by go_num, rfl⟩
      case measure => simp [intOf]; omega
    · obtain rfl : k = 64 := by omega
      clear hlt hk
      go_wp2_with fail
      go_ret
      exact ⟨rfl, _, rfl⟩
end Six
end Go.Proofs.YthjocmcafoifbaaDoor
/- The document's kinds of bytes of layer 5. -/
namespace Go.Proofs.YthjocmcafoifbaaDoor
open Go.RowKit Six Err
namespace Att
set_option maxHeartbeats 4000000 in
theorem rbare_any (b : Nat) (w : World) (hb : b < 256) :
    Calls Tryd.prog 25 #[.int .u8 (b : Int)] w fun e w' => e = .returned (.bool (bare b)) ∧ w = w' := by
  by_cases h0 : b = 109
  · subst h0
    go_enter Tryd.func25, Tryd.ntmps25
    go_wp2
    go_ret
    exact ⟨rfl, rfl⟩
  by_cases h1 : b = 108
  · subst h1
    go_enter Tryd.func25, Tryd.ntmps25
    go_wp2
    go_ret
    exact ⟨rfl, rfl⟩
  by_cases h2 : b = 110
  · subst h2
    go_enter Tryd.func25, Tryd.ntmps25
    go_wp2
    go_ret
    exact ⟨rfl, rfl⟩
  by_cases h3 : b = 107
  · subst h3
    go_enter Tryd.func25, Tryd.ntmps25
    go_wp2
    go_ret
    exact ⟨rfl, rfl⟩
  have hc : bare b = false := by unfold bare; simp [h0, h1, h2, h3]
  rw [hc]
  have k0 : ((b : Int) == 109) = false := by simp; omega
  have k1 : ((b : Int) == 108) = false := by simp; omega
  have k2 : ((b : Int) == 110) = false := by simp; omega
  have k3 : ((b : Int) == 107) = false := by simp; omega
  clear hc h0 h1 h2 h3
  go_enter Tryd.func25, Tryd.ntmps25
  go_wp2
  go_ret
  exact ⟨rfl, rfl⟩
set_option maxHeartbeats 4000000 in
theorem raid_any (b : Nat) (w : World) (hb : b < 256) :
    Calls Tryd.prog 24 #[.int .u8 (b : Int)] w fun e w' => e = .returned (.bool (aid b)) ∧ w = w' := by
  have HB := fun W => rbare_any b W hb
  cases hr : bare b with
  | true =>
    rw [hr] at HB
    rw [bare_aid b hr]
    clear hr
    go_enter Tryd.func24, Tryd.ntmps24
    go_wp2_with (go_at_call 25; refine (HB _).mono ?_; rintro e w' ⟨rfl, rfl⟩)
    go_ret
    exact ⟨rfl, rfl⟩
  | false =>
    rw [hr] at HB
    by_cases h0 : b = 125
    · subst h0
      go_enter Tryd.func24, Tryd.ntmps24
      go_wp2_with (go_at_call 25; refine (HB _).mono ?_; rintro e w' ⟨rfl, rfl⟩)
      go_ret
      exact ⟨rfl, rfl⟩
    have k0 : ((b : Int) == 125) = false := by simp; omega
    by_cases h1 : 241 ≤ b
    · by_cases h2 : b ≤ 249
      · skip
        rw [show aid b = true by unfold aid; rw [hr]; simp; omega]
        clear hr h0
        go_enter Tryd.func24, Tryd.ntmps24
        go_wp2_with (go_at_call 25; refine (HB _).mono ?_; rintro e w' ⟨rfl, rfl⟩)
        go_ret
        exact ⟨ret_bool (by first | rfl | (simp; done) | (simp; omega)), rfl⟩
      · skip
        rw [show aid b = false by unfold aid; rw [hr]; simp; omega]
        clear hr h0
        go_enter Tryd.func24, Tryd.ntmps24
        go_wp2_with (go_at_call 25; refine (HB _).mono ?_; rintro e w' ⟨rfl, rfl⟩)
        go_ret
        exact ⟨ret_bool (by first | rfl | (simp; done) | (simp; omega)), rfl⟩
    · by_cases h3 : 122 ≤ b
      · by_cases h4 : b ≤ 124
        · skip
          rw [show aid b = true by unfold aid; rw [hr]; simp; omega]
          clear hr h0
          go_enter Tryd.func24, Tryd.ntmps24
          go_wp2_with (go_at_call 25; refine (HB _).mono ?_; rintro e w' ⟨rfl, rfl⟩)
          go_ret
          exact ⟨ret_bool (by first | rfl | (simp; done) | (simp; omega)), rfl⟩
        · skip
          rw [show aid b = false by unfold aid; rw [hr]; simp; omega]
          clear hr h0
          go_enter Tryd.func24, Tryd.ntmps24
          go_wp2_with (go_at_call 25; refine (HB _).mono ?_; rintro e w' ⟨rfl, rfl⟩)
          go_ret
          exact ⟨ret_bool (by first | rfl | (simp; done) | (simp; omega)), rfl⟩
      · skip
        rw [show aid b = false by unfold aid; rw [hr]; simp; omega]
        clear hr h0
        go_enter Tryd.func24, Tryd.ntmps24
        go_wp2_with (go_at_call 25; refine (HB _).mono ?_; rintro e w' ⟨rfl, rfl⟩)
        go_ret
        exact ⟨ret_bool (by first | rfl | (simp; done) | (simp; omega)), rfl⟩
end Att
end Go.Proofs.YthjocmcafoifbaaDoor
/- The document's Get of an address. -/
namespace Go.Proofs.YthjocmcafoifbaaDoor
open Go.RowKit Err Six
namespace Adr
theorem rget_size (ad : Option Addr) (len cap : Nat) (n : Int) (w : World) (h : n < 1 ∨ 16383 < n) :
    Calls Tryd.prog 26 #[.slice ad len cap, .int .i64 n] w fun e w' => e = .returned (.tuple #[.int .i64 0, .int .i64 1, .int .i64 (-1)]) ∧ Below w.heap.size w w' := by
  rcases h with h | h
  · go_enter Tryd.func26, Tryd.ntmps26
    go_wp2_with fail
    go_ret3
    exact ⟨rfl, Below.refl _ _⟩
  · go_enter Tryd.func26, Tryd.ntmps26
    go_wp2_with fail
    go_ret3
    exact ⟨rfl, Below.refl _ _⟩
theorem rget_cut (ad : Option Addr) (len cap n : Nat) (w : World) (h1 : 1 ≤ n) (h2 : n ≤ 16383) (hl : len < 2) :
    Calls Tryd.prog 26 #[.slice ad len cap, .int .i64 (n : Int)] w fun e w' => e = .returned (.tuple #[.int .i64 0, .int .i64 2, .int .i64 (-1)]) ∧ Below w.heap.size w w' := by
  go_enter Tryd.func26, Tryd.ntmps26
  go_wp2_with fail
  go_ret3
  exact ⟨rfl, Below.refl _ _⟩
set_option maxHeartbeats 1000000 in
theorem rget_s_ok (g o len cap n x y : Nat) (w : World) (h1 : 1 ≤ n) (h2 : n ≤ 16383) (hl : 2 ≤ len) (hx : x < 256) (hy : y < 256) (c0 : w.cell? ⟨g, o, none⟩ = some (.int .u8 (x : Int))) (c1 : w.cell? ⟨g, o + 1, none⟩ = some (.int .u8 (y : Int))) (hn : n ≤ 4096) (gx : isGraphic x = true) (gy : isGraphic y = true) (hv : 64 * (x % 64) + y % 64 < n) :
    Calls Tryd.prog 26 #[.slice (some ⟨g, o, none⟩) len cap, .int .i64 (n : Int)] w fun e w' => e = .returned (.tuple #[.int .i64 (64 * ((x % 64 : Nat) : Int) + (y % 64 : Nat)), .int .i64 0, .int .i64 (-1)]) ∧ Below w.heap.size w w' := by
  have HX := fun W => rget_yes x W hx gx
  have HY := fun W => rget_yes y W hy gy
  clear gx gy
  have lx : x % 64 < 64 := Nat.mod_lt _ (by decide)
  generalize x % 64 = h at *
  have ly : y % 64 < 64 := Nat.mod_lt _ (by decide)
  generalize y % 64 = l at *
  have HX := Lib.hid HX
  have HY := Lib.hid HY
  go_enter Tryd.func26, Tryd.ntmps26
  go_wp2_with fail
  go_quiet (fail)
  go_wp2_with fail
  refine (HX.out _).mono ?_
  rintro e w1 ⟨rfl, m, rfl⟩
  clear HX
  go_wp2_with fail
  refine (HY.out _).mono ?_
  rintro e w1 ⟨rfl, m, rfl⟩
  clear HY
  go_wp2_with fail
  go_ret3
  exact ⟨rfl, below_drewN _ _ _⟩
set_option maxHeartbeats 1000000 in
theorem rget_s_addr (g o len cap n x y : Nat) (w : World) (h1 : 1 ≤ n) (h2 : n ≤ 16383) (hl : 2 ≤ len) (hx : x < 256) (hy : y < 256) (c0 : w.cell? ⟨g, o, none⟩ = some (.int .u8 (x : Int))) (c1 : w.cell? ⟨g, o + 1, none⟩ = some (.int .u8 (y : Int))) (hn : n ≤ 4096) (gx : isGraphic x = true) (gy : isGraphic y = true) (hv : n ≤ 64 * (x % 64) + y % 64) :
    Calls Tryd.prog 26 #[.slice (some ⟨g, o, none⟩) len cap, .int .i64 (n : Int)] w fun e w' => e = .returned (.tuple #[.int .i64 0, .int .i64 4, .int .i64 (-1)]) ∧ Below w.heap.size w w' := by
  have HX := fun W => rget_yes x W hx gx
  have HY := fun W => rget_yes y W hy gy
  clear gx gy
  have lx : x % 64 < 64 := Nat.mod_lt _ (by decide)
  generalize x % 64 = h at *
  have ly : y % 64 < 64 := Nat.mod_lt _ (by decide)
  generalize y % 64 = l at *
  have HX := Lib.hid HX
  have HY := Lib.hid HY
  go_enter Tryd.func26, Tryd.ntmps26
  go_wp2_with fail
  go_quiet (fail)
  go_wp2_with fail
  refine (HX.out _).mono ?_
  rintro e w1 ⟨rfl, m, rfl⟩
  clear HX
  go_wp2_with fail
  refine (HY.out _).mono ?_
  rintro e w1 ⟨rfl, m, rfl⟩
  clear HY
  go_wp2_with fail
  go_ret3
  exact ⟨rfl, below_drewN _ _ _⟩
set_option maxHeartbeats 1000000 in
theorem rget_s_0t (g o len cap n x y : Nat) (w : World) (h1 : 1 ≤ n) (h2 : n ≤ 16383) (hl : 2 ≤ len) (hx : x < 256) (hy : y < 256) (c0 : w.cell? ⟨g, o, none⟩ = some (.int .u8 (x : Int))) (c1 : w.cell? ⟨g, o + 1, none⟩ = some (.int .u8 (y : Int))) (hn : n ≤ 4096) (gx : isGraphic x = false) (gy : isGraphic y = true) :
    Calls Tryd.prog 26 #[.slice (some ⟨g, o, none⟩) len cap, .int .i64 (n : Int)] w fun e w' => e = .returned (.tuple #[.int .i64 0, .int .i64 3, .int .i64 0]) ∧ Below w.heap.size w w' := by
  have HX := fun W => rget_no x W hx gx
  have HY := fun W => rget_yes y W hy gy
  clear gx gy
  have ly : y % 64 < 64 := Nat.mod_lt _ (by decide)
  generalize y % 64 = l at *
  have HX := Lib.hid HX
  have HY := Lib.hid HY
  go_enter Tryd.func26, Tryd.ntmps26
  go_wp2_with fail
  go_quiet (fail)
  go_wp2_with fail
  refine (HX.out _).mono ?_
  rintro e w1 ⟨rfl, m, rfl⟩
  clear HX
  go_wp2_with fail
  refine (HY.out _).mono ?_
  rintro e w1 ⟨rfl, m, rfl⟩
  clear HY
  go_wp2_with fail
  go_ret3
  exact ⟨rfl, below_drewN _ _ _⟩
set_option maxHeartbeats 1000000 in
theorem rget_s_0f (g o len cap n x y : Nat) (w : World) (h1 : 1 ≤ n) (h2 : n ≤ 16383) (hl : 2 ≤ len) (hx : x < 256) (hy : y < 256) (c0 : w.cell? ⟨g, o, none⟩ = some (.int .u8 (x : Int))) (c1 : w.cell? ⟨g, o + 1, none⟩ = some (.int .u8 (y : Int))) (hn : n ≤ 4096) (gx : isGraphic x = false) (gy : isGraphic y = false) :
    Calls Tryd.prog 26 #[.slice (some ⟨g, o, none⟩) len cap, .int .i64 (n : Int)] w fun e w' => e = .returned (.tuple #[.int .i64 0, .int .i64 3, .int .i64 0]) ∧ Below w.heap.size w w' := by
  have HX := fun W => rget_no x W hx gx
  have HY := fun W => rget_no y W hy gy
  clear gx gy
  have HX := Lib.hid HX
  have HY := Lib.hid HY
  go_enter Tryd.func26, Tryd.ntmps26
  go_wp2_with fail
  go_quiet (fail)
  go_wp2_with fail
  refine (HX.out _).mono ?_
  rintro e w1 ⟨rfl, m, rfl⟩
  clear HX
  go_wp2_with fail
  refine (HY.out _).mono ?_
  rintro e w1 ⟨rfl, m, rfl⟩
  clear HY
  go_wp2_with fail
  go_ret3
  exact ⟨rfl, below_drewN _ _ _⟩
set_option maxHeartbeats 1000000 in
theorem rget_s_1 (g o len cap n x y : Nat) (w : World) (h1 : 1 ≤ n) (h2 : n ≤ 16383) (hl : 2 ≤ len) (hx : x < 256) (hy : y < 256) (c0 : w.cell? ⟨g, o, none⟩ = some (.int .u8 (x : Int))) (c1 : w.cell? ⟨g, o + 1, none⟩ = some (.int .u8 (y : Int))) (hn : n ≤ 4096) (gx : isGraphic x = true) (gy : isGraphic y = false) :
    Calls Tryd.prog 26 #[.slice (some ⟨g, o, none⟩) len cap, .int .i64 (n : Int)] w fun e w' => e = .returned (.tuple #[.int .i64 0, .int .i64 3, .int .i64 1]) ∧ Below w.heap.size w w' := by
  have HX := fun W => rget_yes x W hx gx
  have HY := fun W => rget_no y W hy gy
  clear gx gy
  have lx : x % 64 < 64 := Nat.mod_lt _ (by decide)
  generalize x % 64 = h at *
  have HX := Lib.hid HX
  have HY := Lib.hid HY
  go_enter Tryd.func26, Tryd.ntmps26
  go_wp2_with fail
  go_quiet (fail)
  go_wp2_with fail
  refine (HX.out _).mono ?_
  rintro e w1 ⟨rfl, m, rfl⟩
  clear HX
  go_wp2_with fail
  refine (HY.out _).mono ?_
  rintro e w1 ⟨rfl, m, rfl⟩
  clear HY
  go_wp2_with fail
  go_ret3
  exact ⟨rfl, below_drewN _ _ _⟩
set_option maxHeartbeats 1000000 in
theorem rget_l_ok (g o len cap n x y : Nat) (w : World) (h1 : 1 ≤ n) (h2 : n ≤ 16383) (hl : 2 ≤ len) (hx : x < 256) (hy : y < 256) (c0 : w.cell? ⟨g, o, none⟩ = some (.int .u8 (x : Int))) (c1 : w.cell? ⟨g, o + 1, none⟩ = some (.int .u8 (y : Int))) (hn : 4096 < n) (lx : x < 64) (hv : 256 * x + y < n) :
    Calls Tryd.prog 26 #[.slice (some ⟨g, o, none⟩) len cap, .int .i64 (n : Int)] w fun e w' => e = .returned (.tuple #[.int .i64 (256 * (x : Int) + y), .int .i64 0, .int .i64 (-1)]) ∧ Below w.heap.size w w' := by
  go_enter Tryd.func26, Tryd.ntmps26
  go_wp2_with fail
  go_quiet (fail)
  go_wp2_with fail
  go_ret3
  exact ⟨rfl, below_drewN _ _ _⟩
set_option maxHeartbeats 1000000 in
theorem rget_l_addr (g o len cap n x y : Nat) (w : World) (h1 : 1 ≤ n) (h2 : n ≤ 16383) (hl : 2 ≤ len) (hx : x < 256) (hy : y < 256) (c0 : w.cell? ⟨g, o, none⟩ = some (.int .u8 (x : Int))) (c1 : w.cell? ⟨g, o + 1, none⟩ = some (.int .u8 (y : Int))) (hn : 4096 < n) (lx : x < 64) (hv : n ≤ 256 * x + y) :
    Calls Tryd.prog 26 #[.slice (some ⟨g, o, none⟩) len cap, .int .i64 (n : Int)] w fun e w' => e = .returned (.tuple #[.int .i64 0, .int .i64 4, .int .i64 (-1)]) ∧ Below w.heap.size w w' := by
  go_enter Tryd.func26, Tryd.ntmps26
  go_wp2_with fail
  go_quiet (fail)
  go_wp2_with fail
  go_ret3
  exact ⟨rfl, below_drewN _ _ _⟩
set_option maxHeartbeats 1000000 in
theorem rget_l_0 (g o len cap n x y : Nat) (w : World) (h1 : 1 ≤ n) (h2 : n ≤ 16383) (hl : 2 ≤ len) (hx : x < 256) (hy : y < 256) (c0 : w.cell? ⟨g, o, none⟩ = some (.int .u8 (x : Int))) (c1 : w.cell? ⟨g, o + 1, none⟩ = some (.int .u8 (y : Int))) (hn : 4096 < n) (lx : 64 ≤ x) :
    Calls Tryd.prog 26 #[.slice (some ⟨g, o, none⟩) len cap, .int .i64 (n : Int)] w fun e w' => e = .returned (.tuple #[.int .i64 0, .int .i64 3, .int .i64 0]) ∧ Below w.heap.size w w' := by
  go_enter Tryd.func26, Tryd.ntmps26
  go_wp2_with fail
  go_quiet (fail)
  go_wp2_with fail
  go_ret3
  exact ⟨rfl, below_drewN _ _ _⟩
end Adr
end Go.Proofs.YthjocmcafoifbaaDoor
/- The document's Get of whatever bytes and size: the same plain function. -/
namespace Go.Proofs.YthjocmcafoifbaaDoor
open Go.RowKit Err Six Sha
namespace Adr
theorem rget_all (ad : Option Addr) (len cap : Nat) (ys : List Nat) (n : Int) (w : World) (hB : BytesIn w (.slice ad len cap) ys) (h8 : ∀ y ∈ ys, y < 256) :
    Calls Tryd.prog 26 #[.slice ad len cap, .int .i64 n] w fun e w' => e = .returned (.tuple #[.int .i64 ((aspec ys n).1 : Int), .int .i64 ((aspec ys n).2.1 : Int), .int .i64 (aspec ys n).2.2]) ∧ Below w.heap.size w w' := by
  unfold aspec
  by_cases h1 : n < 1 ∨ 16383 < n
  · simp only [if_pos h1]
    exact rget_size ad len cap n w h1
  simp only [if_neg h1]
  obtain ⟨N, rfl⟩ := Int.eq_ofNat_of_zero_le (a := n) (by omega)
  have hl := slice_len hB
  by_cases h2 : ys.length < 2
  · simp only [if_pos h2]
    exact rget_cut ad len cap N w (by omega) (by omega) (by omega)
  simp only [if_neg h2]
  obtain ⟨_, g, o, rfl, c0, c1⟩ := two_cells hB (by omega)
  have hx := byte_lt h8 (by decide) 0
  have hy := byte_lt h8 (by decide) 1
  generalize ys.getD 0 0 = x at c0 hx ⊢
  generalize ys.getD 1 0 = y at c1 hy ⊢
  by_cases h3 : (N : Int) ≤ 4096
  · simp only [if_pos h3]
    by_cases gx : isGraphic x = false
    · simp only [if_pos gx]
      cases gy : isGraphic y
      · exact rget_s_0f g o len cap N x y w (by omega) (by omega) (by omega) hx hy c0 c1 (by omega) gx gy
      · exact rget_s_0t g o len cap N x y w (by omega) (by omega) (by omega) hx hy c0 c1 (by omega) gx gy
    simp only [if_neg gx]
    have gx : isGraphic x = true := by simpa using gx
    by_cases gy : isGraphic y = false
    · simp only [if_pos gy]
      exact rget_s_1 g o len cap N x y w (by omega) (by omega) (by omega) hx hy c0 c1 (by omega) gx gy
    simp only [if_neg gy]
    have gy : isGraphic y = true := by simpa using gy
    by_cases h4 : (N : Int) ≤ ((64 * (x % 64) + y % 64 : Nat) : Int)
    · simp only [if_pos h4]
      exact rget_s_addr g o len cap N x y w (by omega) (by omega) (by omega) hx hy c0 c1 (by omega) gx gy (by omega)
    · simp only [if_neg h4]
      exact (rget_s_ok g o len cap N x y w (by omega) (by omega) (by omega) hx hy c0 c1 (by omega) gx gy (by omega)).mono fun e w' ⟨he, hb⟩ => ⟨by rw [he]; simp, hb⟩
  · simp only [if_neg h3]
    by_cases gx : 64 ≤ x
    · simp only [if_pos gx]
      exact rget_l_0 g o len cap N x y w (by omega) (by omega) (by omega) hx hy c0 c1 (by omega) gx
    simp only [if_neg gx]
    by_cases h4 : (N : Int) ≤ ((256 * x + y : Nat) : Int)
    · simp only [if_pos h4]
      exact rget_l_addr g o len cap N x y w (by omega) (by omega) (by omega) hx hy c0 c1 (by omega) (by omega) (by omega)
    · simp only [if_neg h4]
      exact (rget_l_ok g o len cap N x y w (by omega) (by omega) (by omega) hx hy c0 c1 (by omega) (by omega) (by omega)).mono fun e w' ⟨he, hb⟩ => ⟨by rw [he]; simp, hb⟩
end Adr
end Go.Proofs.YthjocmcafoifbaaDoor
