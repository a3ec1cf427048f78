/- Has, Let of package window. Written by tools/gen_win.py. -/
import Derived.Test.YtoiidedigbfnaaaDoorBunWnp
import Derived.Deep.Cut
import Derived.Deep.LoopGhost
import Derived.Deep.RegionLaw
import Derived.Deep.RegionHeld3
import Derived.IntWalk
import Derived.Lib.SmallJoins
namespace Go.Proofs.YtoiidedigbfnaaaDoor
open Go.RowKit Sha Six Apd Cut Err
set_option linter.unusedVariables false
set_option linter.unusedSimpArgs false
namespace Win
set_option maxRecDepth 100000 in
set_option maxHeartbeats 8000000 in
theorem has_any (s : W) (n : Int) (w : World) (hr : right s = true) (hf : Fit s) (hn : IntKind.i64.wrap n = n) : Calls Tryd.prog 24 #[.agg #[.int .i64 s.top, .int .u64 (s.bits : Int)], .int .i64 n] w fun e w' => e = .returned (.bool (has s n)) ∧ Below w.heap.size w w' := by
  obtain ⟨ht0, ht1⟩ := right_fit hr
  have hpos := fun (h : has s n = true) => has_pos hr h
  obtain ⟨t, b⟩ := s
  obtain ⟨hb, ht⟩ := hf
  simp only at hb ht ht0 ht1 ⊢
  by_cases h1 : 1 ≤ n
  case neg =>
    have HR := Lib.hid (show has ⟨t, b⟩ n = false from by
      cases hh : has ⟨t, b⟩ n with
      | false => rfl
      | true => exact absurd (hpos hh) h1)
    generalize has ⟨t, b⟩ n = r at *
    clear hpos
    have HB := Lib.hid (al_any w (.cells #[.int .i64 t, .int .u64 (b : Int)] 27))
    have HX := Lib.hid (heap_alloc_new w (.cells #[.int .i64 t, .int .u64 (b : Int)] 27))
    go_enter Tryd.func24, Tryd.ntmps24
    go_upto_region 1 with (fail)
    generalize w.alloc _ = w1 at *
    obtain ⟨c0, c1⟩ := cells2 HX.out
    go_wp2_with fail
    go_ret
    exact ⟨by rw [HR.out]; rfl, HB.out⟩
  case pos =>
  by_cases h2 : n ≤ t
  case neg =>
    have HR := Lib.hid (show has ⟨t, b⟩ n = false from by unfold has; rw [decide_eq_false (by simp only; omega)]; rfl)
    generalize has ⟨t, b⟩ n = r at *
    clear hpos
    have HB := Lib.hid (al_any w (.cells #[.int .i64 t, .int .u64 (b : Int)] 27))
    have HX := Lib.hid (heap_alloc_new w (.cells #[.int .i64 t, .int .u64 (b : Int)] 27))
    go_enter Tryd.func24, Tryd.ntmps24
    go_upto_region 1 with (fail)
    generalize w.alloc _ = w1 at *
    obtain ⟨c0, c1⟩ := cells2 HX.out
    go_wp2_with fail
    go_ret
    exact ⟨by rw [HR.out]; rfl, HB.out⟩
  case pos =>
  obtain ⟨k, hk⟩ := Int.eq_ofNat_of_zero_le (show 0 ≤ t - n by omega)
  have HR := Lib.hid (show has ⟨t, b⟩ n = (((b >>> k % 2 : Nat) : Int) == 1) from by
    unfold has
    simp only
    rw [hk, decide_eq_true (by omega), Int.toNat_natCast, bit_mod]
    by_cases h64 : k < 64
    · rw [decide_eq_true (by omega)]
      cases b.testBit k <;> rfl
    · rw [decide_eq_false (by omega), small_bit hb (by omega)]
      rfl)
  have hs : (b : Int) / 2 ^ min k 64 = ((b >>> k : Nat) : Int) := by rw [shr_nat, shr_min b k hb]
  have ha := and_one (b >>> k) (shr_lt b k hb)
  have hsub : wrap64 (t - n) = (k : Int) := by rw [hk, IntWalk.wrap64_in]; omega
  have hc : IntKind.u64.wrap (k : Int) = (k : Int) := wi64 _ (by omega) (by omega)
  generalize has ⟨t, b⟩ n = r at *
  generalize b >>> k % 2 = b2 at *
  generalize b >>> k = bk at *
  clear hpos
  have HB := Lib.hid (al_any w (.cells #[.int .i64 t, .int .u64 (b : Int)] 27))
  have HX := Lib.hid (heap_alloc_new w (.cells #[.int .i64 t, .int .u64 (b : Int)] 27))
  go_enter Tryd.func24, Tryd.ntmps24
  go_upto_region 1 with (fail)
  generalize w.alloc _ = w1 at *
  obtain ⟨c0, c1⟩ := cells2 HX.out
  go_wp2_with fail
  go_ret
  exact ⟨by rw [HR.out]; rfl, HB.out⟩
set_option maxRecDepth 100000 in
set_option maxHeartbeats 8000000 in
theorem let_any (s : W) (n : Int) (w : World) (hr : right s = true) (hf : Fit s) (hn : IntKind.i64.wrap n = n) : Calls Tryd.prog 16 #[.agg #[.int .i64 s.top, .int .u64 (s.bits : Int)], .int .i64 n] w fun e w' => GaveL w w' (lets s n).1 (lets s n).2 e := by
  obtain ⟨ht0, ht1⟩ := right_fit hr
  have HH := Lib.hid fun W => has_any s n W hr hf hn
  have hbt : s.bits < 18446744073709551616 := hf.bits
  by_cases h1 : 1 ≤ n
  case neg =>
    rw [show lets s n = (s, 1) from if_pos (.inl (by omega))]
    obtain ⟨t, b⟩ := s
    simp only at hbt ht0 ht1 ⊢
    clear HH hf
    have h1 : n < 1 := by omega
    have ES : (w.alloc (.cells #[.int .i64 t, .int .u64 (b : Int)] 27)).heap.size = w.heap.size + 1 := by simp
    have HB := Lib.hid (kept_trans (al_any w (.cells #[.int .i64 t, .int .u64 (b : Int)] 27)) (al_any _ (.cells #[.int .i64 0, .int .u64 0] 27)))
    have HX := Lib.hid (heap_alloc2_old w (.cells #[.int .i64 t, .int .u64 (b : Int)] 27) (.cells #[.int .i64 0, .int .u64 0] 27))
    have HY := Lib.hid (heap_alloc2_new w (.cells #[.int .i64 t, .int .u64 (b : Int)] 27) (.cells #[.int .i64 0, .int .u64 0] 27))
    go_enter Tryd.func16, Tryd.ntmps16
    go_upto_region 1 with (fail)
    clear ES
    generalize (w.alloc _).alloc _ = w1 at *
    obtain ⟨c0, c1⟩ := cells2 HX.out
    have SF := Lib.hid (over2 w1 (w.heap.size + 1) 27 _ _ (.int .i64 t) (.int .u64 (b : Int)) HY.out)
    obtain ⟨y0, y1⟩ := cells2 HY.out
    obtain ⟨f0, f1⟩ := free2 HY.out
    go_wp2_with fail
    clear y0 y1 f0 f1
    generalize (w1.setCell _ _).setCell _ _ = w9 at *
    exact bodyPost_ret (v := .tuple #[.agg #[.int .i64 t, .int .u64 (b : Int)], .iface 56 (.int .i64 1)]) (results_cell_row_tmp rfl _ _ _ (w.heap.size + 1) _ rfl (run_loadVar_row _ (w.heap.size + 1) 27 27 _ (0, 0) _ SF.out.1 Tryd.underlying27 rfl (by kernel_rfl)) (.iface 56 (.int .i64 1)) rfl) rfl ⟨rfl, HB.out.grown SF.out.2 HB.out.size (by intro g hg; injection hg with hg; omega)⟩
  case pos =>
  by_cases h2 : n ≤ 4611686018427387904
  case neg =>
    rw [show lets s n = (s, 1) from if_pos (.inr (by omega))]
    obtain ⟨t, b⟩ := s
    simp only at hbt ht0 ht1 ⊢
    clear HH hf
    have h1 : ¬ n < 1 := by omega
    have h2 : 4611686018427387904 < n := by omega
    have ES : (w.alloc (.cells #[.int .i64 t, .int .u64 (b : Int)] 27)).heap.size = w.heap.size + 1 := by simp
    have HB := Lib.hid (kept_trans (al_any w (.cells #[.int .i64 t, .int .u64 (b : Int)] 27)) (al_any _ (.cells #[.int .i64 0, .int .u64 0] 27)))
    have HX := Lib.hid (heap_alloc2_old w (.cells #[.int .i64 t, .int .u64 (b : Int)] 27) (.cells #[.int .i64 0, .int .u64 0] 27))
    have HY := Lib.hid (heap_alloc2_new w (.cells #[.int .i64 t, .int .u64 (b : Int)] 27) (.cells #[.int .i64 0, .int .u64 0] 27))
    go_enter Tryd.func16, Tryd.ntmps16
    go_upto_region 1 with (fail)
    clear ES
    generalize (w.alloc _).alloc _ = w1 at *
    obtain ⟨c0, c1⟩ := cells2 HX.out
    have SF := Lib.hid (over2 w1 (w.heap.size + 1) 27 _ _ (.int .i64 t) (.int .u64 (b : Int)) HY.out)
    obtain ⟨y0, y1⟩ := cells2 HY.out
    obtain ⟨f0, f1⟩ := free2 HY.out
    go_wp2_with fail
    clear y0 y1 f0 f1
    generalize (w1.setCell _ _).setCell _ _ = w9 at *
    exact bodyPost_ret (v := .tuple #[.agg #[.int .i64 t, .int .u64 (b : Int)], .iface 56 (.int .i64 1)]) (results_cell_row_tmp rfl _ _ _ (w.heap.size + 1) _ rfl (run_loadVar_row _ (w.heap.size + 1) 27 27 _ (0, 0) _ SF.out.1 Tryd.underlying27 rfl (by kernel_rfl)) (.iface 56 (.int .i64 1)) rfl) rfl ⟨rfl, HB.out.grown SF.out.2 HB.out.size (by intro g hg; injection hg with hg; omega)⟩
  case pos =>
  have h1' : ¬ n < 1 := by omega
  by_cases h3 : s.top < n
  · rw [show lets s n = (in_ s n, 0) from by unfold lets; rw [if_neg (by omega), if_neg (by omega)]]
    obtain ⟨k, hk⟩ := Int.eq_ofNat_of_zero_le (show 0 ≤ n - s.top by omega)
    rw [show in_ s n = ⟨n, s.bits <<< k % 18446744073709551616 ||| 1⟩ from by
      unfold in_
      rw [if_pos h3, hk, Int.toNat_natCast]
      congr 1
      split
      · rename_i h64
        rw [Nat.shiftLeft_eq, show k = (k - 64) + 64 by omega, Nat.pow_add, ← Nat.mul_assoc, show (18446744073709551616 : Nat) = 2 ^ 64 from rfl, Nat.mul_mod_left]
        rfl
      · rfl]
    obtain ⟨t, b⟩ := s
    simp only at hbt ht0 ht1 h3 hk ⊢
    clear HH hf
    have hsub : wrap64 (n - t) = (k : Int) := by rw [hk, IntWalk.wrap64_in]; omega
    have hc : IntKind.u64.wrap (k : Int) = (k : Int) := wi64 _ (by omega) (by omega)
    have hs := shl_wrap b k
    have ho := or_one (b <<< k % 18446744073709551616) (Nat.mod_lt _ (by decide))
    generalize b <<< k % 18446744073709551616 = bk at *
    generalize bk ||| 1 = bo at *
    have ES : (w.alloc (.cells #[.int .i64 t, .int .u64 (b : Int)] 27)).heap.size = w.heap.size + 1 := by simp
    have HB := Lib.hid (kept_trans (al_any w (.cells #[.int .i64 t, .int .u64 (b : Int)] 27)) (al_any _ (.cells #[.int .i64 0, .int .u64 0] 27)))
    have HX := Lib.hid (heap_alloc2_old w (.cells #[.int .i64 t, .int .u64 (b : Int)] 27) (.cells #[.int .i64 0, .int .u64 0] 27))
    have HY := Lib.hid (heap_alloc2_new w (.cells #[.int .i64 t, .int .u64 (b : Int)] 27) (.cells #[.int .i64 0, .int .u64 0] 27))
    go_enter Tryd.func16, Tryd.ntmps16
    go_upto_region 1 with (fail)
    clear ES
    generalize (w.alloc _).alloc _ = w1 at *
    obtain ⟨c0, c1⟩ := cells2 HX.out
    have SF := Lib.hid (over2 w1 (w.heap.size + 1) 27 _ _ (.int .i64 n) (.int .u64 (bo : Int)) HY.out)
    obtain ⟨y0, y1⟩ := cells2 HY.out
    obtain ⟨f0, f1⟩ := free2 HY.out
    go_wp2_with fail
    clear y0 y1 f0 f1
    generalize (w1.setCell _ _).setCell _ _ = w9 at *
    exact bodyPost_ret (v := .tuple #[.agg #[.int .i64 n, .int .u64 (bo : Int)], .nilIface]) (results_cell_row_tmp rfl _ _ _ (w.heap.size + 1) _ rfl (run_loadVar_row _ (w.heap.size + 1) 27 27 _ (0, 0) _ SF.out.1 Tryd.underlying27 rfl (by kernel_rfl)) (.nilIface) rfl) rfl ⟨rfl, HB.out.grown SF.out.2 HB.out.size (by intro g hg; injection hg with hg; omega)⟩
  · obtain ⟨k, hk⟩ := Int.eq_ofNat_of_zero_le (show 0 ≤ s.top - n by omega)
    have h3 : n ≤ s.top := by omega
    by_cases h64 : 64 ≤ k
    · rw [show lets s n = (s, 12) from lets_old h1 h2 (by omega)]
      obtain ⟨t, b⟩ := s
      simp only at hbt ht0 ht1 h3 hk ⊢
      clear HH hf
      have hsub : wrap64 (t - n) = (k : Int) := by rw [hk, IntWalk.wrap64_in]; omega
      have h64 : (64 : Int) ≤ (k : Int) := by omega
      have h3 : ¬ t < n := by omega
      have ES : (w.alloc (.cells #[.int .i64 t, .int .u64 (b : Int)] 27)).heap.size = w.heap.size + 1 := by simp
      have HB := Lib.hid (kept_trans (al_any w (.cells #[.int .i64 t, .int .u64 (b : Int)] 27)) (al_any _ (.cells #[.int .i64 0, .int .u64 0] 27)))
      have HX := Lib.hid (heap_alloc2_old w (.cells #[.int .i64 t, .int .u64 (b : Int)] 27) (.cells #[.int .i64 0, .int .u64 0] 27))
      have HY := Lib.hid (heap_alloc2_new w (.cells #[.int .i64 t, .int .u64 (b : Int)] 27) (.cells #[.int .i64 0, .int .u64 0] 27))
      go_enter Tryd.func16, Tryd.ntmps16
      go_upto_region 1 with (fail)
      clear ES
      generalize (w.alloc _).alloc _ = w1 at *
      obtain ⟨c0, c1⟩ := cells2 HX.out
      have SF := Lib.hid (over2 w1 (w.heap.size + 1) 27 _ _ (.int .i64 t) (.int .u64 (b : Int)) HY.out)
      obtain ⟨y0, y1⟩ := cells2 HY.out
      obtain ⟨f0, f1⟩ := free2 HY.out
      go_wp2_with fail
      clear y0 y1 f0 f1
      generalize (w1.setCell _ _).setCell _ _ = w9 at *
      exact bodyPost_ret (v := .tuple #[.agg #[.int .i64 t, .int .u64 (b : Int)], .iface 56 (.int .i64 12)]) (results_cell_row_tmp rfl _ _ _ (w.heap.size + 1) _ rfl (run_loadVar_row _ (w.heap.size + 1) 27 27 _ (0, 0) _ SF.out.1 Tryd.underlying27 rfl (by kernel_rfl)) (.iface 56 (.int .i64 12)) rfl) rfl ⟨rfl, HB.out.grown SF.out.2 HB.out.size (by intro g hg; injection hg with hg; omega)⟩
    · have HC := Lib.hid (show lets s n = if has s n = true then (s, 12) else (in_ s n, 0) from by
        unfold lets
        rw [if_neg (by omega)]
        by_cases hh : has s n = true
        · rw [if_pos ⟨h3, .inr hh⟩, if_pos hh]
        · rw [if_neg (fun ⟨_, h⟩ => h.elim (fun h => by omega) hh), if_neg hh])
      have HI := Lib.hid (show in_ s n = ⟨s.top, s.bits ||| 1 <<< k⟩ from by unfold in_; rw [if_neg (by omega), hk, Int.toNat_natCast])
      generalize lets s n = o at *
      generalize has s n = hs at HH HC
      generalize in_ s n = si at HC HI
      obtain ⟨t, b⟩ := s
      simp only at hbt ht0 ht1 h3 hk HH HI ⊢
      have hsub : wrap64 (t - n) = (k : Int) := by rw [hk, IntWalk.wrap64_in]; omega
      have h64 : decide ((64 : Int) ≤ (k : Int)) = false := decide_eq_false (by omega)
      have h64b : ¬ (64 : Int) ≤ t - n := by omega
      have h3 : ¬ t < n := by omega
      have hc : IntKind.u64.wrap (k : Int) = (k : Int) := wi64 _ (by omega) (by omega)
      have hs1 : IntKind.u64.wrap (2 ^ (t - n).toNat) = ((1 <<< k : Nat) : Int) := by
        have := one_shl k (by omega)
        rw [Nat.min_eq_left (by omega)] at this
        rw [hk, Int.toNat_natCast, this]
      have hk0 : ¬ (k : Int) < 0 := by omega
      have hk1 : (0 : Int) ≤ (k : Int) := by omega
      have hs2 : IntKind.u64.wrap (2 ^ k) = ((1 <<< k : Nat) : Int) := by
        have := one_shl k (by omega)
        rwa [Nat.min_eq_left (by omega)] at this
      have hs3 : IntKind.u64.wrap (1 * 2 ^ k) = ((1 <<< k : Nat) : Int) := by rw [Int.one_mul]; exact hs2
      have ho := or_nat b (1 <<< k) hbt (shift_lt (by omega))
      clear hf hk
      generalize 1 <<< k = sk at *
      generalize b ||| sk = bo at *
      cases hs with
      | true =>
        obtain rfl : o = (⟨t, b⟩, 12) := HC.out
        clear HI
        have ES : (w.alloc (.cells #[.int .i64 t, .int .u64 (b : Int)] 27)).heap.size = w.heap.size + 1 := by simp
        have HB := Lib.hid (kept_trans (al_any w (.cells #[.int .i64 t, .int .u64 (b : Int)] 27)) (al_any _ (.cells #[.int .i64 0, .int .u64 0] 27)))
        have HX := Lib.hid (heap_alloc2_old w (.cells #[.int .i64 t, .int .u64 (b : Int)] 27) (.cells #[.int .i64 0, .int .u64 0] 27))
        have HY := Lib.hid (heap_alloc2_new w (.cells #[.int .i64 t, .int .u64 (b : Int)] 27) (.cells #[.int .i64 0, .int .u64 0] 27))
        go_enter Tryd.func16, Tryd.ntmps16
        go_upto_region 1 with (fail)
        clear ES
        generalize (w.alloc _).alloc _ = w1 at *
        obtain ⟨c0, c1⟩ := cells2 HX.out
        go_wp2_with fail
        with_reducible refine (HH.out _).mono ?_
        rintro e w2 ⟨rfl, hb⟩
        have K2 := kept_hid HB hb
        have X2 := Lib.hid (blk HX.out hb)
        have Y2 := Lib.hid (blk HY.out hb)
        clear hb HB HX HY c0 c1 HH
        obtain ⟨c0, c1⟩ := cells2 X2.out
        have SF := Lib.hid (over2 w2 (w.heap.size + 1) 27 _ _ (.int .i64 t) (.int .u64 (b : Int)) Y2.out)
        obtain ⟨y0, y1⟩ := cells2 Y2.out
        obtain ⟨f0, f1⟩ := free2 Y2.out
        go_wp2_with fail
        clear y0 y1 f0 f1
        generalize (w2.setCell _ _).setCell _ _ = w9 at *
        exact bodyPost_ret (v := .tuple #[.agg #[.int .i64 t, .int .u64 (b : Int)], .iface 56 (.int .i64 12)]) (results_cell_row_tmp rfl _ _ _ (w.heap.size + 1) _ rfl (run_loadVar_row _ (w.heap.size + 1) 27 27 _ (0, 0) _ SF.out.1 Tryd.underlying27 rfl (by kernel_rfl)) (.iface 56 (.int .i64 12)) rfl) rfl ⟨rfl, K2.out.grown SF.out.2 K2.out.size (by intro g hg; injection hg with hg; omega)⟩
      | false =>
        obtain rfl : o = (si, 0) := HC.out
        obtain rfl := HI.out
        clear HI HC
        have ES : (w.alloc (.cells #[.int .i64 t, .int .u64 (b : Int)] 27)).heap.size = w.heap.size + 1 := by simp
        have HB := Lib.hid (kept_trans (al_any w (.cells #[.int .i64 t, .int .u64 (b : Int)] 27)) (al_any _ (.cells #[.int .i64 0, .int .u64 0] 27)))
        have HX := Lib.hid (heap_alloc2_old w (.cells #[.int .i64 t, .int .u64 (b : Int)] 27) (.cells #[.int .i64 0, .int .u64 0] 27))
        have HY := Lib.hid (heap_alloc2_new w (.cells #[.int .i64 t, .int .u64 (b : Int)] 27) (.cells #[.int .i64 0, .int .u64 0] 27))
        go_enter Tryd.func16, Tryd.ntmps16
        go_upto_region 1 with (fail)
        clear ES
        generalize (w.alloc _).alloc _ = w1 at *
        obtain ⟨c0, c1⟩ := cells2 HX.out
        go_wp2_with fail
        with_reducible refine (HH.out _).mono ?_
        rintro e w2 ⟨rfl, hb⟩
        have K2 := kept_hid HB hb
        have X2 := Lib.hid (blk HX.out hb)
        have Y2 := Lib.hid (blk HY.out hb)
        clear hb HB HX HY c0 c1 HH
        obtain ⟨c0, c1⟩ := cells2 X2.out
        have SF := Lib.hid (over2 w2 (w.heap.size + 1) 27 _ _ (.int .i64 t) (.int .u64 (bo : Int)) Y2.out)
        obtain ⟨y0, y1⟩ := cells2 Y2.out
        obtain ⟨f0, f1⟩ := free2 Y2.out
        go_upto_region 8 with (fail)
        go_region
        go_wp2_with fail
        clear y0 y1 f0 f1
        generalize (w2.setCell _ _).setCell _ _ = w9 at *
        exact bodyPost_ret (v := .tuple #[.agg #[.int .i64 t, .int .u64 (bo : Int)], .nilIface]) (results_cell_row_tmp rfl _ _ _ (w.heap.size + 1) _ rfl (run_loadVar_row w9.drew (w.heap.size + 1) 27 27 _ (0, 0) _ SF.out.1 Tryd.underlying27 rfl (by kernel_rfl)) (.nilIface) rfl) rfl ⟨rfl, (K2.out.grown SF.out.2 K2.out.size (by intro g hg; injection hg with hg; omega)).drew⟩
end Win
end Go.Proofs.YtoiidedigbfnaaaDoor
