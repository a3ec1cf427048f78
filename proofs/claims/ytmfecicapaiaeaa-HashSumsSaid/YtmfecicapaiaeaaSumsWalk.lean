/- The walk of HashSums. -/
import Derived.Test.YtmfecicapaiaeaaRefOf
import Derived.Test.YtmfecicapaiaeaaCut
import Derived.Test.YtmfecicapaiaeaaShaEq
namespace Go.Proofs.Ytmfecicapaiaeaa
open Go.RowKit
namespace Sha
set_option maxRecDepth 100000 in
set_option maxHeartbeats 1000000 in
theorem sums_long (a0 : Option Addr) (len0 cap0 : Nat) (c : Int) (w : World) (hl : len0 ≤ maxLen) (h : 500 < len0) :
    Calls Try.prog 3 #[.slice a0 len0 cap0, .int .u16 c] w fun e w' => e = .returned (.bool true) ∧ Below w.heap.size w w' := by
  unfold maxLen at hl
  have hg : decide ((500 : Int) < (len0 : Int)) = true := by simp; omega
  go_enter Try.func3, Try.ntmps3
  go_wp2_with fail
  refine (awake_any _).mono ?_
  rintro e w1 ⟨rfl, hb1⟩
  have B1 := Lib.hid hb1
  clear hb1
  go_wp2_with fail
  refine (awake_any _).mono ?_
  rintro e w2 ⟨rfl, hb2⟩
  have B2 := Lib.hid (B1.out.trans (hb2.mono B1.out.size))
  clear hb2
  go_wp2_with fail
  go_ret
  exact ⟨rfl, B2.out⟩

set_option maxRecDepth 100000 in
set_option maxHeartbeats 2000000 in
theorem sums_main (a0 : Option Addr) (len0 cap0 : Nat) (c k : Nat) (w : World) (h0 : len0 ≤ 500) (hc : c < 65536) (hk : c % (len0 + 1) = k) (xs : List Nat) (hx : xs.length = len0)
    (hx8 : ∀ x ∈ xs, x < 256) (hbx : BytesIn w (.slice a0 len0 cap0) xs) (hn0 : a0 = none → len0 = 0 ∧ cap0 = 0) :
    Calls Try.prog 3 #[.slice a0 len0 cap0, .int .u16 (c : Int)] w fun e w' => e = .returned (.bool true) ∧ Below w.heap.size w w' := by
  have hg0 : decide ((500 : Int) < (len0 : Int)) = false := by simp; omega
  have hkl : k ≤ len0 := by rw [← hk]; have := Nat.mod_lt c (show 0 < len0 + 1 by omega); omega
  have hkc : (c : Int) % ((len0 : Int) + 1) = (k : Int) := by rw [← hk]; simp
  have hlc : len0 ≤ cap0 := by obtain ⟨_, _, hv, h, _⟩ := hbx; injection hv with _ _ e3; omega
  have HH := Lib.hid (fun w => (run_slice_only _ _ _ _).symm.trans (run_cut_h a0 len0 cap0 k (by omega) w))
  have HL := Lib.hid (fun w => (run_slice_only _ _ _ _).symm.trans (run_cut_l a0 len0 cap0 k hkl w))
  have HBH := Lib.hid (bytes_h hbx hkl)
  have HBL := Lib.hid (bytes_l hbx hkl)
  have HXX := Lib.hid (show [xs.take k, xs.drop k].flatten = xs by simp)
  have HX := Lib.hid hx
  have HX8 := Lib.hid hx8
  have HX9 := Lib.hid (show ∀ p ∈ [xs.take k, xs.drop k], ∀ x ∈ p, x < 256 by
    intro p hp x hxp
    simp only [List.mem_cons, List.not_mem_nil, or_false] at hp
    rcases hp with rfl | rfl
    · exact hx8 x (List.mem_of_mem_take hxp)
    · exact hx8 x (List.mem_of_mem_drop hxp))
  have HBX := Lib.hid hbx
  have HN0 := Lib.hid hn0
  have HE := Lib.hid (fun w => eql_refl (digest xs) (digest_length _) w)
  clear hx hx8 hbx hn0 hk
  have HKL := Lib.hid hkl
  go_enter Try.func3, Try.ntmps3
  go_wp2_with fail
  refine (awake_any _).mono ?_
  rintro e w1 ⟨rfl, hb1⟩
  have B1 := Lib.hid hb1
  clear hb1
  go_wp2_with fail
  have hh := HH.out
  have hlo := HL.out
  have heq := HE.out
  rw [hkc]
  clear hkc hkl hlc
  generalize cutA a0 k cap0 = a2 at hlo HBL
  go_region_with (first | (go_at_call 14; refine (of_any [xs.take k, xs.drop k] _ _ ?_ HX9.out ?_ (by simp)).mono ?_; (exact parts_laid_in (B1.out.trans ((Below.refl _ _).drew)) [.slice a0 k cap0, .slice a2 (len0 - k) (cap0 - k)] [xs.take k, xs.drop k] rfl (fun | 0, _ => HBH.out | 1, _ => HBL.out) _ rfl); (rw [HXX.out]; have := HX.out; omega); rintro e w3 ⟨rfl, hb3⟩; rw [HXX.out]; have B3 := Lib.hid (((B1.out.trans ((Below.refl _ _).drew)).alloc (B1.out.size) (.cells #[.slice a0 k cap0, .slice a2 (len0 - k) (cap0 - k)] 22)).trans (hb3.mono (by have := B1.out.size; simp; omega))); clear hb3) | (go_at_call 15; refine (rof_any a0 len0 cap0 xs _ HX.out HX8.out (by omega) (bytes_below HBX.out B3.out) HN0.out).mono ?_; rintro e w4 ⟨rfl, hb4⟩; have B4 := Lib.hid (B3.out.trans (hb4.mono B3.out.size)); clear hb4))
  all_goals
    go_wp2_with fail
    go_ret
    exact ⟨rfl, B4.out⟩
theorem sums_walk (a0 : Option Addr) (len0 cap0 : Nat) (z0 : List Int) (c : Int) (w : World) (w0 : IsRow .u8 w a0 len0 cap0 z0) (w1 : (Lit.int .u16 c).wf = true) :
    Calls Try.prog 3 #[.slice a0 len0 cap0, .int .u16 c] w fun e w' => e = .returned (.bool true) ∧ Below w.heap.size w w' := by
  rcases Nat.lt_or_ge 500 len0 with h0 | h0
  · exact sums_long a0 len0 cap0 c w (isRow_le w0) h0
  · obtain ⟨xs, hx, hx8, hbx⟩ := isRow_bytes w0
    have hb := bounds_u16 w1
    obtain ⟨n, rfl⟩ := Int.eq_ofNat_of_zero_le hb.1
    exact sums_main a0 len0 cap0 n _ w h0 (by omega) rfl xs hx hx8 hbx (isRow_nil w0)
end Sha
end Go.Proofs.Ytmfecicapaiaeaa
