/- The walk of MacEquals. -/
import Derived.Test.YtmfecicapaiaeaaMacAwake
namespace Go.Proofs.Ytmfecicapaiaeaa
open Go.RowKit
namespace Sha
set_option maxRecDepth 100000 in
set_option maxHeartbeats 1000000 in
theorem equals_long0 (a0 : Option Addr) (len0 cap0 : Nat) (a1 : Option Addr) (len1 cap1 : Nat) (w : World) (hl : len0 ≤ maxLen) (h : 300 < len0) :
    Calls Try.prog 9 #[.slice a0 len0 cap0, .slice a1 len1 cap1] w fun e w' => e = .returned (.bool true) ∧ Below w.heap.size w w' := by
  unfold maxLen at hl
  have hg : decide ((300 : Int) < (len0 : Int)) = true := by simp; omega
  go_enter Try.func9, Try.ntmps9
  go_wp2_with fail
  refine (awake2_any _).mono ?_
  rintro e w1 ⟨rfl, hb1⟩
  have B1 := Lib.hid hb1
  clear hb1
  go_wp2_with fail
  refine (awake2_any _).mono ?_
  rintro e w2 ⟨rfl, hb2⟩
  have B2 := Lib.hid (B1.out.trans (hb2.mono B1.out.size))
  clear hb2
  go_wp2_with fail
  go_ret
  exact ⟨rfl, B2.out⟩
set_option maxRecDepth 100000 in
set_option maxHeartbeats 1000000 in
theorem equals_long1 (a0 : Option Addr) (len0 cap0 : Nat) (a1 : Option Addr) (len1 cap1 : Nat) (w : World) (hl : len1 ≤ maxLen) (h0 : len0 ≤ 300) (h : 300 < len1) :
    Calls Try.prog 9 #[.slice a0 len0 cap0, .slice a1 len1 cap1] w fun e w' => e = .returned (.bool true) ∧ Below w.heap.size w w' := by
  unfold maxLen at hl
  have hg0 : decide ((300 : Int) < (len0 : Int)) = false := by simp; omega
  have hg : decide ((300 : Int) < (len1 : Int)) = true := by simp; omega
  go_enter Try.func9, Try.ntmps9
  go_wp2_with fail
  refine (awake2_any _).mono ?_
  rintro e w1 ⟨rfl, hb1⟩
  have B1 := Lib.hid hb1
  clear hb1
  go_wp2_with fail
  refine (awake2_any _).mono ?_
  rintro e w2 ⟨rfl, hb2⟩
  have B2 := Lib.hid (B1.out.trans (hb2.mono B1.out.size))
  clear hb2
  go_wp2_with fail
  go_ret
  exact ⟨rfl, B2.out⟩
set_option maxRecDepth 100000 in
set_option maxHeartbeats 1000000 in
theorem equals_main (a0 : Option Addr) (len0 cap0 : Nat) (a1 : Option Addr) (len1 cap1 : Nat) (w : World) (h0 : len0 ≤ 300) (h1 : len1 ≤ 300) (xs ys : List Nat) (hx : xs.length = len0) (hy : ys.length = len1)
    (hx8 : ∀ x ∈ xs, x < 256) (hy8 : ∀ x ∈ ys, x < 256) (hbx : BytesIn w (.slice a0 len0 cap0) xs) (hby : BytesIn w (.slice a1 len1 cap1) ys) :
    Calls Try.prog 9 #[.slice a0 len0 cap0, .slice a1 len1 cap1] w fun e w' => e = .returned (.bool true) ∧ Below w.heap.size w w' := by
  have hg0 : decide ((300 : Int) < (len0 : Int)) = false := by simp; omega
  have hg1 : decide ((300 : Int) < (len1 : Int)) = false := by simp; omega
  have HX := Lib.hid hx
  have HY := Lib.hid hy
  have HX8 := Lib.hid hx8
  have HY8 := Lib.hid hy8
  have HBX := Lib.hid hbx
  have HBY := Lib.hid hby
  clear hx hy hx8 hy8 hbx hby
  go_enter Try.func9, Try.ntmps9
  go_wp2_with fail
  refine (awake2_any _).mono ?_
  rintro e w1 ⟨rfl, hb1⟩
  have B1 := Lib.hid hb1
  have HBX1 := Lib.hid (bytes_below HBX.out hb1)
  have HBY1 := Lib.hid (bytes_below HBY.out hb1)
  clear hb1
  go_wp2_with fail
  refine (equal_any _ _ xs ys _ HBX1.out HBY1.out HX8.out HY8.out (by have := HX.out; omega) (by have := HY.out; omega)).mono ?_
  rintro e w2 ⟨rfl, k, hw2⟩
  have HBX2 := Lib.hid (show BytesIn w2 (.slice a0 len0 cap0) xs by rw [hw2]; exact HBX1.out)
  have HBY2 := Lib.hid (show BytesIn w2 (.slice a1 len1 cap1) ys by rw [hw2]; exact HBY1.out)
  have B2 := Lib.hid (show Below w.heap.size w w2 by rw [hw2]; exact below_drewN B1.out k)
  clear hw2
  go_wp2_with fail
  refine (same_gen _ _ xs ys _ HBX2.out HBY2.out HX8.out HY8.out (by have := HX.out; omega)).mono ?_
  rintro e w3 ⟨rfl, k2, hw3⟩
  have HBX3 := Lib.hid (show BytesIn w3 (.slice a0 len0 cap0) xs by rw [hw3]; exact HBX2.out)
  have B3 := Lib.hid (show Below w.heap.size w w3 by rw [hw3]; exact below_drewN B2.out k2)
  clear hw3
  generalize decide (xs = ys) = b
  have hb : (b == b) = true := by simp
  go_wp2_with fail
  refine (equal_same _ _ xs _ HBX3.out HBX3.out HX8.out (by have := HX.out; omega)).mono ?_
  rintro e w4 ⟨rfl, k3, hw4⟩
  have B4 := Lib.hid (show Below w.heap.size w w4 by rw [hw4]; exact below_drewN B3.out k3)
  clear hw4
  go_wp2_with fail
  go_ret
  exact ⟨rfl, B4.out⟩
theorem equals_walk (a0 : Option Addr) (len0 cap0 : Nat) (z0 : List Int) (a1 : Option Addr) (len1 cap1 : Nat) (z1 : List Int) (w : World) (w0 : IsRow .u8 w a0 len0 cap0 z0) (w1 : IsRow .u8 w a1 len1 cap1 z1) :
    Calls Try.prog 9 #[.slice a0 len0 cap0, .slice a1 len1 cap1] w fun e w' => e = .returned (.bool true) ∧ Below w.heap.size w w' := by
  rcases Nat.lt_or_ge 300 len0 with h0 | h0
  · exact equals_long0 a0 len0 cap0 a1 len1 cap1 w (isRow_le w0) h0
  · rcases Nat.lt_or_ge 300 len1 with h1 | h1
    · exact equals_long1 a0 len0 cap0 a1 len1 cap1 w (isRow_le w1) h0 h1
    · obtain ⟨xs, hx, hx8, hbx⟩ := isRow_bytes w0
      obtain ⟨ys, hy, hy8, hby⟩ := isRow_bytes w1
      exact equals_main a0 len0 cap0 a1 len1 cap1 w h0 h1 xs ys hx hy hx8 hy8 hbx hby
end Sha
end Go.Proofs.Ytmfecicapaiaeaa
