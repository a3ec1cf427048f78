/- AddrApart and AddrWays return true. -/
import Derived.Test.YtdpipjcihnghpaaDoorAddrAwake
namespace Go.Proofs.YtdpipjcihnghpaaDoor
open Go.RowKit Err Six
namespace Adr
theorem apart {x y n : Nat} (hx : x < n) (hy : y < n) (h1 : first x n = first y n) (h2 : second x n = second y n) : x = y := by
  unfold first at h1; unfold second at h2
  by_cases h : n ≤ 4096
  · rw [if_pos h, if_pos h] at h1 h2
    have e1 := put_inj (x / 64) (y / 64) (by omega) (by omega) h1
    have e2 := put_inj (x % 64) (y % 64) (by omega) (by omega) h2
    omega
  · rw [if_neg h, if_neg h] at h1 h2
    omega
theorem size_of (n : Nat) : 1 + (n : Int) % 16383 = ((1 + n % 16383 : Nat) : Int) := by omega
theorem rem_of (a s : Nat) : (a : Int) % (s : Int) = ((a % s : Nat) : Int) := by omega
set_option maxRecDepth 100000 in
set_option maxHeartbeats 4000000 in
theorem apart_same (a b n x y s : Nat) (w : World) (ha : a < 65536) (hb : b < 65536) (hn : n < 65536) (es : 1 + n % 16383 = s) (ex : a % s = x) (ey : b % s = y) (hx : x < s) (hy : y < s) (h2 : s ≤ 16383) (hxy : x = y) (hg : Handle w) :
    Calls Tryd.prog 5 #[.int .u16 (a : Int), .int .u16 (b : Int), .int .u16 (n : Int)] w fun e w' => e = .returned (.bool true) ∧ Below w.heap.size w w' := by
  have HX := fun W => put_all x s W hx h2
  have HY := fun W => put_all y s W hy h2
  subst hxy
  generalize ((first x s : Nat) : Int) = p at HX HY
  generalize ((second x s : Nat) : Int) = q at HX HY
  have hq : (p == p && q == q) = true := by simp
  have HX := Lib.hid HX
  have HY := Lib.hid HY
  have HQ := Lib.hid hq
  clear hq
  go_enter Tryd.func5, Tryd.ntmps5
  go_wp2_with fail
  rw [size_of, es, rem_of, ex, rem_of, ey]
  clear ha hb hn es ex ey
  refine (HX.out _).mono ?_
  rintro e w1 ⟨rfl, hb1⟩
  obtain ⟨hT1, hA1⟩ := two_new w1 33 p q
  have hg1 := hand_of (hand_of hg hb1) hA1
  have H1 := kept_hid (Lib.hid hb1) hA1
  clear hb1 hg hA1 HX
  go_wp2_with fail
  generalize w1.alloc (.cells #[.int .u8 p, .int .u8 q] 33) = W1 at *
  generalize w1.heap.size = B1 at *
  refine (HY.out _).mono ?_
  rintro e w2 ⟨rfl, hb2⟩
  obtain ⟨hT2, hA2⟩ := two_new w2 33 p q
  have hg2 := hand_of (hand_of hg1 hb2) hA2
  have hT1 := (hT1.below hb2).below hA2
  have H2 := kept_hid (kept_hid H1 hb2) hA2
  clear hb2 hg1 hA2 H1 HY
  go_wp2_with fail
  generalize w2.alloc (.cells #[.int .u8 p, .int .u8 q] 33) = W2 at *
  generalize w2.heap.size = B2 at *
  refine (awake_any _ hg2).mono ?_
  rintro e w3 ⟨rfl, hb3⟩
  have hT1 := hT1.below hb3
  have hT2 := hT2.below hb3
  have H3 := kept_hid H2 hb3
  clear hb3 hg2 H2
  have a0 := hT1.c0
  have a1 := hT1.c1
  have b0 := hT2.c0
  have b1 := hT2.c1
  clear hT1 hT2
  have q1 := eql_two p q p q
  rw [HQ.out] at q1
  go_wp2_with fail
  go_ret
  exact ⟨rfl, H3.out⟩
set_option maxRecDepth 100000 in
set_option maxHeartbeats 4000000 in
theorem apart_not (a b n x y s : Nat) (w : World) (ha : a < 65536) (hb : b < 65536) (hn : n < 65536) (es : 1 + n % 16383 = s) (ex : a % s = x) (ey : b % s = y) (hx : x < s) (hy : y < s) (h2 : s ≤ 16383) (hxy : x ≠ y) (hg : Handle w) :
    Calls Tryd.prog 5 #[.int .u16 (a : Int), .int .u16 (b : Int), .int .u16 (n : Int)] w fun e w' => e = .returned (.bool true) ∧ Below w.heap.size w w' := by
  have HX := fun W => put_all x s W hx h2
  have HY := fun W => put_all y s W hy h2
  have hq : (((first x s : Nat) : Int) == ((first y s : Nat) : Int) && ((second x s : Nat) : Int) == ((second y s : Nat) : Int)) = false := by
    rcases Bool.eq_false_or_eq_true (((first x s : Nat) : Int) == ((first y s : Nat) : Int) && ((second x s : Nat) : Int) == ((second y s : Nat) : Int)) with h | h
    · simp at h
      exact absurd (apart hx hy (by omega) (by omega)) hxy
    · exact h
  generalize ((first x s : Nat) : Int) = p at HX hq
  generalize ((second x s : Nat) : Int) = q at HX hq
  generalize ((first y s : Nat) : Int) = p' at HY hq
  generalize ((second y s : Nat) : Int) = q' at HY hq
  have HX := Lib.hid HX
  have HY := Lib.hid HY
  have HQ := Lib.hid hq
  clear hq
  go_enter Tryd.func5, Tryd.ntmps5
  go_wp2_with fail
  rw [size_of, es, rem_of, ex, rem_of, ey]
  clear ha hb hn es ex ey
  refine (HX.out _).mono ?_
  rintro e w1 ⟨rfl, hb1⟩
  obtain ⟨hT1, hA1⟩ := two_new w1 33 p q
  have hg1 := hand_of (hand_of hg hb1) hA1
  have H1 := kept_hid (Lib.hid hb1) hA1
  clear hb1 hg hA1 HX
  go_wp2_with fail
  generalize w1.alloc (.cells #[.int .u8 p, .int .u8 q] 33) = W1 at *
  generalize w1.heap.size = B1 at *
  refine (HY.out _).mono ?_
  rintro e w2 ⟨rfl, hb2⟩
  obtain ⟨hT2, hA2⟩ := two_new w2 33 p' q'
  have hg2 := hand_of (hand_of hg1 hb2) hA2
  have hT1 := (hT1.below hb2).below hA2
  have H2 := kept_hid (kept_hid H1 hb2) hA2
  clear hb2 hg1 hA2 H1 HY
  go_wp2_with fail
  generalize w2.alloc (.cells #[.int .u8 p', .int .u8 q'] 33) = W2 at *
  generalize w2.heap.size = B2 at *
  refine (awake_any _ hg2).mono ?_
  rintro e w3 ⟨rfl, hb3⟩
  have hT1 := hT1.below hb3
  have hT2 := hT2.below hb3
  have H3 := kept_hid H2 hb3
  clear hb3 hg2 H2
  have a0 := hT1.c0
  have a1 := hT1.c1
  have b0 := hT2.c0
  have b1 := hT2.c1
  clear hT1 hT2
  have q1 := eql_two p q p' q'
  rw [HQ.out] at q1
  go_wp2_with fail
  go_ret
  exact ⟨ret_bool (by simp; omega), H3.out⟩
/-- AddrApart returns true. -/
theorem apart_any (a b n : Nat) (w : World) (ha : a < 65536) (hb : b < 65536) (hn : n < 65536) (hg : Handle w) :
    Calls Tryd.prog 5 #[.int .u16 (a : Int), .int .u16 (b : Int), .int .u16 (n : Int)] w fun e w' => e = .returned (.bool true) ∧ Below w.heap.size w w' := by
  have hs : 0 < 1 + n % 16383 := by omega
  by_cases h : a % (1 + n % 16383) = b % (1 + n % 16383)
  · exact apart_same a b n _ _ _ w ha hb hn rfl rfl rfl (Nat.mod_lt _ hs) (Nat.mod_lt _ hs) (by omega) h hg
  · exact apart_not a b n _ _ _ w ha hb hn rfl rfl rfl (Nat.mod_lt _ hs) (Nat.mod_lt _ hs) (by omega) h hg
end Adr
end Go.Proofs.YtdpipjcihnghpaaDoor
