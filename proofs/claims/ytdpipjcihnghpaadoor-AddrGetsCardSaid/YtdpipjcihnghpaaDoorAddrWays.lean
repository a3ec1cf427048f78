/- AddrWays returns true. -/
import Derived.Test.YtdpipjcihnghpaaDoorAddrApart
namespace Go.Proofs.YtdpipjcihnghpaaDoor
open Go.RowKit Err Six
namespace Adr
theorem put_ge : ∀ n, n < 64 → 64 ≤ put n := by decide
set_option maxRecDepth 100000 in
set_option maxHeartbeats 4000000 in
theorem ways_short (a n x s : Nat) (w : World) (ha : a < 65536) (hn : n < 65536) (es : 1 + n % 16383 = s) (ex : a % s = x) (hx : x < s) (h2 : s ≤ 16383) (h : s ≤ 4096) (hg : Handle w) :
    Calls Tryd.prog 6 #[.int .u16 (a : Int), .int .u16 (n : Int)] w fun e w' => e = .returned (.bool true) ∧ Below w.heap.size w w' := by
  have HX := fun W => put_short x s W hx h
  have HL := Lib.hid fun W => long_no s W h
  have e1 := put_low (x / 64) (by omega)
  have e2 := put_low (x % 64) (by omega)
  have e3 := put_ge (x / 64) (by omega)
  have e4 := put_ge (x % 64) (by omega)
  have e5 := put_lt (x / 64) (by omega)
  have e6 := put_lt (x % 64) (by omega)
  generalize put (x / 64) = p at *
  generalize put (x % 64) = q at *
  have f1 : 64 * ((p : Int) % 64) + (q : Int) % 64 = (x : Int) := by omega
  have HX := Lib.hid HX
  have HF := Lib.hid f1
  clear f1
  go_enter Tryd.func6, Tryd.ntmps6
  go_wp2_with fail
  rw [size_of, es, rem_of, ex]
  clear ha hn es ex
  refine (HX.out _).mono ?_
  rintro e w1 ⟨rfl, hb1⟩
  obtain ⟨hT1, hA1⟩ := two_new w1 33 (p : Int) (q : Int)
  have hg1 := hand_of (hand_of hg hb1) hA1
  have H1 := kept_hid (Lib.hid hb1) hA1
  clear hb1 hg hA1 HX
  go_wp2_with fail
  generalize w1.alloc (.cells #[.int .u8 (p : Int), .int .u8 (q : Int)] 33) = W1 at *
  generalize w1.heap.size = B1 at *
  refine (awake_any _ hg1).mono ?_
  rintro e w3 ⟨rfl, hb3⟩
  have hT1 := hT1.below hb3
  have H3 := kept_hid H1 hb3
  clear hb3 hg1 H1
  go_wp2_with fail
  refine (HL.out _).mono ?_
  rintro e w4 ⟨rfl, rfl⟩
  clear HL
  have a0 := hT1.c0
  have a1 := hT1.c1
  clear hT1
  go_wp2_with fail
  go_ret
  exact ⟨ret_bool (by have := HF.out; simp; omega), H3.out⟩
set_option maxRecDepth 100000 in
set_option maxHeartbeats 4000000 in
theorem ways_long (a n x s : Nat) (w : World) (ha : a < 65536) (hn : n < 65536) (es : 1 + n % 16383 = s) (ex : a % s = x) (hx : x < s) (h2 : s ≤ 16383) (h : 4096 < s) (hg : Handle w) :
    Calls Tryd.prog 6 #[.int .u16 (a : Int), .int .u16 (n : Int)] w fun e w' => e = .returned (.bool true) ∧ Below w.heap.size w w' := by
  have HX := fun W => put_long x s W hx h h2
  have HL := Lib.hid fun W => long_yes s W h
  have e1 : x / 256 < 64 := by omega
  have e2 : x % 256 < 256 := by omega
  have e3 : 256 * (x / 256) + x % 256 = x := by omega
  generalize x / 256 = p at *
  generalize x % 256 = q at *
  have f1 : 256 * (p : Int) + (q : Int) = (x : Int) := by omega
  have HX := Lib.hid HX
  have HF := Lib.hid f1
  clear f1
  go_enter Tryd.func6, Tryd.ntmps6
  go_wp2_with fail
  rw [size_of, es, rem_of, ex]
  clear ha hn es ex
  refine (HX.out _).mono ?_
  rintro e w1 ⟨rfl, hb1⟩
  obtain ⟨hT1, hA1⟩ := two_new w1 33 (p : Int) (q : Int)
  have hg1 := hand_of (hand_of hg hb1) hA1
  have H1 := kept_hid (Lib.hid hb1) hA1
  clear hb1 hg hA1 HX
  go_wp2_with fail
  generalize w1.alloc (.cells #[.int .u8 (p : Int), .int .u8 (q : Int)] 33) = W1 at *
  generalize w1.heap.size = B1 at *
  refine (awake_any _ hg1).mono ?_
  rintro e w3 ⟨rfl, hb3⟩
  have hT1 := hT1.below hb3
  have H3 := kept_hid H1 hb3
  clear hb3 hg1 H1
  go_wp2_with fail
  refine (HL.out _).mono ?_
  rintro e w4 ⟨rfl, rfl⟩
  clear HL
  have a0 := hT1.c0
  have a1 := hT1.c1
  clear hT1
  go_wp2_with fail
  go_ret
  exact ⟨ret_bool (by have := HF.out; simp; omega), H3.out⟩
/-- AddrWays returns true. -/
theorem ways_any (a n : Nat) (w : World) (ha : a < 65536) (hn : n < 65536) (hg : Handle w) :
    Calls Tryd.prog 6 #[.int .u16 (a : Int), .int .u16 (n : Int)] w fun e w' => e = .returned (.bool true) ∧ Below w.heap.size w w' := by
  have hs : 0 < 1 + n % 16383 := by omega
  rcases Nat.lt_or_ge 4096 (1 + n % 16383) with h | h
  · exact ways_long a n _ _ w ha hn rfl rfl (Nat.mod_lt _ hs) (by omega) h hg
  · exact ways_short a n _ _ w ha hn rfl rfl (Nat.mod_lt _ hs) (by omega) h hg
end Adr
end Go.Proofs.YtdpipjcihnghpaaDoor
