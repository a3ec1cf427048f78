/- AddrGets returns true. -/
import Derived.Test.YtdpipjcihnghpaaDoorAddrAwake
import Derived.Test.YtdpipjcihnghpaaDoorBytes
namespace Go.Proofs.YtdpipjcihnghpaaDoor
open Go.RowKit Err Six Sha
namespace Adr
set_option maxHeartbeats 1000000 in
theorem gets_long (ad : Option Addr) (len cap : Nat) (n : Int) (w : World) (hl : 100 < len) (hg0 : Handle w) :
    Calls Tryd.prog 3 #[.slice ad len cap, .int .i64 n] w fun e w' => e = .returned (.bool true) ∧ Below w.heap.size w w' := by
  go_enter Tryd.func3, Tryd.ntmps3
  go_wp2_with fail
  refine (awake_any _ hg0).mono ?_
  rintro e w1 ⟨rfl, hb1⟩
  have hg1 := hand_of hg0 hb1
  have H1 := Lib.hid hb1
  clear hb1 hg0
  go_wp2_with fail
  refine (awake_any _ hg1).mono ?_
  rintro e w2 ⟨rfl, hb2⟩
  have H2 := kept_hid H1 hb2
  clear hb2 hg1 H1
  go_wp2_with fail
  go_ret
  exact ⟨rfl, H2.out⟩
set_option maxHeartbeats 1000000 in
theorem gets_ok (ad : Option Addr) (len cap : Nat) (n : Int) (a : Int) (w : World) (hl : len ≤ 100) (hg0 : Handle w)
    (HA : ∀ W, Below w.heap.size w W → Calls Tryd.prog 8 #[.slice ad len cap, .int .i64 n] W fun e w' => e = .returned (.tuple #[.int .i64 a, .nilIface]) ∧ Below W.heap.size W w')
    (HR : ∀ W, Below w.heap.size w W → Calls Tryd.prog 9 #[.slice ad len cap, .int .i64 n] W fun e w' => e = .returned (.tuple #[.int .i64 a, .int .i64 0, .int .i64 (-1)]) ∧ Below W.heap.size W w') :
    Calls Tryd.prog 3 #[.slice ad len cap, .int .i64 n] w fun e w' => e = .returned (.bool true) ∧ Below w.heap.size w w' := by
  have HA := Lib.hid HA
  have HR := Lib.hid HR
  go_enter Tryd.func3, Tryd.ntmps3
  go_wp2_with fail
  refine (awake_any _ hg0).mono ?_
  rintro e w1 ⟨rfl, hb1⟩
  have hg1 := hand_of hg0 hb1
  have H1 := Lib.hid hb1
  clear hb1 hg0
  go_wp2_with fail
  refine (HA.out _ H1.out).mono ?_
  rintro e w2 ⟨rfl, hb2⟩
  have hg2 := hand_of hg1 hb2
  have H2 := kept_hid H1 hb2
  clear hb2 hg1 H1
  go_wp2_with fail
  refine (HR.out _ H2.out).mono ?_
  rintro e w3 ⟨rfl, hb3⟩
  have hg3 := hand_of hg2 hb3
  have H3 := kept_hid H2 hb3
  clear hb3 hg2 H2
  go_wp2_with fail
  refine (code_nil _).mono ?_
  rintro e w4 ⟨rfl, hb4⟩
  have hg4 := hand_of hg3 hb4
  have H4 := kept_hid H3 hb4
  clear hb4 hg3 H3
  go_wp2_with fail
  refine (where_nil _).mono ?_
  rintro e w5 ⟨rfl, hb5⟩
  have H5 := kept_hid H4 hb5
  clear hb5 hg4 H4
  go_wp2_with fail
  go_ret
  exact ⟨rfl, H5.out⟩
set_option maxHeartbeats 1000000 in
theorem gets_errno (ad : Option Addr) (len cap : Nat) (n : Int) (k : Int) (w : World) (hl : len ≤ 100) (hg0 : Handle w)
    (HA : ∀ W, Below w.heap.size w W → Calls Tryd.prog 8 #[.slice ad len cap, .int .i64 n] W fun e w' => e = .returned (.tuple #[.int .i64 0, .iface 40 (.int .i64 k)]) ∧ Below W.heap.size W w')
    (HR : ∀ W, Below w.heap.size w W → Calls Tryd.prog 9 #[.slice ad len cap, .int .i64 n] W fun e w' => e = .returned (.tuple #[.int .i64 0, .int .i64 k, .int .i64 (-1)]) ∧ Below W.heap.size W w') :
    Calls Tryd.prog 3 #[.slice ad len cap, .int .i64 n] w fun e w' => e = .returned (.bool true) ∧ Below w.heap.size w w' := by
  have HA := Lib.hid HA
  have HR := Lib.hid HR
  go_enter Tryd.func3, Tryd.ntmps3
  go_wp2_with fail
  refine (awake_any _ hg0).mono ?_
  rintro e w1 ⟨rfl, hb1⟩
  have hg1 := hand_of hg0 hb1
  have H1 := Lib.hid hb1
  clear hb1 hg0
  go_wp2_with fail
  refine (HA.out _ H1.out).mono ?_
  rintro e w2 ⟨rfl, hb2⟩
  have hg2 := hand_of hg1 hb2
  have H2 := kept_hid H1 hb2
  clear hb2 hg1 H1
  go_wp2_with fail
  refine (HR.out _ H2.out).mono ?_
  rintro e w3 ⟨rfl, hb3⟩
  have hg3 := hand_of hg2 hb3
  have H3 := kept_hid H2 hb3
  clear hb3 hg2 H2
  go_wp2_with fail
  refine (code_errno k _ hg3).mono ?_
  rintro e w4 ⟨rfl, hb4⟩
  have hg4 := hand_of hg3 hb4
  have H4 := kept_hid H3 hb4
  clear hb4 hg3 H3
  go_wp2_with fail
  refine (where_errno k _ hg4).mono ?_
  rintro e w5 ⟨rfl, hb5⟩
  have H5 := kept_hid H4 hb5
  clear hb5 hg4 H4
  go_wp2_with fail
  go_ret
  exact ⟨rfl, H5.out⟩
set_option maxHeartbeats 1000000 in
theorem gets_spot (ad : Option Addr) (len cap : Nat) (n : Int) (k : Int) (w : World) (hl : len ≤ 100) (hg0 : Handle w)
    (HA : ∀ W, Below w.heap.size w W → Calls Tryd.prog 8 #[.slice ad len cap, .int .i64 n] W fun e w' => ∃ B, e = .returned (.tuple #[.int .i64 0, .iface 47 (.pointer (some ⟨B, 0, none⟩))]) ∧ SpotAt w' B k 3 ∧ Below W.heap.size W w')
    (HR : ∀ W, Below w.heap.size w W → Calls Tryd.prog 9 #[.slice ad len cap, .int .i64 n] W fun e w' => e = .returned (.tuple #[.int .i64 0, .int .i64 3, .int .i64 k]) ∧ Below W.heap.size W w') :
    Calls Tryd.prog 3 #[.slice ad len cap, .int .i64 n] w fun e w' => e = .returned (.bool true) ∧ Below w.heap.size w w' := by
  have HA := Lib.hid HA
  have HR := Lib.hid HR
  go_enter Tryd.func3, Tryd.ntmps3
  go_wp2_with fail
  refine (awake_any _ hg0).mono ?_
  rintro e w1 ⟨rfl, hb1⟩
  have hg1 := hand_of hg0 hb1
  have H1 := Lib.hid hb1
  clear hb1 hg0
  go_wp2_with fail
  refine (HA.out _ H1.out).mono ?_
  rintro e w2 ⟨B, rfl, hs, hb2⟩
  have hg2 := hand_of hg1 hb2
  have H2 := kept_hid H1 hb2
  clear hb2 hg1 H1 HA
  go_wp2_with fail
  refine (HR.out _ H2.out).mono ?_
  rintro e w3 ⟨rfl, hb3⟩
  have hg3 := hand_of hg2 hb3
  have hs := hs.below hs.pos hb3
  have H3 := kept_hid H2 hb3
  clear hb3 hg2 H2 HR
  have HS := Lib.hid hs
  clear hs
  go_wp2_with fail
  refine (code_spot B k 3 _ hg3 HS.out).mono ?_
  rintro e w4 ⟨rfl, hb4⟩
  have hg4 := hand_of hg3 hb4
  have HS := Lib.hid (HS.out.below HS.out.pos hb4)
  have H4 := kept_hid H3 hb4
  clear hb4 hg3 H3
  go_wp2_with fail
  refine (where_spot B k 3 _ hg4 HS.out).mono ?_
  rintro e w5 ⟨rfl, hb5⟩
  have H5 := kept_hid H4 hb5
  clear hb5 hg4 H4
  go_wp2_with fail
  go_ret
  exact ⟨rfl, H5.out⟩
/-- AddrGets returns true. -/
theorem gets_any (ad : Option Addr) (len cap : Nat) (n : Int) (xs : List Nat) (w : World) (h : BytesIn w (.slice ad len cap) xs) (h8 : ∀ x ∈ xs, x < 256) (hg : Handle w) :
    Calls Tryd.prog 3 #[.slice ad len cap, .int .i64 n] w fun e w' => e = .returned (.bool true) ∧ Below w.heap.size w w' := by
  rcases Nat.lt_or_ge 100 len with hl | hl
  · exact gets_long ad len cap n w hl hg
  by_cases hs : n < 1 ∨ 16383 < n
  · exact gets_errno ad len cap n 1 w hl hg
      (fun W _ => (get_size ad len cap n W hs).mono fun _ _ ⟨he, hm⟩ => ⟨he, hm ▸ Below.refl _ _⟩) (fun W _ => rget_size ad len cap n W hs)
  obtain ⟨m, rfl⟩ : ∃ m : Nat, n = (m : Int) := Int.eq_ofNat_of_zero_le (by omega)
  have h1 : 1 ≤ m := by omega
  have h2 : m ≤ 16383 := by omega
  clear hs
  rcases Nat.lt_or_ge len 2 with hc | hc
  · exact gets_errno ad len cap m 2 w hl hg
      (fun W _ => (get_cut ad len cap m W h1 h2 hc).mono fun _ _ ⟨he, hm⟩ => ⟨he, hm ▸ Below.refl _ _⟩) (fun W _ => rget_cut ad len cap m W h1 h2 hc)
  obtain ⟨g, o, x, y, rfl, hx, hy, HC⟩ : ∃ (g o x y : Nat), ad = some ⟨g, o, none⟩ ∧ x < 256 ∧ y < 256 ∧ ∀ W, Below w.heap.size w W → W.cell? ⟨g, o, none⟩ = some (.int .u8 (x : Int)) ∧ W.cell? ⟨g, o + 1, none⟩ = some (.int .u8 (y : Int)) := by
    obtain ⟨ad', cap', hv, _, hc'⟩ := h
    injection hv with e1 e2 e3
    subst e1 e2 e3
    rcases hc' with h0 | ⟨g, off, rfl, hcell⟩
    · rw [h0] at hc; simp at hc
    · have z0 := hcell 0 (by omega)
      have z1 := hcell 1 (by omega)
      refine ⟨g, off, xs.getD 0 0, xs.getD 1 0, rfl, byte_lt h8 (by decide) 0, byte_lt h8 (by decide) 1, fun W hb => ⟨?_, ?_⟩⟩
      · exact (hb.cell (p := ⟨g, off, none⟩) (block_lt_of_cell z0)).trans z0
      · exact (hb.cell (p := ⟨g, off + 1, none⟩) (block_lt_of_cell z1)).trans z1
  clear h h8
  by_cases hn : m ≤ 4096
  · cases gx : isGraphic x
    · cases gy : isGraphic y
      · exact gets_spot _ len cap m 0 w hl hg
          (fun W hb => get_short_spot _ len cap m 0 W h1 h2 hn hc (getShort_0 g o len cap x W hc hx (HC W hb).1 gx))
          (fun W hb => rget_s_0f g o len cap m x y W h1 h2 hc hx hy (HC W hb).1 (HC W hb).2 hn gx gy)
      · exact gets_spot _ len cap m 0 w hl hg
          (fun W hb => get_short_spot _ len cap m 0 W h1 h2 hn hc (getShort_0 g o len cap x W hc hx (HC W hb).1 gx))
          (fun W hb => rget_s_0t g o len cap m x y W h1 h2 hc hx hy (HC W hb).1 (HC W hb).2 hn gx gy)
    · cases gy : isGraphic y
      · exact gets_spot _ len cap m 1 w hl hg
          (fun W hb => get_short_spot _ len cap m 1 W h1 h2 hn hc (getShort_1 g o len cap x y W hc hx hy (HC W hb).1 (HC W hb).2 gx gy))
          (fun W hb => rget_s_1 g o len cap m x y W h1 h2 hc hx hy (HC W hb).1 (HC W hb).2 hn gx gy)
      · rcases Nat.lt_or_ge (64 * (x % 64) + y % 64) m with hv | hv
        · exact gets_ok _ len cap m _ w hl hg
            (fun W hb => get_short_ok _ len cap m (x % 64) (y % 64) W h1 h2 hn hc (Nat.mod_lt _ (by decide)) (Nat.mod_lt _ (by decide)) hv (getShort_ok g o len cap x y W hc hx hy (HC W hb).1 (HC W hb).2 gx gy))
            (fun W hb => rget_s_ok g o len cap m x y W h1 h2 hc hx hy (HC W hb).1 (HC W hb).2 hn gx gy hv)
        · exact gets_errno _ len cap m 4 w hl hg
            (fun W hb => get_short_addr _ len cap m (x % 64) (y % 64) W h1 h2 hn hc (Nat.mod_lt _ (by decide)) (Nat.mod_lt _ (by decide)) hv (getShort_ok g o len cap x y W hc hx hy (HC W hb).1 (HC W hb).2 gx gy))
            (fun W hb => rget_s_addr g o len cap m x y W h1 h2 hc hx hy (HC W hb).1 (HC W hb).2 hn gx gy hv)
  · have hn : 4096 < m := by omega
    rcases Nat.lt_or_ge x 64 with hx6 | hx6
    · rcases Nat.lt_or_ge (256 * x + y) m with hv | hv
      · exact gets_ok _ len cap m _ w hl hg
          (fun W hb => get_long_ok _ len cap m x y W h1 h2 hn hc hx6 hy hv (getLong_ok g o len cap x y W hc hx6 hy (HC W hb).1 (HC W hb).2))
          (fun W hb => rget_l_ok g o len cap m x y W h1 h2 hc hx hy (HC W hb).1 (HC W hb).2 hn hx6 hv)
      · exact gets_errno _ len cap m 4 w hl hg
          (fun W hb => get_long_addr _ len cap m x y W h1 h2 hn hc hx6 hy hv (getLong_ok g o len cap x y W hc hx6 hy (HC W hb).1 (HC W hb).2))
          (fun W hb => rget_l_addr g o len cap m x y W h1 h2 hc hx hy (HC W hb).1 (HC W hb).2 hn hx6 hv)
    · exact gets_spot _ len cap m 0 w hl hg
        (fun W hb => get_long_spot _ len cap m 0 W h1 h2 hn hc (getLong_0 g o len cap x W hc hx hx6 (HC W hb).1))
        (fun W hb => rget_l_0 g o len cap m x y W h1 h2 hc hx hy (HC W hb).1 (HC W hb).2 hn hx6)
end Adr
end Go.Proofs.YtdpipjcihnghpaaDoor
