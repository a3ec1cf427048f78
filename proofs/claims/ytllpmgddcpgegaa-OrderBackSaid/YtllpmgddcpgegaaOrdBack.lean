/- OrderBack returns true. Written by tools/gen_ord_back.py. -/
import Derived.Test.YtllpmgddcpgegaaOrdAwake
import Derived.Test.YtllpmgddcpgegaaOrdRsame
import Derived.Test.YtllpmgddcpgegaaOrdWf
import Derived.Deep.RegionHeld3
namespace Go.Proofs.Ytllpmgddcpgegaa
open Go.RowKit Sha Cut Err Six Att Byt Apd
namespace Ord
theorem held16 {w1 w' : World} {B D : Nat} {t u : TypeId} {a0 a1 a2 a3 a4 a5 a6 a7 b0 b1 b2 b3 b4 b5 b6 b7 : Value} (k : w1.heap[B]? = some (.cells #[a0, a1, a2, a3, a4, a5, a6, a7] t (0, 0))) (j : w1.heap[D]? = some (.cells #[b0, b1, b2, b3, b4, b5, b6, b7] u (0, 0))) (h : Below w1.heap.size w1 w') :
    Below w1.heap.size w1 w' ∧ w'.cell? ⟨B, 0, none⟩ = some a0 ∧ w'.cell? ⟨B, 1, none⟩ = some a1 ∧ w'.cell? ⟨B, 2, none⟩ = some a2 ∧ w'.cell? ⟨B, 3, none⟩ = some a3 ∧ w'.cell? ⟨B, 4, none⟩ = some a4 ∧ w'.cell? ⟨B, 5, none⟩ = some a5 ∧ w'.cell? ⟨B, 6, none⟩ = some a6 ∧ w'.cell? ⟨B, 7, none⟩ = some a7 ∧
      w'.cell? ⟨D, 0, none⟩ = some b0 ∧ w'.cell? ⟨D, 1, none⟩ = some b1 ∧ w'.cell? ⟨D, 2, none⟩ = some b2 ∧ w'.cell? ⟨D, 3, none⟩ = some b3 ∧ w'.cell? ⟨D, 4, none⟩ = some b4 ∧ w'.cell? ⟨D, 5, none⟩ = some b5 ∧ w'.cell? ⟨D, 6, none⟩ = some b6 ∧ w'.cell? ⟨D, 7, none⟩ = some b7 := by
  obtain ⟨x0, x1, x2, x3, x4, x5, x6, x7⟩ := cells8 (blk k h)
  obtain ⟨y0, y1, y2, y3, y4, y5, y6, y7⟩ := cells8 (blk j h)
  exact ⟨h, x0, x1, x2, x3, x4, x5, x6, x7, y0, y1, y2, y3, y4, y5, y6, y7⟩
theorem one_of_two (w : World) (x y : Obj) : ((w.alloc x).alloc y).heap[w.heap.size]? = some x ∧ ((w.alloc x).alloc y).heap[w.heap.size + 1]? = some y := by
  have h := heap_alloc_new (w.alloc x) y
  rw [World.size_alloc] at h
  exact ⟨blk (heap_alloc_new w x) (al_any _ y), h⟩
theorem same_self (o : O) : same o o = true := (same_iff o o).2 rfl
theorem same_bytes {o q : O} {z : Nat} (ho : wrong o z = 0) (hq : wrong q z = 0) (hz : z ≤ 16383) : decide (obytes o z = obytes q z) = same o q := by
  rw [Bool.eq_iff_iff, decide_eq_true_eq, same_iff]
  exact ⟨obytes_inj ho hq hz, fun h => by rw [h]⟩
set_option maxRecDepth 100000 in
set_option maxHeartbeats 2000000 in
theorem back_long (kx ky : Int) (ax : Option Addr) (lx cx : Nat) (ay : Option Addr) (ly cy : Nat) (px nx : Bool) (sx : Int) (mx : Bool) (dx : Int) (py ny : Bool) (sy : Int) (my : Bool) (dy : Int) (hx hy nn : Int) (am : Option Addr) (lm cm : Nat) (w : World) (h : 300 < lx ∨ 300 < ly ∨ 100 < lm) :
    Calls Try.prog 3 #[.agg #[.int .i64 kx, .slice ax lx cx, .bool px, .bool nx, .int .i64 sx, .bool mx, .int .i64 dx, .int .u8 hx], .agg #[.int .i64 ky, .slice ay ly cy, .bool py, .bool ny, .int .i64 sy, .bool my, .int .i64 dy, .int .u8 hy], .int .u16 nn, .slice am lm cm] w fun e w' => e = .returned (.bool true) ∧ Below w.heap.size w w' := by
  rcases (show 300 < lx ∨ (lx ≤ 300 ∧ 300 < ly) ∨ (lx ≤ 300 ∧ ly ≤ 300 ∧ 100 < lm) by omega) with h | ⟨h, h'⟩ | ⟨h, h', h''⟩
  · have HG := Lib.hid (one_of_two w (.cells #[.int .i64 kx, .slice ax lx cx, .bool px, .bool nx, .int .i64 sx, .bool mx, .int .i64 dx, .int .u8 hx] 26) (.cells #[.int .i64 ky, .slice ay ly cy, .bool py, .bool ny, .int .i64 sy, .bool my, .int .i64 dy, .int .u8 hy] 26))
    have HA : Hid (Below w.heap.size w ((w.alloc (.cells #[.int .i64 kx, .slice ax lx cx, .bool px, .bool nx, .int .i64 sx, .bool mx, .int .i64 dx, .int .u8 hx] 26)).alloc (.cells #[.int .i64 ky, .slice ay ly cy, .bool py, .bool ny, .int .i64 sy, .bool my, .int .i64 dy, .int .u8 hy] 26))) := al2 ..
    have g1 : decide ((300 : Int) < (lx : Int)) = true := by simp; omega
    go_enter Try.func3, Try.ntmps3
    go_wp2_with fail
    generalize (w.alloc (.cells #[.int .i64 kx, .slice ax lx cx, .bool px, .bool nx, .int .i64 sx, .bool mx, .int .i64 dx, .int .u8 hx] 26)).alloc (.cells #[.int .i64 ky, .slice ay ly cy, .bool py, .bool ny, .int .i64 sy, .bool my, .int .i64 dy, .int .u8 hy] 26) = w0 at HG HA ⊢
    with_reducible refine (awake_any _).mono ?_
    rintro e w1 ⟨rfl, hb⟩
    have K1 := kept_hid HA hb
    have G1 := Lib.hid (blk HG.out.1 hb)
    have P1 := Lib.hid (blk HG.out.2 hb)
    clear HA HG hb
    obtain ⟨c0, c1, c2, c3, c4, c5, c6, c7⟩ := cells8 G1.out
    obtain ⟨b0, b1, b2, b3, b4, b5, b6, b7⟩ := cells8 P1.out
    go_wp2_with fail
    with_reducible refine (awake_any _).mono ?_
    rintro e w2 ⟨rfl, hb⟩
    have K2 := kept_hid K1 hb
    clear hb
    clear c0 c1 c2 c3 c4 c5 c6 c7 b0 b1 b2 b3 b4 b5 b6 b7
    go_wp2_with fail
    go_ret
    exact ⟨rfl, K2.out⟩
  · have HG := Lib.hid (one_of_two w (.cells #[.int .i64 kx, .slice ax lx cx, .bool px, .bool nx, .int .i64 sx, .bool mx, .int .i64 dx, .int .u8 hx] 26) (.cells #[.int .i64 ky, .slice ay ly cy, .bool py, .bool ny, .int .i64 sy, .bool my, .int .i64 dy, .int .u8 hy] 26))
    have HA : Hid (Below w.heap.size w ((w.alloc (.cells #[.int .i64 kx, .slice ax lx cx, .bool px, .bool nx, .int .i64 sx, .bool mx, .int .i64 dx, .int .u8 hx] 26)).alloc (.cells #[.int .i64 ky, .slice ay ly cy, .bool py, .bool ny, .int .i64 sy, .bool my, .int .i64 dy, .int .u8 hy] 26))) := al2 ..
    have g1 : decide ((300 : Int) < (lx : Int)) = false := by simp; omega
    have g2 : decide ((300 : Int) < (ly : Int)) = true := by simp; omega
    go_enter Try.func3, Try.ntmps3
    go_wp2_with fail
    generalize (w.alloc (.cells #[.int .i64 kx, .slice ax lx cx, .bool px, .bool nx, .int .i64 sx, .bool mx, .int .i64 dx, .int .u8 hx] 26)).alloc (.cells #[.int .i64 ky, .slice ay ly cy, .bool py, .bool ny, .int .i64 sy, .bool my, .int .i64 dy, .int .u8 hy] 26) = w0 at HG HA ⊢
    with_reducible refine (awake_any _).mono ?_
    rintro e w1 ⟨rfl, hb⟩
    have K1 := kept_hid HA hb
    have G1 := Lib.hid (blk HG.out.1 hb)
    have P1 := Lib.hid (blk HG.out.2 hb)
    clear HA HG hb
    obtain ⟨c0, c1, c2, c3, c4, c5, c6, c7⟩ := cells8 G1.out
    obtain ⟨b0, b1, b2, b3, b4, b5, b6, b7⟩ := cells8 P1.out
    go_wp2_with fail
    with_reducible refine (awake_any _).mono ?_
    rintro e w2 ⟨rfl, hb⟩
    have K2 := kept_hid K1 hb
    clear hb
    clear c0 c1 c2 c3 c4 c5 c6 c7 b0 b1 b2 b3 b4 b5 b6 b7
    go_wp2_with fail
    go_ret
    exact ⟨rfl, K2.out⟩
  · have HG := Lib.hid (one_of_two w (.cells #[.int .i64 kx, .slice ax lx cx, .bool px, .bool nx, .int .i64 sx, .bool mx, .int .i64 dx, .int .u8 hx] 26) (.cells #[.int .i64 ky, .slice ay ly cy, .bool py, .bool ny, .int .i64 sy, .bool my, .int .i64 dy, .int .u8 hy] 26))
    have HA : Hid (Below w.heap.size w ((w.alloc (.cells #[.int .i64 kx, .slice ax lx cx, .bool px, .bool nx, .int .i64 sx, .bool mx, .int .i64 dx, .int .u8 hx] 26)).alloc (.cells #[.int .i64 ky, .slice ay ly cy, .bool py, .bool ny, .int .i64 sy, .bool my, .int .i64 dy, .int .u8 hy] 26))) := al2 ..
    have g1 : decide ((300 : Int) < (lx : Int)) = false := by simp; omega
    have g2 : decide ((300 : Int) < (ly : Int)) = false := by simp; omega
    have g3 : decide ((100 : Int) < (lm : Int)) = true := by simp; omega
    go_enter Try.func3, Try.ntmps3
    go_wp2_with fail
    generalize (w.alloc (.cells #[.int .i64 kx, .slice ax lx cx, .bool px, .bool nx, .int .i64 sx, .bool mx, .int .i64 dx, .int .u8 hx] 26)).alloc (.cells #[.int .i64 ky, .slice ay ly cy, .bool py, .bool ny, .int .i64 sy, .bool my, .int .i64 dy, .int .u8 hy] 26) = w0 at HG HA ⊢
    with_reducible refine (awake_any _).mono ?_
    rintro e w1 ⟨rfl, hb⟩
    have K1 := kept_hid HA hb
    have G1 := Lib.hid (blk HG.out.1 hb)
    have P1 := Lib.hid (blk HG.out.2 hb)
    clear HA HG hb
    obtain ⟨c0, c1, c2, c3, c4, c5, c6, c7⟩ := cells8 G1.out
    obtain ⟨b0, b1, b2, b3, b4, b5, b6, b7⟩ := cells8 P1.out
    go_wp2_with fail
    with_reducible refine (awake_any _).mono ?_
    rintro e w2 ⟨rfl, hb⟩
    have K2 := kept_hid K1 hb
    clear hb
    clear c0 c1 c2 c3 c4 c5 c6 c7 b0 b1 b2 b3 b4 b5 b6 b7
    go_wp2_with fail
    go_ret
    exact ⟨rfl, K2.out⟩
set_option maxRecDepth 100000 in
set_option maxHeartbeats 4000000 in
theorem back_bad00 (kx ky : Int) (ax : Option Addr) (lx cx : Nat) (ay : Option Addr) (ly cy : Nat) (px nx : Bool) (sx : Int) (mx : Bool) (dx : Int) (py ny : Bool) (sy : Int) (my : Bool) (dy : Int) (tx ty : List Nat) (hx hy nn z : Nat) (am : Option Addr) (lm cm : Nat) (w : World) (hlx : lx ≤ 300) (hly : ly ≤ 300) (hlm : lm ≤ 100) (hBx : BytesIn w (.slice ax lx cx) tx) (h8x : ∀ b ∈ tx, b < 256) (hBy : BytesIn w (.slice ay ly cy) ty) (h8y : ∀ b ∈ ty, b < 256) (hcx : hx < 256) (hcy : hy < 256) (hnn : nn < 65536) (hz : 1 + nn % 16383 = z) (hx0 : wrong ⟨kx, tx, px, nx, sx, mx, dx, hx⟩ z ≠ 0) (hy0 : wrong ⟨ky, ty, py, ny, sy, my, dy, hy⟩ z ≠ 0) :
    Calls Try.prog 3 #[.agg #[.int .i64 kx, .slice ax lx cx, .bool px, .bool nx, .int .i64 sx, .bool mx, .int .i64 dx, .int .u8 (hx : Int)], .agg #[.int .i64 ky, .slice ay ly cy, .bool py, .bool ny, .int .i64 sy, .bool my, .int .i64 dy, .int .u8 (hy : Int)], .int .u16 (nn : Int), .slice am lm cm] w fun e w' => e = .returned (.bool true) ∧ Below w.heap.size w w' := by
  have htx : tx.length = lx := by obtain ⟨_, _, hv, _⟩ := hBx; injection hv with _ e2 _; exact e2.symm
  have hty : ty.length = ly := by obtain ⟨_, _, hv, _⟩ := hBy; injection hv with _ e2 _; exact e2.symm
  have HZ := Lib.hid fun W => size_any nn W hnn
  rw [hz] at HZ
  have hz1 : 1 ≤ z := by omega
  have hz2 : z ≤ 16383 := by omega
  have HP := Lib.hid fun W hb => put_wrong ⟨kx, tx, px, nx, sx, mx, dx, hx⟩ ax lx cx z W (bytes_below hBx hb) h8x (by show tx.length < 1000000; omega) hcx hx0 hz1 hz2
  simp only at HP
  generalize wrong ⟨kx, tx, px, nx, sx, mx, dx, hx⟩ z = ux at HP
  have HP1 := HP
  clear HP
  have HP := Lib.hid fun W hb => put_wrong ⟨ky, ty, py, ny, sy, my, dy, hy⟩ ay ly cy z W (bytes_below hBy hb) h8y (by show ty.length < 1000000; omega) hcy hy0 hz1 hz2
  simp only at HP
  generalize wrong ⟨ky, ty, py, ny, sy, my, dy, hy⟩ z = uy at HP
  have HP2 := HP
  clear HP hBx h8x hBy h8y hx0 hy0 htx hty hz
  have HG := Lib.hid (one_of_two w (.cells #[.int .i64 kx, .slice ax lx cx, .bool px, .bool nx, .int .i64 sx, .bool mx, .int .i64 dx, .int .u8 (hx : Int)] 26) (.cells #[.int .i64 ky, .slice ay ly cy, .bool py, .bool ny, .int .i64 sy, .bool my, .int .i64 dy, .int .u8 (hy : Int)] 26))
  have HA : Hid (Below w.heap.size w ((w.alloc (.cells #[.int .i64 kx, .slice ax lx cx, .bool px, .bool nx, .int .i64 sx, .bool mx, .int .i64 dx, .int .u8 (hx : Int)] 26)).alloc (.cells #[.int .i64 ky, .slice ay ly cy, .bool py, .bool ny, .int .i64 sy, .bool my, .int .i64 dy, .int .u8 (hy : Int)] 26))) := al2 ..
  have g1 : decide ((300 : Int) < (lx : Int)) = false := by simp; omega
  have g2 : decide ((300 : Int) < (ly : Int)) = false := by simp; omega
  have g3 : decide ((100 : Int) < (lm : Int)) = false := by simp; omega
  go_enter Try.func3, Try.ntmps3
  go_wp2_with fail
  generalize (w.alloc (.cells #[.int .i64 kx, .slice ax lx cx, .bool px, .bool nx, .int .i64 sx, .bool mx, .int .i64 dx, .int .u8 (hx : Int)] 26)).alloc (.cells #[.int .i64 ky, .slice ay ly cy, .bool py, .bool ny, .int .i64 sy, .bool my, .int .i64 dy, .int .u8 (hy : Int)] 26) = w0 at HG HA ⊢
  with_reducible refine (awake_any _).mono ?_
  rintro e w1 ⟨rfl, hb⟩
  have K1 := kept_hid HA hb
  have G1 := Lib.hid (blk HG.out.1 hb)
  have P1 := Lib.hid (blk HG.out.2 hb)
  clear HA HG hb
  obtain ⟨c0, c1, c2, c3, c4, c5, c6, c7⟩ := cells8 G1.out
  obtain ⟨b0, b1, b2, b3, b4, b5, b6, b7⟩ := cells8 P1.out
  go_wp2_with fail
  clear c0 c1 c2 c3 c4 c5 c6 c7 b0 b1 b2 b3 b4 b5 b6 b7
  have HP := HP1
  clear HP1
  go_region_held3 (fun w' => Below w1.heap.size w1 w' ∧ w'.cell? ⟨w.heap.size, 0, none⟩ = some (.int .i64 kx) ∧ w'.cell? ⟨w.heap.size, 1, none⟩ = some (.slice ax lx cx) ∧ w'.cell? ⟨w.heap.size, 2, none⟩ = some (.bool px) ∧ w'.cell? ⟨w.heap.size, 3, none⟩ = some (.bool nx) ∧ w'.cell? ⟨w.heap.size, 4, none⟩ = some (.int .i64 sx) ∧ w'.cell? ⟨w.heap.size, 5, none⟩ = some (.bool mx) ∧ w'.cell? ⟨w.heap.size, 6, none⟩ = some (.int .i64 dx) ∧ w'.cell? ⟨w.heap.size, 7, none⟩ = some (.int .u8 (hx : Int)))
    (first | exact held8 G1.out (Below.refl _ _).drew | exact held8 G1.out (Below.refl _ _) | exact held8 G1.out (kept_trans (And.left (by assumption)) hb))
    (first
      | (go_at_call 8; with_reducible refine (HZ.out _).mono ?_; rintro e wa ⟨rfl, rfl⟩)
      | (go_at_call 7; with_reducible refine (HP.out _ (kept_trans K1.out (And.left (by assumption)))).mono ?_; rintro e wb ⟨rfl, hb⟩))
  have hS := And.left (by assumption : Below w1.heap.size w1 _ ∧ _)
  have K2 := kept_hid K1 hS
  have P2 := Lib.hid (blk P1.out hS)
  clear hS hb HP G1
  go_wp2_with fail
  have HP := HP2
  clear HP2
  go_region_held3 (fun w' => Below wb.heap.size wb w' ∧ w'.cell? ⟨w.heap.size + 1, 0, none⟩ = some (.int .i64 ky) ∧ w'.cell? ⟨w.heap.size + 1, 1, none⟩ = some (.slice ay ly cy) ∧ w'.cell? ⟨w.heap.size + 1, 2, none⟩ = some (.bool py) ∧ w'.cell? ⟨w.heap.size + 1, 3, none⟩ = some (.bool ny) ∧ w'.cell? ⟨w.heap.size + 1, 4, none⟩ = some (.int .i64 sy) ∧ w'.cell? ⟨w.heap.size + 1, 5, none⟩ = some (.bool my) ∧ w'.cell? ⟨w.heap.size + 1, 6, none⟩ = some (.int .i64 dy) ∧ w'.cell? ⟨w.heap.size + 1, 7, none⟩ = some (.int .u8 (hy : Int)))
    (first | exact held8 P2.out (Below.refl _ _).drew | exact held8 P2.out (Below.refl _ _) | exact held8 P2.out (kept_trans (And.left (by assumption)) hb))
    (first
      | (go_at_call 8; with_reducible refine (HZ.out _).mono ?_; rintro e wa ⟨rfl, rfl⟩)
      | (go_at_call 7; with_reducible refine (HP.out _ (kept_trans K2.out (And.left (by assumption)))).mono ?_; rintro e wc ⟨rfl, hb⟩))
  have hS := And.left (by assumption : Below wb.heap.size wb _ ∧ _)
  have K3 := kept_hid K2 hS
  clear hS hb HP
  go_wp2_with fail
  go_ret
  exact ⟨rfl, K3.out⟩
set_option maxRecDepth 100000 in
set_option maxHeartbeats 4000000 in
theorem back_bad01 (kx ky : Int) (ax : Option Addr) (lx cx : Nat) (ay : Option Addr) (ly cy : Nat) (px nx : Bool) (sx : Int) (mx : Bool) (dx : Int) (py ny : Bool) (sy : Int) (my : Bool) (dy : Int) (tx ty : List Nat) (hx hy nn z : Nat) (am : Option Addr) (lm cm : Nat) (w : World) (hlx : lx ≤ 300) (hly : ly ≤ 300) (hlm : lm ≤ 100) (hBx : BytesIn w (.slice ax lx cx) tx) (h8x : ∀ b ∈ tx, b < 256) (hBy : BytesIn w (.slice ay ly cy) ty) (h8y : ∀ b ∈ ty, b < 256) (hcx : hx < 256) (hcy : hy < 256) (hnn : nn < 65536) (hz : 1 + nn % 16383 = z) (hny : ay = none → ly = 0 ∧ cy = 0) (hx0 : wrong ⟨kx, tx, px, nx, sx, mx, dx, hx⟩ z ≠ 0) (hy0 : wrong ⟨ky, ty, py, ny, sy, my, dy, hy⟩ z = 0) :
    Calls Try.prog 3 #[.agg #[.int .i64 kx, .slice ax lx cx, .bool px, .bool nx, .int .i64 sx, .bool mx, .int .i64 dx, .int .u8 (hx : Int)], .agg #[.int .i64 ky, .slice ay ly cy, .bool py, .bool ny, .int .i64 sy, .bool my, .int .i64 dy, .int .u8 (hy : Int)], .int .u16 (nn : Int), .slice am lm cm] w fun e w' => e = .returned (.bool true) ∧ Below w.heap.size w w' := by
  have htx : tx.length = lx := by obtain ⟨_, _, hv, _⟩ := hBx; injection hv with _ e2 _; exact e2.symm
  have hty : ty.length = ly := by obtain ⟨_, _, hv, _⟩ := hBy; injection hv with _ e2 _; exact e2.symm
  have HZ := Lib.hid fun W => size_any nn W hnn
  rw [hz] at HZ
  have hz1 : 1 ≤ z := by omega
  have hz2 : z ≤ 16383 := by omega
  have HP := Lib.hid fun W hb => put_wrong ⟨kx, tx, px, nx, sx, mx, dx, hx⟩ ax lx cx z W (bytes_below hBx hb) h8x (by show tx.length < 1000000; omega) hcx hx0 hz1 hz2
  simp only at HP
  generalize wrong ⟨kx, tx, px, nx, sx, mx, dx, hx⟩ z = ux at HP
  have HP1 := HP
  clear HP
  have HP := Lib.hid fun W hb => put_right ⟨ky, ty, py, ny, sy, my, dy, hy⟩ ay ly cy z W (bytes_below hBy hb) h8y (by show ty.length < 1000000; omega) hny hcy hy0 hz1 hz2
  simp only at HP
  have HP2 := HP
  clear HP hBx h8x hBy h8y hx0 hy0 htx hty hz hny
  have HG := Lib.hid (one_of_two w (.cells #[.int .i64 kx, .slice ax lx cx, .bool px, .bool nx, .int .i64 sx, .bool mx, .int .i64 dx, .int .u8 (hx : Int)] 26) (.cells #[.int .i64 ky, .slice ay ly cy, .bool py, .bool ny, .int .i64 sy, .bool my, .int .i64 dy, .int .u8 (hy : Int)] 26))
  have HA : Hid (Below w.heap.size w ((w.alloc (.cells #[.int .i64 kx, .slice ax lx cx, .bool px, .bool nx, .int .i64 sx, .bool mx, .int .i64 dx, .int .u8 (hx : Int)] 26)).alloc (.cells #[.int .i64 ky, .slice ay ly cy, .bool py, .bool ny, .int .i64 sy, .bool my, .int .i64 dy, .int .u8 (hy : Int)] 26))) := al2 ..
  have g1 : decide ((300 : Int) < (lx : Int)) = false := by simp; omega
  have g2 : decide ((300 : Int) < (ly : Int)) = false := by simp; omega
  have g3 : decide ((100 : Int) < (lm : Int)) = false := by simp; omega
  go_enter Try.func3, Try.ntmps3
  go_wp2_with fail
  generalize (w.alloc (.cells #[.int .i64 kx, .slice ax lx cx, .bool px, .bool nx, .int .i64 sx, .bool mx, .int .i64 dx, .int .u8 (hx : Int)] 26)).alloc (.cells #[.int .i64 ky, .slice ay ly cy, .bool py, .bool ny, .int .i64 sy, .bool my, .int .i64 dy, .int .u8 (hy : Int)] 26) = w0 at HG HA ⊢
  with_reducible refine (awake_any _).mono ?_
  rintro e w1 ⟨rfl, hb⟩
  have K1 := kept_hid HA hb
  have G1 := Lib.hid (blk HG.out.1 hb)
  have P1 := Lib.hid (blk HG.out.2 hb)
  clear HA HG hb
  obtain ⟨c0, c1, c2, c3, c4, c5, c6, c7⟩ := cells8 G1.out
  obtain ⟨b0, b1, b2, b3, b4, b5, b6, b7⟩ := cells8 P1.out
  go_wp2_with fail
  clear c0 c1 c2 c3 c4 c5 c6 c7 b0 b1 b2 b3 b4 b5 b6 b7
  have HP := HP1
  clear HP1
  go_region_held3 (fun w' => Below w1.heap.size w1 w' ∧ w'.cell? ⟨w.heap.size, 0, none⟩ = some (.int .i64 kx) ∧ w'.cell? ⟨w.heap.size, 1, none⟩ = some (.slice ax lx cx) ∧ w'.cell? ⟨w.heap.size, 2, none⟩ = some (.bool px) ∧ w'.cell? ⟨w.heap.size, 3, none⟩ = some (.bool nx) ∧ w'.cell? ⟨w.heap.size, 4, none⟩ = some (.int .i64 sx) ∧ w'.cell? ⟨w.heap.size, 5, none⟩ = some (.bool mx) ∧ w'.cell? ⟨w.heap.size, 6, none⟩ = some (.int .i64 dx) ∧ w'.cell? ⟨w.heap.size, 7, none⟩ = some (.int .u8 (hx : Int)))
    (first | exact held8 G1.out (Below.refl _ _).drew | exact held8 G1.out (Below.refl _ _) | exact held8 G1.out (kept_trans (And.left (by assumption)) hb))
    (first
      | (go_at_call 8; with_reducible refine (HZ.out _).mono ?_; rintro e wa ⟨rfl, rfl⟩)
      | (go_at_call 7; with_reducible refine (HP.out _ (kept_trans K1.out (And.left (by assumption)))).mono ?_; rintro e wb ⟨rfl, hb⟩))
  have hS := And.left (by assumption : Below w1.heap.size w1 _ ∧ _)
  have K2 := kept_hid K1 hS
  have P2 := Lib.hid (blk P1.out hS)
  clear hS hb HP G1
  go_wp2_with fail
  have HP := HP2
  clear HP2
  go_region_held3 (fun w' => Below wb.heap.size wb w' ∧ w'.cell? ⟨w.heap.size + 1, 0, none⟩ = some (.int .i64 ky) ∧ w'.cell? ⟨w.heap.size + 1, 1, none⟩ = some (.slice ay ly cy) ∧ w'.cell? ⟨w.heap.size + 1, 2, none⟩ = some (.bool py) ∧ w'.cell? ⟨w.heap.size + 1, 3, none⟩ = some (.bool ny) ∧ w'.cell? ⟨w.heap.size + 1, 4, none⟩ = some (.int .i64 sy) ∧ w'.cell? ⟨w.heap.size + 1, 5, none⟩ = some (.bool my) ∧ w'.cell? ⟨w.heap.size + 1, 6, none⟩ = some (.int .i64 dy) ∧ w'.cell? ⟨w.heap.size + 1, 7, none⟩ = some (.int .u8 (hy : Int)))
    (first | exact held8 P2.out (Below.refl _ _).drew | exact held8 P2.out (Below.refl _ _) | exact held8 P2.out (kept_trans (And.left (by assumption)) hb))
    (first
      | (go_at_call 8; with_reducible refine (HZ.out _).mono ?_; rintro e wa ⟨rfl, rfl⟩)
      | (go_at_call 7; with_reducible refine (HP.out _ (kept_trans K2.out (And.left (by assumption)))).mono ?_; rintro e wc ⟨v, rfl, ho, hb⟩))
  have hS := And.left (by assumption : Below wb.heap.size wb _ ∧ _)
  have K3 := kept_hid K2 hS
  obtain ⟨va2, vc2, rfl⟩ := own_form ho
  clear ho
  clear hS hb HP
  go_wp2_with fail
  go_ret
  exact ⟨rfl, K3.out⟩
set_option maxRecDepth 100000 in
set_option maxHeartbeats 4000000 in
theorem back_bad10 (kx ky : Int) (ax : Option Addr) (lx cx : Nat) (ay : Option Addr) (ly cy : Nat) (px nx : Bool) (sx : Int) (mx : Bool) (dx : Int) (py ny : Bool) (sy : Int) (my : Bool) (dy : Int) (tx ty : List Nat) (hx hy nn z : Nat) (am : Option Addr) (lm cm : Nat) (w : World) (hlx : lx ≤ 300) (hly : ly ≤ 300) (hlm : lm ≤ 100) (hBx : BytesIn w (.slice ax lx cx) tx) (h8x : ∀ b ∈ tx, b < 256) (hBy : BytesIn w (.slice ay ly cy) ty) (h8y : ∀ b ∈ ty, b < 256) (hcx : hx < 256) (hcy : hy < 256) (hnn : nn < 65536) (hz : 1 + nn % 16383 = z) (hnx : ax = none → lx = 0 ∧ cx = 0) (hx0 : wrong ⟨kx, tx, px, nx, sx, mx, dx, hx⟩ z = 0) (hy0 : wrong ⟨ky, ty, py, ny, sy, my, dy, hy⟩ z ≠ 0) :
    Calls Try.prog 3 #[.agg #[.int .i64 kx, .slice ax lx cx, .bool px, .bool nx, .int .i64 sx, .bool mx, .int .i64 dx, .int .u8 (hx : Int)], .agg #[.int .i64 ky, .slice ay ly cy, .bool py, .bool ny, .int .i64 sy, .bool my, .int .i64 dy, .int .u8 (hy : Int)], .int .u16 (nn : Int), .slice am lm cm] w fun e w' => e = .returned (.bool true) ∧ Below w.heap.size w w' := by
  have htx : tx.length = lx := by obtain ⟨_, _, hv, _⟩ := hBx; injection hv with _ e2 _; exact e2.symm
  have hty : ty.length = ly := by obtain ⟨_, _, hv, _⟩ := hBy; injection hv with _ e2 _; exact e2.symm
  have HZ := Lib.hid fun W => size_any nn W hnn
  rw [hz] at HZ
  have hz1 : 1 ≤ z := by omega
  have hz2 : z ≤ 16383 := by omega
  have HP := Lib.hid fun W hb => put_right ⟨kx, tx, px, nx, sx, mx, dx, hx⟩ ax lx cx z W (bytes_below hBx hb) h8x (by show tx.length < 1000000; omega) hnx hcx hx0 hz1 hz2
  simp only at HP
  have HP1 := HP
  clear HP
  have HP := Lib.hid fun W hb => put_wrong ⟨ky, ty, py, ny, sy, my, dy, hy⟩ ay ly cy z W (bytes_below hBy hb) h8y (by show ty.length < 1000000; omega) hcy hy0 hz1 hz2
  simp only at HP
  generalize wrong ⟨ky, ty, py, ny, sy, my, dy, hy⟩ z = uy at HP
  have HP2 := HP
  clear HP hBx h8x hBy h8y hx0 hy0 htx hty hz hnx
  have HG := Lib.hid (one_of_two w (.cells #[.int .i64 kx, .slice ax lx cx, .bool px, .bool nx, .int .i64 sx, .bool mx, .int .i64 dx, .int .u8 (hx : Int)] 26) (.cells #[.int .i64 ky, .slice ay ly cy, .bool py, .bool ny, .int .i64 sy, .bool my, .int .i64 dy, .int .u8 (hy : Int)] 26))
  have HA : Hid (Below w.heap.size w ((w.alloc (.cells #[.int .i64 kx, .slice ax lx cx, .bool px, .bool nx, .int .i64 sx, .bool mx, .int .i64 dx, .int .u8 (hx : Int)] 26)).alloc (.cells #[.int .i64 ky, .slice ay ly cy, .bool py, .bool ny, .int .i64 sy, .bool my, .int .i64 dy, .int .u8 (hy : Int)] 26))) := al2 ..
  have g1 : decide ((300 : Int) < (lx : Int)) = false := by simp; omega
  have g2 : decide ((300 : Int) < (ly : Int)) = false := by simp; omega
  have g3 : decide ((100 : Int) < (lm : Int)) = false := by simp; omega
  go_enter Try.func3, Try.ntmps3
  go_wp2_with fail
  generalize (w.alloc (.cells #[.int .i64 kx, .slice ax lx cx, .bool px, .bool nx, .int .i64 sx, .bool mx, .int .i64 dx, .int .u8 (hx : Int)] 26)).alloc (.cells #[.int .i64 ky, .slice ay ly cy, .bool py, .bool ny, .int .i64 sy, .bool my, .int .i64 dy, .int .u8 (hy : Int)] 26) = w0 at HG HA ⊢
  with_reducible refine (awake_any _).mono ?_
  rintro e w1 ⟨rfl, hb⟩
  have K1 := kept_hid HA hb
  have G1 := Lib.hid (blk HG.out.1 hb)
  have P1 := Lib.hid (blk HG.out.2 hb)
  clear HA HG hb
  obtain ⟨c0, c1, c2, c3, c4, c5, c6, c7⟩ := cells8 G1.out
  obtain ⟨b0, b1, b2, b3, b4, b5, b6, b7⟩ := cells8 P1.out
  go_wp2_with fail
  clear c0 c1 c2 c3 c4 c5 c6 c7 b0 b1 b2 b3 b4 b5 b6 b7
  have HP := HP1
  clear HP1
  go_region_held3 (fun w' => Below w1.heap.size w1 w' ∧ w'.cell? ⟨w.heap.size, 0, none⟩ = some (.int .i64 kx) ∧ w'.cell? ⟨w.heap.size, 1, none⟩ = some (.slice ax lx cx) ∧ w'.cell? ⟨w.heap.size, 2, none⟩ = some (.bool px) ∧ w'.cell? ⟨w.heap.size, 3, none⟩ = some (.bool nx) ∧ w'.cell? ⟨w.heap.size, 4, none⟩ = some (.int .i64 sx) ∧ w'.cell? ⟨w.heap.size, 5, none⟩ = some (.bool mx) ∧ w'.cell? ⟨w.heap.size, 6, none⟩ = some (.int .i64 dx) ∧ w'.cell? ⟨w.heap.size, 7, none⟩ = some (.int .u8 (hx : Int)))
    (first | exact held8 G1.out (Below.refl _ _).drew | exact held8 G1.out (Below.refl _ _) | exact held8 G1.out (kept_trans (And.left (by assumption)) hb))
    (first
      | (go_at_call 8; with_reducible refine (HZ.out _).mono ?_; rintro e wa ⟨rfl, rfl⟩)
      | (go_at_call 7; with_reducible refine (HP.out _ (kept_trans K1.out (And.left (by assumption)))).mono ?_; rintro e wb ⟨v, rfl, ho, hb⟩))
  have hS := And.left (by assumption : Below w1.heap.size w1 _ ∧ _)
  have K2 := kept_hid K1 hS
  have P2 := Lib.hid (blk P1.out hS)
  obtain ⟨va, vc, rfl⟩ := own_form ho
  clear ho
  clear hS hb HP G1
  go_wp2_with fail
  have HP := HP2
  clear HP2
  go_region_held3 (fun w' => Below wb.heap.size wb w' ∧ w'.cell? ⟨w.heap.size + 1, 0, none⟩ = some (.int .i64 ky) ∧ w'.cell? ⟨w.heap.size + 1, 1, none⟩ = some (.slice ay ly cy) ∧ w'.cell? ⟨w.heap.size + 1, 2, none⟩ = some (.bool py) ∧ w'.cell? ⟨w.heap.size + 1, 3, none⟩ = some (.bool ny) ∧ w'.cell? ⟨w.heap.size + 1, 4, none⟩ = some (.int .i64 sy) ∧ w'.cell? ⟨w.heap.size + 1, 5, none⟩ = some (.bool my) ∧ w'.cell? ⟨w.heap.size + 1, 6, none⟩ = some (.int .i64 dy) ∧ w'.cell? ⟨w.heap.size + 1, 7, none⟩ = some (.int .u8 (hy : Int)))
    (first | exact held8 P2.out (Below.refl _ _).drew | exact held8 P2.out (Below.refl _ _) | exact held8 P2.out (kept_trans (And.left (by assumption)) hb))
    (first
      | (go_at_call 8; with_reducible refine (HZ.out _).mono ?_; rintro e wa ⟨rfl, rfl⟩)
      | (go_at_call 7; with_reducible refine (HP.out _ (kept_trans K2.out (And.left (by assumption)))).mono ?_; rintro e wc ⟨rfl, hb⟩))
  have hS := And.left (by assumption : Below wb.heap.size wb _ ∧ _)
  have K3 := kept_hid K2 hS
  clear hS hb HP
  go_wp2_with fail
  go_ret
  exact ⟨rfl, K3.out⟩
set_option maxRecDepth 100000 in
set_option maxHeartbeats 8000000 in
theorem back_good (kx ky : Int) (ax : Option Addr) (lx cx : Nat) (ay : Option Addr) (ly cy : Nat) (px nx : Bool) (sx : Int) (mx : Bool) (dx : Int) (py ny : Bool) (sy : Int) (my : Bool) (dy : Int) (tx ty : List Nat) (hx hy nn z : Nat) (am : Option Addr) (lm cm : Nat) (w : World) (hlx : lx ≤ 300) (hly : ly ≤ 300) (hlm : lm ≤ 100) (hBx : BytesIn w (.slice ax lx cx) tx) (h8x : ∀ b ∈ tx, b < 256) (hBy : BytesIn w (.slice ay ly cy) ty) (h8y : ∀ b ∈ ty, b < 256) (hcx : hx < 256) (hcy : hy < 256) (hnn : nn < 65536) (hz : 1 + nn % 16383 = z) (hnx : ax = none → lx = 0 ∧ cx = 0) (hny : ay = none → ly = 0 ∧ cy = 0) (more : List Nat) (hBm : BytesIn w (.slice am lm cm) more) (h8m : ∀ b ∈ more, b < 256) (hnm : am = none → lm = 0 ∧ cm = 0) (hx0 : wrong ⟨kx, tx, px, nx, sx, mx, dx, hx⟩ z = 0) (hy0 : wrong ⟨ky, ty, py, ny, sy, my, dy, hy⟩ z = 0) :
    Calls Try.prog 3 #[.agg #[.int .i64 kx, .slice ax lx cx, .bool px, .bool nx, .int .i64 sx, .bool mx, .int .i64 dx, .int .u8 (hx : Int)], .agg #[.int .i64 ky, .slice ay ly cy, .bool py, .bool ny, .int .i64 sy, .bool my, .int .i64 dy, .int .u8 (hy : Int)], .int .u16 (nn : Int), .slice am lm cm] w fun e w' => e = .returned (.bool true) ∧ Below w.heap.size w w' := by
  have htx : tx.length = lx := by obtain ⟨_, _, hv, _⟩ := hBx; injection hv with _ e2 _; exact e2.symm
  have hty : ty.length = ly := by obtain ⟨_, _, hv, _⟩ := hBy; injection hv with _ e2 _; exact e2.symm
  have HZ := Lib.hid fun W => size_any nn W hnn
  rw [hz] at HZ
  have hz1 : 1 ≤ z := by omega
  have hz2 : z ≤ 16383 := by omega
  have htm : more.length = lm := by obtain ⟨_, _, hv, _⟩ := hBm; injection hv with _ e2 _; exact e2.symm
  have HP1 := Lib.hid fun W hb => put_right ⟨kx, tx, px, nx, sx, mx, dx, hx⟩ ax lx cx z W (bytes_below hBx hb) h8x (by show tx.length < 1000000; omega) hnx hcx hx0 hz1 hz2
  simp only at HP1
  have HP2 := Lib.hid fun W hb => put_right ⟨ky, ty, py, ny, sy, my, dy, hy⟩ ay ly cy z W (bytes_below hBy hb) h8y (by show ty.length < 1000000; omega) hny hcy hy0 hz1 hz2
  simp only at HP2
  have HLX := Lib.hid (obytes_len hx0)
  have HBL := Lib.hid (show (obytes ⟨kx, tx, px, nx, sx, mx, dx, hx⟩ z).length ≤ 304 by have := (obytes_len hx0).1; simp only at this; omega)
  have HLY := Lib.hid (show (obytes ⟨ky, ty, py, ny, sy, my, dy, hy⟩ z).length ≤ 304 by have := (obytes_len hy0).1; simp only at this; omega)
  have H8X := Lib.hid (obytes_lt hx0 hz2 h8x hcx)
  have H8Y := Lib.hid (obytes_lt hy0 hz2 h8y hcy)
  have HEQ := same_bytes hx0 hy0 hz2
  have HGO := oget_bytes hx0 hz2 19 more (by decide)
  have HS1 := Lib.hid fun W hb => same_any ⟨kx, tx, px, nx, sx, mx, dx, hx⟩ ⟨ky, ty, py, ny, sy, my, dy, hy⟩ ax lx cx ay ly cy W (bytes_below hBx hb) (bytes_below hBy hb) h8x h8y (by show tx.length < 1000000; omega)
  have HS2 := Lib.hid fun W hb => rsame_any ⟨kx, tx, px, nx, sx, mx, dx, hx⟩ ⟨ky, ty, py, ny, sy, my, dy, hy⟩ ax lx cx ay ly cy W (bytes_below hBx hb) (bytes_below hBy hb) h8x h8y (by show tx.length < 1000000; omega)
  have HS3 := Lib.hid fun va n vc W h1 hb => same_any ⟨kx, tx, px, nx, sx, mx, dx, hx⟩ ⟨kx, tx, px, nx, sx, mx, dx, hx⟩ va n vc ax lx cx W h1 (bytes_below hBx hb) h8x h8x (by show tx.length < 1000000; omega)
  simp only [same_self] at HS1 HS2 HS3
  have HGT := Lib.hid fun (W : World) (C g : Nat) (hu : Cur W C g (obytes ⟨kx, tx, px, nx, sx, mx, dx, hx⟩ z ++ 19 :: more) 0 .nilIface) (h8 : ∀ x ∈ obytes ⟨kx, tx, px, nx, sx, mx, dx, hx⟩ z ++ 19 :: more, x < 256) (hl : (obytes ⟨kx, tx, px, nx, sx, mx, dx, hx⟩ z ++ 19 :: more).length < 1000000000) => get_right z W hu h8 hl (by rw [List.drop_zero, HGO])
  simp only [List.drop_zero, HGO] at HGT
  generalize same ⟨kx, tx, px, nx, sx, mx, dx, hx⟩ ⟨ky, ty, py, ny, sy, my, dy, hy⟩ = r at HS1 HS2 HEQ
  have HEQ := Lib.hid HEQ
  generalize obytes ⟨kx, tx, px, nx, sx, mx, dx, hx⟩ z = bs at *
  generalize obytes ⟨ky, ty, py, ny, sy, my, dy, hy⟩ z = es at *
  have HBM := Lib.hid hBm
  have HNM := Lib.hid hnm
  have H8M := Lib.hid h8m
  have HTM := Lib.hid htm
  clear hBx h8x hBy h8y hx0 hy0 htx hty hz hnx hny HGO hBm hnm h8m htm HLX
  have HG := Lib.hid (one_of_two w (.cells #[.int .i64 kx, .slice ax lx cx, .bool px, .bool nx, .int .i64 sx, .bool mx, .int .i64 dx, .int .u8 (hx : Int)] 26) (.cells #[.int .i64 ky, .slice ay ly cy, .bool py, .bool ny, .int .i64 sy, .bool my, .int .i64 dy, .int .u8 (hy : Int)] 26))
  have HA : Hid (Below w.heap.size w ((w.alloc (.cells #[.int .i64 kx, .slice ax lx cx, .bool px, .bool nx, .int .i64 sx, .bool mx, .int .i64 dx, .int .u8 (hx : Int)] 26)).alloc (.cells #[.int .i64 ky, .slice ay ly cy, .bool py, .bool ny, .int .i64 sy, .bool my, .int .i64 dy, .int .u8 (hy : Int)] 26))) := al2 ..
  have g1 : decide ((300 : Int) < (lx : Int)) = false := by simp; omega
  have g2 : decide ((300 : Int) < (ly : Int)) = false := by simp; omega
  have g3 : decide ((100 : Int) < (lm : Int)) = false := by simp; omega
  go_enter Try.func3, Try.ntmps3
  go_wp2_with fail
  generalize (w.alloc (.cells #[.int .i64 kx, .slice ax lx cx, .bool px, .bool nx, .int .i64 sx, .bool mx, .int .i64 dx, .int .u8 (hx : Int)] 26)).alloc (.cells #[.int .i64 ky, .slice ay ly cy, .bool py, .bool ny, .int .i64 sy, .bool my, .int .i64 dy, .int .u8 (hy : Int)] 26) = w0 at HG HA ⊢
  with_reducible refine (awake_any _).mono ?_
  rintro e w1 ⟨rfl, hb⟩
  have K1 := kept_hid HA hb
  have G1 := Lib.hid (blk HG.out.1 hb)
  have P1 := Lib.hid (blk HG.out.2 hb)
  clear HA HG hb
  obtain ⟨c0, c1, c2, c3, c4, c5, c6, c7⟩ := cells8 G1.out
  obtain ⟨b0, b1, b2, b3, b4, b5, b6, b7⟩ := cells8 P1.out
  go_wp2_with fail
  clear c0 c1 c2 c3 c4 c5 c6 c7 b0 b1 b2 b3 b4 b5 b6 b7
  have HP := HP1
  clear HP1
  go_region_held3 (fun w' => Below w1.heap.size w1 w' ∧ w'.cell? ⟨w.heap.size, 0, none⟩ = some (.int .i64 kx) ∧ w'.cell? ⟨w.heap.size, 1, none⟩ = some (.slice ax lx cx) ∧ w'.cell? ⟨w.heap.size, 2, none⟩ = some (.bool px) ∧ w'.cell? ⟨w.heap.size, 3, none⟩ = some (.bool nx) ∧ w'.cell? ⟨w.heap.size, 4, none⟩ = some (.int .i64 sx) ∧ w'.cell? ⟨w.heap.size, 5, none⟩ = some (.bool mx) ∧ w'.cell? ⟨w.heap.size, 6, none⟩ = some (.int .i64 dx) ∧ w'.cell? ⟨w.heap.size, 7, none⟩ = some (.int .u8 (hx : Int)))
    (first | exact held8 G1.out (Below.refl _ _).drew | exact held8 G1.out (Below.refl _ _) | exact held8 G1.out (kept_trans (And.left (by assumption)) hb))
    (first
      | (go_at_call 8; with_reducible refine (HZ.out _).mono ?_; rintro e wa ⟨rfl, rfl⟩)
      | (go_at_call 7; with_reducible refine (HP.out _ (kept_trans K1.out (And.left (by assumption)))).mono ?_; rintro e wb ⟨v, rfl, ho, hb⟩))
  have hS := And.left (by assumption : Below w1.heap.size w1 _ ∧ _)
  have K2 := kept_hid K1 hS
  have G2 := Lib.hid (blk G1.out hS)
  have P2 := Lib.hid (blk P1.out hS)
  have B2 := Lib.hid (own_bytes ho)
  obtain ⟨va, vc, rfl⟩ := own_form ho
  have HNB := Lib.hid (own_nil ho)
  clear ho hS hb HP G1 P1 K1
  go_wp2_with fail
  have HP := HP2
  clear HP2
  go_region_held3 (fun w' => Below wb.heap.size wb w' ∧ w'.cell? ⟨w.heap.size + 1, 0, none⟩ = some (.int .i64 ky) ∧ w'.cell? ⟨w.heap.size + 1, 1, none⟩ = some (.slice ay ly cy) ∧ w'.cell? ⟨w.heap.size + 1, 2, none⟩ = some (.bool py) ∧ w'.cell? ⟨w.heap.size + 1, 3, none⟩ = some (.bool ny) ∧ w'.cell? ⟨w.heap.size + 1, 4, none⟩ = some (.int .i64 sy) ∧ w'.cell? ⟨w.heap.size + 1, 5, none⟩ = some (.bool my) ∧ w'.cell? ⟨w.heap.size + 1, 6, none⟩ = some (.int .i64 dy) ∧ w'.cell? ⟨w.heap.size + 1, 7, none⟩ = some (.int .u8 (hy : Int)))
    (first | exact held8 P2.out (Below.refl _ _).drew | exact held8 P2.out (Below.refl _ _) | exact held8 P2.out (kept_trans (And.left (by assumption)) hb))
    (first
      | (go_at_call 8; with_reducible refine (HZ.out _).mono ?_; rintro e wa ⟨rfl, rfl⟩)
      | (go_at_call 7; with_reducible refine (HP.out _ (kept_trans K2.out (And.left (by assumption)))).mono ?_; rintro e wc ⟨v, rfl, ho, hb⟩))
  have hS := And.left (by assumption : Below wb.heap.size wb _ ∧ _)
  have K3 := kept_hid K2 hS
  have G3 := Lib.hid (blk G2.out hS)
  have P3 := Lib.hid (blk P2.out hS)
  have B3 := Lib.hid (bytes_below B2.out hS)
  have E3 := Lib.hid (own_bytes ho)
  obtain ⟨va2, vc2, rfl⟩ := own_form ho
  clear ho hS hb HP G2 P2 B2 K2
  go_wp2_with fail
  have HQ := Lib.hid fun W hb => Sam.same_gb _ _ bs es W (bytes_below B3.out hb) (bytes_below E3.out hb) H8X.out H8Y.out (by have := HBL.out; omega)
  rw [HEQ.out] at HQ
  go_region_held3 (fun w' => Below wc.heap.size wc w' ∧ w'.cell? ⟨w.heap.size, 0, none⟩ = some (.int .i64 kx) ∧ w'.cell? ⟨w.heap.size, 1, none⟩ = some (.slice ax lx cx) ∧ w'.cell? ⟨w.heap.size, 2, none⟩ = some (.bool px) ∧ w'.cell? ⟨w.heap.size, 3, none⟩ = some (.bool nx) ∧ w'.cell? ⟨w.heap.size, 4, none⟩ = some (.int .i64 sx) ∧ w'.cell? ⟨w.heap.size, 5, none⟩ = some (.bool mx) ∧ w'.cell? ⟨w.heap.size, 6, none⟩ = some (.int .i64 dx) ∧ w'.cell? ⟨w.heap.size, 7, none⟩ = some (.int .u8 (hx : Int)) ∧ w'.cell? ⟨w.heap.size + 1, 0, none⟩ = some (.int .i64 ky) ∧ w'.cell? ⟨w.heap.size + 1, 1, none⟩ = some (.slice ay ly cy) ∧ w'.cell? ⟨w.heap.size + 1, 2, none⟩ = some (.bool py) ∧ w'.cell? ⟨w.heap.size + 1, 3, none⟩ = some (.bool ny) ∧ w'.cell? ⟨w.heap.size + 1, 4, none⟩ = some (.int .i64 sy) ∧ w'.cell? ⟨w.heap.size + 1, 5, none⟩ = some (.bool my) ∧ w'.cell? ⟨w.heap.size + 1, 6, none⟩ = some (.int .i64 dy) ∧ w'.cell? ⟨w.heap.size + 1, 7, none⟩ = some (.int .u8 (hy : Int)))
    (first | exact held16 G3.out P3.out (Below.refl _ _).drew | exact held16 G3.out P3.out (Below.refl _ _) | exact held16 G3.out P3.out (kept_trans (And.left (by assumption)) hb))
    (first
      | (go_at_call 9; with_reducible refine (HQ.out _ (And.left (by assumption))).mono ?_; rintro e wa ⟨rfl, hb⟩)
      | (go_at_call 10; with_reducible refine (HS1.out _ (kept_trans K3.out (And.left (by assumption)))).mono ?_; rintro e wa ⟨rfl, hb⟩)
      | (go_at_call 11; with_reducible refine (HS2.out _ (kept_trans K3.out (And.left (by assumption)))).mono ?_; rintro e wa ⟨rfl, hb⟩))
  have hS := And.left (by assumption : Below wc.heap.size wc _ ∧ _)
  have K4 := kept_hid K3 hS
  have G4 := Lib.hid (blk G3.out hS)
  have B4 := Lib.hid (bytes_below B3.out hS)
  clear hS G3 P3 B3 E3 K3 HQ HS1 HS2 HEQ
  have HT := Lib.hid (own_lit wa wa.heap.size [19] (Nat.le_refl _) (by decide))
  have A4 := Lib.hid (al_any wa (.cells (u8s [19]).toArray 5))
  have HSM := Lib.hid (bytes_src (bytes_below (bytes_below HBM.out K4.out) A4.out))
  go_wp2_with (at_builtin; refine wpList_mark ?_)
  refine Lib.hid ?_
  refine append_own rfl (.tmp 72) (.tmp 73) rfl wa.heap.size _ 1 _ rfl HT.out am lm cm more rfl HTM.out HNM.out HSM.out (by omega) A4.out.size ?_
  intro v5 w5 hown hgr _
  have HT5 := Lib.hid (show w5.ownsRow wa.heap.size 5 1 v5 (1 + lm) (u8s (19 :: more)) from hown)
  have hK := below_own A4.out hgr HT.out
  have K5 := kept_hid K4 hK
  have G5 := Lib.hid (blk G4.out hK)
  have B5 := Lib.hid (bytes_below B4.out hK)
  obtain ⟨ta, tc, rfl⟩ := own_form hown
  have HTN := Lib.hid (own_nil HT5.out)
  clear hK hown hgr HT A4 HSM G4 B4 K4 HBM
  have HE := Lib.hid (own_lit w5 w5.heap.size [] (Nat.le_refl _) (by decide))
  have A5 := Lib.hid (al_any w5 (.cells (u8s []).toArray 5))
  have HSB := Lib.hid (bytes_src (bytes_below B5.out A5.out))
  go_wp2_with (at_builtin; refine wpList_mark ?_)
  refine Lib.hid ?_
  refine append_own rfl (.tmp 75) (.tmp 76) rfl w5.heap.size _ 0 _ rfl HE.out va bs.length vc bs rfl rfl HNB.out HSB.out (by have := HBL.out; omega) A5.out.size ?_
  intro v6 w6 hown hgr _
  have HE6 := Lib.hid (show w6.ownsRow w5.heap.size 5 1 v6 bs.length (u8s bs) from by simpa [u8s] using hown)
  have A6 := Lib.hid (below_own A5.out hgr HE.out)
  have HT6 := Lib.hid (own_below HT5.out A6.out)
  obtain ⟨ea, ec, rfl⟩ := own_form HE6.out
  have HST := Lib.hid (bytes_src (own_bytes HT6.out))
  clear hown hgr HE A5 HSB B5 HT5
  go_wp2_with (at_builtin; refine wpList_mark ?_)
  refine Lib.hid ?_
  refine append_own rfl (.tmp 77) (.tmp 78) rfl w5.heap.size _ bs.length _ rfl HE6.out ta (1 + lm) tc (19 :: more) rfl (by simp only [List.length_cons, HTM.out]; omega) HTN.out HST.out (by have := HBL.out; omega) A6.out.size ?_
  intro v7 w7 hown hgr _
  have HE7 := Lib.hid (show w7.ownsRow w5.heap.size 5 1 v7 (bs.length + (1 + lm)) (u8s (bs ++ 19 :: more)) from by simpa [u8s] using hown)
  have hK := below_own A6.out hgr HE6.out
  have K7 := kept_hid K5 hK
  have G7 := Lib.hid (blk G5.out hK)
  obtain ⟨fa, fc, rfl⟩ := own_form HE7.out
  clear hK hown hgr HE6 A6 HT6 HST G5 K5 HTN HNB HNM
  have HXL := Lib.hid (show (bs ++ 19 :: more).length < 1000000000 by have := HBL.out; have := HTM.out; simp only [List.length_append, List.length_cons]; omega)
  have HX8 := Lib.hid (show ∀ x ∈ bs ++ 19 :: more, x < 256 from fun x hx => by
    rcases List.mem_append.1 hx with h | h
    · exact H8X.out x h
    · rcases List.mem_cons.1 h with h | h
      · omega
      · exact H8M.out x h)
  have HXS := Lib.hid (show (bs ++ 19 :: more).length - (0 + bs.length) = 1 + lm by have := HTM.out; simp only [List.length_append, List.length_cons]; omega)
  go_wp2_with fail
  with_reducible refine (new_any _ _ _ (bs ++ 19 :: more) _ (own_bytes HE7.out) (own_nil HE7.out) HXL.out).mono ?_
  rintro e w8 ⟨C, g, rfl, hu, hC, hG, hb⟩
  have K8 := kept_hid K7 hb
  have G8 := Lib.hid (blk G7.out hb)
  have HCN := Lib.hid (show w.heap.size < C from Nat.lt_of_lt_of_le (there_lt G7.out) hC)
  have U8 := Lib.hid hu
  clear hu hC hG hb K7 G7 HE7
  go_wp2_with fail
  with_reducible refine (HZ.out _).mono ?_
  rintro e w' ⟨rfl, rfl⟩
  go_wp2_with fail
  with_reducible refine (HGT.out w8 C g U8.out HX8.out HXL.out).mono ?_
  rintro e w9 ⟨xa, n, xc, rfl, ho, hu, hgr⟩
  have K9 := Lib.hid (show Below w.heap.size w w9 from K8.out.grown hgr K8.out.size (by intro k hk; injection hk with hk; have := HCN.out; omega))
  have hG9 := blk_g G8.out hgr (by intro e; injection e with e; have := HCN.out; omega)
  have X9 := own_bytes ho
  have K10 := kept_alloc K9 (.cells #[.int .i64 kx, .slice xa n xc, .bool px, .bool nx, .int .i64 sx, .bool mx, .int .i64 dx, .int .u8 (hx : Int)] 26)
  have G10 := Lib.hid (blk hG9 (al_any w9 (.cells #[.int .i64 kx, .slice xa n xc, .bool px, .bool nx, .int .i64 sx, .bool mx, .int .i64 dx, .int .u8 (hx : Int)] 26)))
  have L10 := Lib.hid (heap_alloc_new w9 (.cells #[.int .i64 kx, .slice xa n xc, .bool px, .bool nx, .int .i64 sx, .bool mx, .int .i64 dx, .int .u8 (hx : Int)] 26))
  have U10 := Lib.hid (hu.below (al_any w9 (.cells #[.int .i64 kx, .slice xa n xc, .bool px, .bool nx, .int .i64 sx, .bool mx, .int .i64 dx, .int .u8 (hx : Int)] 26)))
  have X10 := Lib.hid (bytes_below X9 (al_any w9 (.cells #[.int .i64 kx, .slice xa n xc, .bool px, .bool nx, .int .i64 sx, .bool mx, .int .i64 dx, .int .u8 (hx : Int)] 26)))
  clear ho hu hgr hG9 X9 K8 G8 U8 K9
  go_wp2_with fail
  generalize w9.heap.size = L at *
  generalize w9.alloc (.cells #[.int .i64 kx, .slice xa n xc, .bool px, .bool nx, .int .i64 sx, .bool mx, .int .i64 dx, .int .u8 (hx : Int)] 26) = w10 at *
  with_reducible refine (err_any w10 U10.out).mono ?_
  rintro e w' ⟨rfl, rfl⟩
  obtain ⟨c0, c1, c2, c3, c4, c5, c6, c7⟩ := cells8 G10.out
  obtain ⟨b0, b1, b2, b3, b4, b5, b6, b7⟩ := cells8 L10.out
  go_wp2_with fail
  with_reducible refine (HS3.out xa n xc w10 X10.out K10.out).mono ?_
  rintro e w11 ⟨rfl, hb⟩
  have K11 := kept_hid K10 hb
  have U11 := Lib.hid (U10.out.below hb)
  clear hb c0 c1 c2 c3 c4 c5 c6 c7 b0 b1 b2 b3 b4 b5 b6 b7 U10 K10 G10 L10 X10
  have HLF := left_b w11 U11.out HXL.out
  rw [HXS.out] at HLF
  have HLF := Lib.hid HLF
  go_wp2_with fail
  with_reducible refine HLF.out.mono ?_
  rintro e w12 ⟨rfl, hb⟩
  have K12 := kept_hid K11 hb
  clear hb HLF U11 K11
  go_wp2_with fail
  go_ret
  exact ⟨rfl, K12.out⟩
/-- OrderBack returns true. -/
theorem back_any (kx : Int) (ax : Option Addr) (lx cx : Nat) (zx : List Int) (px nx : Bool) (sx : Int) (mx : Bool) (dx hx : Int) (ky : Int) (ay : Option Addr) (ly cy : Nat) (zy : List Int) (py ny : Bool) (sy : Int) (my : Bool) (dy hy : Int) (nn : Int) (am : Option Addr) (lm cm : Nat) (zm : List Int) (w : World)
    (hrx : IsRow .u8 w ax lx cx zx) (hcx : (Lit.int .u8 hx).wf = true) (hry : IsRow .u8 w ay ly cy zy) (hcy : (Lit.int .u8 hy).wf = true) (hnn : (Lit.int .u16 nn).wf = true) (hrm : IsRow .u8 w am lm cm zm) :
    Calls Try.prog 3 #[.agg #[.int .i64 kx, .slice ax lx cx, .bool px, .bool nx, .int .i64 sx, .bool mx, .int .i64 dx, .int .u8 hx], .agg #[.int .i64 ky, .slice ay ly cy, .bool py, .bool ny, .int .i64 sy, .bool my, .int .i64 dy, .int .u8 hy], .int .u16 nn, .slice am lm cm] w fun e w' => e = .returned (.bool true) ∧ Below w.heap.size w w' := by
  by_cases hl : 300 < lx ∨ 300 < ly ∨ 100 < lm
  · exact back_long kx ky ax lx cx ay ly cy px nx sx mx dx py ny sy my dy hx hy nn am lm cm w hl
  obtain ⟨tx, _, h8x, hBx⟩ := isRow_bytes hrx
  obtain ⟨ty, _, h8y, hBy⟩ := isRow_bytes hry
  obtain ⟨more, _, h8m, hBm⟩ := isRow_bytes hrm
  have hnx := isRow_nil hrx
  have hny := isRow_nil hry
  have hnm := isRow_nil hrm
  have hcx := wf_u8 hcx
  have hcy := wf_u8 hcy
  have hnn := wf_u16 hnn
  obtain ⟨hx, rfl⟩ := Int.eq_ofNat_of_zero_le (a := hx) (by omega)
  obtain ⟨hy, rfl⟩ := Int.eq_ofNat_of_zero_le (a := hy) (by omega)
  obtain ⟨nn, rfl⟩ := Int.eq_ofNat_of_zero_le (a := nn) (by omega)
  by_cases hx0 : wrong ⟨kx, tx, px, nx, sx, mx, dx, hx⟩ (1 + nn % 16383) = 0
  · by_cases hy0 : wrong ⟨ky, ty, py, ny, sy, my, dy, hy⟩ (1 + nn % 16383) = 0
    · exact back_good kx ky ax lx cx ay ly cy px nx sx mx dx py ny sy my dy tx ty hx hy nn _ am lm cm w (by omega) (by omega) (by omega) hBx h8x hBy h8y (by omega) (by omega) (by omega) rfl hnx hny more hBm h8m hnm hx0 hy0
    · exact back_bad10 kx ky ax lx cx ay ly cy px nx sx mx dx py ny sy my dy tx ty hx hy nn _ am lm cm w (by omega) (by omega) (by omega) hBx h8x hBy h8y (by omega) (by omega) (by omega) rfl hnx hx0 hy0
  · by_cases hy0 : wrong ⟨ky, ty, py, ny, sy, my, dy, hy⟩ (1 + nn % 16383) = 0
    · exact back_bad01 kx ky ax lx cx ay ly cy px nx sx mx dx py ny sy my dy tx ty hx hy nn _ am lm cm w (by omega) (by omega) (by omega) hBx h8x hBy h8y (by omega) (by omega) (by omega) rfl hny hx0 hy0
    · exact back_bad00 kx ky ax lx cx ay ly cy px nx sx mx dx py ny sy my dy tx ty hx hy nn _ am lm cm w (by omega) (by omega) (by omega) hBx h8x hBy h8y (by omega) (by omega) (by omega) rfl hx0 hy0
end Ord
end Go.Proofs.Ytllpmgddcpgegaa
