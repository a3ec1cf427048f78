/- OrderLengths returns true. Written by tools/gen_ord_len.py. -/
import Derived.Test.YtllpmgddcpgegaaOrdAwake
import Derived.Deep.RegionHeld3
namespace Go.Proofs.Ytllpmgddcpgegaa
open Go.RowKit Sha Cut Err Six Att Byt Apd
namespace Ord
theorem wf_u8 {c : Int} (h : (Lit.int .u8 c).wf = true) : 0 ≤ c ∧ c < 256 := by
  have h1 : IntKind.u8.min ≤ c ∧ c ≤ IntKind.u8.max := by simpa [Lit.wf] using h
  have h2 : IntKind.u8.min = 0 := by decide
  have h3 : IntKind.u8.max = 255 := by decide
  omega
theorem wf_u16 {c : Int} (h : (Lit.int .u16 c).wf = true) : 0 ≤ c ∧ c < 65536 := by
  have h1 : IntKind.u16.min ≤ c ∧ c ≤ IntKind.u16.max := by simpa [Lit.wf] using h
  have h2 : IntKind.u16.min = 0 := by decide
  have h3 : IntKind.u16.max = 65535 := by decide
  omega
theorem own_at {w : World} {base n i : Nat} {va : Option Addr} {vc : Nat} {m : List Nat} (h : w.ownsRow base 5 1 (.slice va n vc) n (u8s m)) (hi : i < n) : ∃ g, va = some ⟨g, 0, none⟩ ∧ g < w.heap.size ∧ w.cell? ⟨g, i, none⟩ = some (.int .u8 ((m.getD i 0 : Nat) : Int)) := by
  have hl := own_len h
  obtain ⟨ad, c, hv, hnn, hs⟩ := own_spot h
  injection hv with e1 e2 e3
  subst e1 e3
  obtain ⟨ad', c', hv, hlc, hr⟩ := own_bytes h
  injection hv with e1 e2 e3
  subst e1
  rcases hr with h0 | ⟨g, off, rfl, hc⟩
  · rw [h0] at hl; simp at hl; omega
  · obtain ⟨h1, _, h3⟩ := hs _ rfl
    injection h1 with _ e2
    subst e2
    have := hc i (by omega)
    rw [Nat.zero_add] at this
    exact ⟨g, rfl, h3, this⟩
set_option maxRecDepth 100000 in
set_option maxHeartbeats 4000000 in
theorem len_wrong (o : O) (ad : Option Addr) (len cap nn : Nat) (w : World) (hB : BytesIn w (.slice ad len cap) o.t) (h8 : ∀ x ∈ o.t, x < 256) (hl : len ≤ 300) (hc : o.c < 256) (hnn : nn < 65536) (h0 : wrong o (1 + nn % 16383) ≠ 0) :
    Calls Try.prog 5 #[.agg #[.int .i64 o.k, .slice ad len cap, .bool o.p, .bool o.n, .int .i64 o.s, .bool o.m, .int .i64 o.a, .int .u8 (o.c : Int)], .int .u16 (nn : Int)] w fun e w' => e = .returned (.bool true) ∧ Below w.heap.size w w' := by
  obtain ⟨k, t, p, n, s, m, a, c⟩ := o
  simp only at hB h8 hc ⊢
  have hlt : t.length < 1000000 := by obtain ⟨_, _, hv, _⟩ := hB; injection hv with _ e2 _; omega
  have HG := Lib.hid (heap_alloc_new w (.cells #[.int .i64 k, .slice ad len cap, .bool p, .bool n, .int .i64 s, .bool m, .int .i64 a, .int .u8 (c : Int)] 26))
  have HA := Lib.hid (al_any w (.cells #[.int .i64 k, .slice ad len cap, .bool p, .bool n, .int .i64 s, .bool m, .int .i64 a, .int .u8 (c : Int)] 26))
  have HZ := Lib.hid fun W => size_any nn W hnn
  generalize hz : 1 + nn % 16383 = z at *
  have hg : decide ((300 : Int) < (len : Int)) = false := by simp; omega
  have HP := Lib.hid fun W hb => put_wrong ⟨k, t, p, n, s, m, a, c⟩ ad len cap z W (bytes_below hB hb) h8 hlt hc h0 (by omega) (by omega)
  simp only at HP
  generalize wrong ⟨k, t, p, n, s, m, a, c⟩ z = u at *
  clear hB h8 h0 hlt
  clear hz
  go_enter Try.func5, Try.ntmps5
  go_wp2_with fail
  with_reducible refine (awake_any _).mono ?_
  rintro e w1 ⟨rfl, hb⟩
  have K1 := kept_hid HA hb
  have G1 := Lib.hid (blk HG.out hb)
  clear HA HG hb
  obtain ⟨c0, c1, c2, c3, c4, c5, c6, c7⟩ := cells8 G1.out
  go_wp2_with fail
  clear c0 c1 c2 c3 c4 c5 c6 c7
  go_region_held3 (fun w' => Below w1.heap.size w1 w' ∧ w'.cell? ⟨w.heap.size, 0, none⟩ = some (.int .i64 k) ∧ w'.cell? ⟨w.heap.size, 1, none⟩ = some (.slice ad len cap) ∧ w'.cell? ⟨w.heap.size, 2, none⟩ = some (.bool p) ∧ w'.cell? ⟨w.heap.size, 3, none⟩ = some (.bool n) ∧ w'.cell? ⟨w.heap.size, 4, none⟩ = some (.int .i64 s) ∧ w'.cell? ⟨w.heap.size, 5, none⟩ = some (.bool m) ∧ w'.cell? ⟨w.heap.size, 6, none⟩ = some (.int .i64 a) ∧ w'.cell? ⟨w.heap.size, 7, none⟩ = some (.int .u8 (c : Int)))
    (first | exact held8 G1.out (Below.refl _ _).drew | exact held8 G1.out (Below.refl _ _) | exact held8 G1.out (kept_trans (And.left (by assumption)) hb))
    (first
      | (go_at_call 8; with_reducible refine (HZ.out _).mono ?_; rintro e wa ⟨rfl, rfl⟩)
      | (go_at_call 7; with_reducible refine (HP.out _ (kept_trans K1.out (And.left (by assumption)))).mono ?_; rintro e wb ⟨rfl, hb⟩))
  have hS := And.left (by assumption : Below w1.heap.size w1 _ ∧ _)
  have K2 := kept_hid K1 hS
  obtain ⟨c0, c1, c2, c3, c4, c5, c6, c7⟩ := cells8 (blk G1.out hS)
  have l2 : w.heap.size < wb.heap.size := there_lt (blk G1.out hS)
  go_wp2_with fail
  go_ret
  exact ⟨rfl, K2.out⟩
set_option maxRecDepth 100000 in
set_option maxHeartbeats 4000000 in
theorem len_1 (ad : Option Addr) (len cap nn z : Nat)  (w : World) (t : List Nat) (h8 : ∀ x ∈ t, x < 256) (hn : ad = none → len = 0 ∧ cap = 0) (hB : BytesIn w (.slice ad len cap) t) (hl : len ≤ 300) (hnn : nn < 65536) (hzz : 1 + nn % 16383 = z)  (h0 : wrong ⟨1, t, false, false, 0, false, 0, 0⟩ z = 0) :
    Calls Try.prog 5 #[.agg #[.int .i64 1, .slice ad len cap, .bool false, .bool false, .int .i64 0, .bool false, .int .i64 0, .int .u8 0], .int .u16 (nn : Int)] w fun e w' => e = .returned (.bool true) ∧ Below w.heap.size w w' := by
  have hlt : t.length = len := by obtain ⟨_, _, hv, _⟩ := hB; injection hv with _ e2 _; exact e2.symm
  have HG := Lib.hid (heap_alloc_new w (.cells #[.int .i64 1, .slice ad len cap, .bool false, .bool false, .int .i64 0, .bool false, .int .i64 0, .int .u8 0] 26))
  have HA := Lib.hid (al_any w (.cells #[.int .i64 1, .slice ad len cap, .bool false, .bool false, .int .i64 0, .bool false, .int .i64 0, .int .u8 0] 26))
  have HZ := Lib.hid fun W => size_any nn W hnn
  have hz := hzz
  rw [hzz] at HZ
  have hg : decide ((300 : Int) < (len : Int)) = false := by simp; omega
  have HP := Lib.hid fun W hb => put_1 ad len cap z  W t h8 (by omega) hn (bytes_below hB hb)  h0 (by omega) (by omega)
  clear hB h0 h8 hn
  clear hz hzz
  go_enter Try.func5, Try.ntmps5
  go_wp2_with fail
  with_reducible refine (awake_any _).mono ?_
  rintro e w1 ⟨rfl, hb⟩
  have K1 := kept_hid HA hb
  have G1 := Lib.hid (blk HG.out hb)
  clear HA HG hb
  obtain ⟨c0, c1, c2, c3, c4, c5, c6, c7⟩ := cells8 G1.out
  go_wp2_with fail
  clear c0 c1 c2 c3 c4 c5 c6 c7
  go_region_held3 (fun w' => Below w1.heap.size w1 w' ∧ w'.cell? ⟨w.heap.size, 0, none⟩ = some (.int .i64 1) ∧ w'.cell? ⟨w.heap.size, 1, none⟩ = some (.slice ad len cap) ∧ w'.cell? ⟨w.heap.size, 2, none⟩ = some (.bool false) ∧ w'.cell? ⟨w.heap.size, 3, none⟩ = some (.bool false) ∧ w'.cell? ⟨w.heap.size, 4, none⟩ = some (.int .i64 0) ∧ w'.cell? ⟨w.heap.size, 5, none⟩ = some (.bool false) ∧ w'.cell? ⟨w.heap.size, 6, none⟩ = some (.int .i64 0) ∧ w'.cell? ⟨w.heap.size, 7, none⟩ = some (.int .u8 0))
    (first | exact held8 G1.out (Below.refl _ _).drew | exact held8 G1.out (Below.refl _ _) | exact held8 G1.out (kept_trans (And.left (by assumption)) hb))
    (first
      | (go_at_call 8; with_reducible refine (HZ.out _).mono ?_; rintro e wa ⟨rfl, rfl⟩)
      | (go_at_call 7; with_reducible refine (HP.out _ (kept_trans K1.out (And.left (by assumption)))).mono ?_; rintro e wb ⟨v, rfl, ho, hb⟩))
  have hS := And.left (by assumption : Below w1.heap.size w1 _ ∧ _)
  have K2 := kept_hid K1 hS
  obtain ⟨c0, c1, c2, c3, c4, c5, c6, c7⟩ := cells8 (blk G1.out hS)
  have l2 : w.heap.size < wb.heap.size := there_lt (blk G1.out hS)
  have O2 := Lib.hid ho
  obtain ⟨va, vc, rfl⟩ := own_form ho
  clear ho
  rw [hlt] at O2 ⊢
  go_wp2_with fail
  go_ret
  exact ⟨rfl, (kept_alloc (kept_alloc K2 _) _).out⟩
set_option maxRecDepth 100000 in
set_option maxHeartbeats 4000000 in
theorem len_2 (ad : Option Addr) (len cap nn z : Nat) (p n m : Bool) (s : Nat) (w : World) (hB : BytesIn w (.slice ad len cap) []) (hl : len ≤ 300) (hnn : nn < 65536) (hzz : 1 + nn % 16383 = z) (hs : s < 4) (h0 : wrong ⟨2, [], p, n, (s : Int), m, 0, 0⟩ z = 0) :
    Calls Try.prog 5 #[.agg #[.int .i64 2, .slice ad len cap, .bool p, .bool n, .int .i64 (s : Int), .bool m, .int .i64 0, .int .u8 0], .int .u16 (nn : Int)] w fun e w' => e = .returned (.bool true) ∧ Below w.heap.size w w' := by
  have HG := Lib.hid (heap_alloc_new w (.cells #[.int .i64 2, .slice ad len cap, .bool p, .bool n, .int .i64 (s : Int), .bool m, .int .i64 0, .int .u8 0] 26))
  have HA := Lib.hid (al_any w (.cells #[.int .i64 2, .slice ad len cap, .bool p, .bool n, .int .i64 (s : Int), .bool m, .int .i64 0, .int .u8 0] 26))
  have HZ := Lib.hid fun W => size_any nn W hnn
  have hz := hzz
  rw [hzz] at HZ
  have hg : decide ((300 : Int) < (len : Int)) = false := by simp; omega
  have HP := Lib.hid fun W hb => put_2 ad len cap z p n m s W  (bytes_below hB hb) hs h0 (by omega) (by omega)
  clear hB h0 hs
  clear hz hzz
  go_enter Try.func5, Try.ntmps5
  go_wp2_with fail
  with_reducible refine (awake_any _).mono ?_
  rintro e w1 ⟨rfl, hb⟩
  have K1 := kept_hid HA hb
  have G1 := Lib.hid (blk HG.out hb)
  clear HA HG hb
  obtain ⟨c0, c1, c2, c3, c4, c5, c6, c7⟩ := cells8 G1.out
  go_wp2_with fail
  clear c0 c1 c2 c3 c4 c5 c6 c7
  go_region_held3 (fun w' => Below w1.heap.size w1 w' ∧ w'.cell? ⟨w.heap.size, 0, none⟩ = some (.int .i64 2) ∧ w'.cell? ⟨w.heap.size, 1, none⟩ = some (.slice ad len cap) ∧ w'.cell? ⟨w.heap.size, 2, none⟩ = some (.bool p) ∧ w'.cell? ⟨w.heap.size, 3, none⟩ = some (.bool n) ∧ w'.cell? ⟨w.heap.size, 4, none⟩ = some (.int .i64 (s : Int)) ∧ w'.cell? ⟨w.heap.size, 5, none⟩ = some (.bool m) ∧ w'.cell? ⟨w.heap.size, 6, none⟩ = some (.int .i64 0) ∧ w'.cell? ⟨w.heap.size, 7, none⟩ = some (.int .u8 0))
    (first | exact held8 G1.out (Below.refl _ _).drew | exact held8 G1.out (Below.refl _ _) | exact held8 G1.out (kept_trans (And.left (by assumption)) hb))
    (first
      | (go_at_call 8; with_reducible refine (HZ.out _).mono ?_; rintro e wa ⟨rfl, rfl⟩)
      | (go_at_call 7; with_reducible refine (HP.out _ (kept_trans K1.out (And.left (by assumption)))).mono ?_; rintro e wb ⟨v, rfl, ho, hb⟩))
  have hS := And.left (by assumption : Below w1.heap.size w1 _ ∧ _)
  have K2 := kept_hid K1 hS
  obtain ⟨c0, c1, c2, c3, c4, c5, c6, c7⟩ := cells8 (blk G1.out hS)
  have l2 : w.heap.size < wb.heap.size := there_lt (blk G1.out hS)
  obtain ⟨va, vc, rfl⟩ := own_form ho
  obtain ⟨g, rfl, hgl, d0⟩ := own_at (i := 0) ho (by decide)
  have d0 : wb.cell? ⟨g, 0, none⟩ = some (.int .u8 29) := d0
  clear ho
  go_wp2_with fail
  go_ret
  exact ⟨rfl, (kept_alloc (kept_alloc K2 _) _).out⟩
set_option maxRecDepth 100000 in
set_option maxHeartbeats 4000000 in
theorem len_3 (ad : Option Addr) (len cap nn z : Nat) (a : Nat) (w : World) (hB : BytesIn w (.slice ad len cap) []) (hl : len ≤ 300) (hnn : nn < 65536) (hzz : 1 + nn % 16383 = z) (ha : a < z) (h0 : wrong ⟨3, [], false, false, 0, false, (a : Int), 0⟩ z = 0) :
    Calls Try.prog 5 #[.agg #[.int .i64 3, .slice ad len cap, .bool false, .bool false, .int .i64 0, .bool false, .int .i64 (a : Int), .int .u8 0], .int .u16 (nn : Int)] w fun e w' => e = .returned (.bool true) ∧ Below w.heap.size w w' := by
  have HG := Lib.hid (heap_alloc_new w (.cells #[.int .i64 3, .slice ad len cap, .bool false, .bool false, .int .i64 0, .bool false, .int .i64 (a : Int), .int .u8 0] 26))
  have HA := Lib.hid (al_any w (.cells #[.int .i64 3, .slice ad len cap, .bool false, .bool false, .int .i64 0, .bool false, .int .i64 (a : Int), .int .u8 0] 26))
  have HZ := Lib.hid fun W => size_any nn W hnn
  have hz := hzz
  rw [hzz] at HZ
  have hg : decide ((300 : Int) < (len : Int)) = false := by simp; omega
  have HP := Lib.hid fun W hb => put_3 ad len cap z a W  (bytes_below hB hb) ha h0 (by omega) (by omega)
  clear hB h0 ha
  clear hz hzz
  go_enter Try.func5, Try.ntmps5
  go_wp2_with fail
  with_reducible refine (awake_any _).mono ?_
  rintro e w1 ⟨rfl, hb⟩
  have K1 := kept_hid HA hb
  have G1 := Lib.hid (blk HG.out hb)
  clear HA HG hb
  obtain ⟨c0, c1, c2, c3, c4, c5, c6, c7⟩ := cells8 G1.out
  go_wp2_with fail
  clear c0 c1 c2 c3 c4 c5 c6 c7
  go_region_held3 (fun w' => Below w1.heap.size w1 w' ∧ w'.cell? ⟨w.heap.size, 0, none⟩ = some (.int .i64 3) ∧ w'.cell? ⟨w.heap.size, 1, none⟩ = some (.slice ad len cap) ∧ w'.cell? ⟨w.heap.size, 2, none⟩ = some (.bool false) ∧ w'.cell? ⟨w.heap.size, 3, none⟩ = some (.bool false) ∧ w'.cell? ⟨w.heap.size, 4, none⟩ = some (.int .i64 0) ∧ w'.cell? ⟨w.heap.size, 5, none⟩ = some (.bool false) ∧ w'.cell? ⟨w.heap.size, 6, none⟩ = some (.int .i64 (a : Int)) ∧ w'.cell? ⟨w.heap.size, 7, none⟩ = some (.int .u8 0))
    (first | exact held8 G1.out (Below.refl _ _).drew | exact held8 G1.out (Below.refl _ _) | exact held8 G1.out (kept_trans (And.left (by assumption)) hb))
    (first
      | (go_at_call 8; with_reducible refine (HZ.out _).mono ?_; rintro e wa ⟨rfl, rfl⟩)
      | (go_at_call 7; with_reducible refine (HP.out _ (kept_trans K1.out (And.left (by assumption)))).mono ?_; rintro e wb ⟨v, rfl, ho, hb⟩))
  have hS := And.left (by assumption : Below w1.heap.size w1 _ ∧ _)
  have K2 := kept_hid K1 hS
  obtain ⟨c0, c1, c2, c3, c4, c5, c6, c7⟩ := cells8 (blk G1.out hS)
  have l2 : w.heap.size < wb.heap.size := there_lt (blk G1.out hS)
  obtain ⟨va, vc, rfl⟩ := own_form ho
  obtain ⟨g, rfl, hgl, d0⟩ := own_at (i := 0) ho (by decide)
  have d0 : wb.cell? ⟨g, 0, none⟩ = some (.int .u8 17) := d0
  clear ho
  go_wp2_with fail
  go_ret
  exact ⟨rfl, (kept_alloc (kept_alloc K2 _) _).out⟩
set_option maxRecDepth 100000 in
set_option maxHeartbeats 4000000 in
theorem len_4 (ad : Option Addr) (len cap nn z : Nat)  (w : World) (hB : BytesIn w (.slice ad len cap) []) (hl : len ≤ 300) (hnn : nn < 65536) (hzz : 1 + nn % 16383 = z)  (h0 : wrong ⟨4, [], false, false, 0, false, 0, 0⟩ z = 0) :
    Calls Try.prog 5 #[.agg #[.int .i64 4, .slice ad len cap, .bool false, .bool false, .int .i64 0, .bool false, .int .i64 0, .int .u8 0], .int .u16 (nn : Int)] w fun e w' => e = .returned (.bool true) ∧ Below w.heap.size w w' := by
  have HG := Lib.hid (heap_alloc_new w (.cells #[.int .i64 4, .slice ad len cap, .bool false, .bool false, .int .i64 0, .bool false, .int .i64 0, .int .u8 0] 26))
  have HA := Lib.hid (al_any w (.cells #[.int .i64 4, .slice ad len cap, .bool false, .bool false, .int .i64 0, .bool false, .int .i64 0, .int .u8 0] 26))
  have HZ := Lib.hid fun W => size_any nn W hnn
  have hz := hzz
  rw [hzz] at HZ
  have hg : decide ((300 : Int) < (len : Int)) = false := by simp; omega
  have HP := Lib.hid fun W hb => put_4 ad len cap z  W  (bytes_below hB hb)  h0 (by omega) (by omega)
  clear hB h0 
  clear hz hzz
  go_enter Try.func5, Try.ntmps5
  go_wp2_with fail
  with_reducible refine (awake_any _).mono ?_
  rintro e w1 ⟨rfl, hb⟩
  have K1 := kept_hid HA hb
  have G1 := Lib.hid (blk HG.out hb)
  clear HA HG hb
  obtain ⟨c0, c1, c2, c3, c4, c5, c6, c7⟩ := cells8 G1.out
  go_wp2_with fail
  clear c0 c1 c2 c3 c4 c5 c6 c7
  go_region_held3 (fun w' => Below w1.heap.size w1 w' ∧ w'.cell? ⟨w.heap.size, 0, none⟩ = some (.int .i64 4) ∧ w'.cell? ⟨w.heap.size, 1, none⟩ = some (.slice ad len cap) ∧ w'.cell? ⟨w.heap.size, 2, none⟩ = some (.bool false) ∧ w'.cell? ⟨w.heap.size, 3, none⟩ = some (.bool false) ∧ w'.cell? ⟨w.heap.size, 4, none⟩ = some (.int .i64 0) ∧ w'.cell? ⟨w.heap.size, 5, none⟩ = some (.bool false) ∧ w'.cell? ⟨w.heap.size, 6, none⟩ = some (.int .i64 0) ∧ w'.cell? ⟨w.heap.size, 7, none⟩ = some (.int .u8 0))
    (first | exact held8 G1.out (Below.refl _ _).drew | exact held8 G1.out (Below.refl _ _) | exact held8 G1.out (kept_trans (And.left (by assumption)) hb))
    (first
      | (go_at_call 8; with_reducible refine (HZ.out _).mono ?_; rintro e wa ⟨rfl, rfl⟩)
      | (go_at_call 7; with_reducible refine (HP.out _ (kept_trans K1.out (And.left (by assumption)))).mono ?_; rintro e wb ⟨v, rfl, ho, hb⟩))
  have hS := And.left (by assumption : Below w1.heap.size w1 _ ∧ _)
  have K2 := kept_hid K1 hS
  obtain ⟨c0, c1, c2, c3, c4, c5, c6, c7⟩ := cells8 (blk G1.out hS)
  have l2 : w.heap.size < wb.heap.size := there_lt (blk G1.out hS)
  obtain ⟨va, vc, rfl⟩ := own_form ho
  obtain ⟨g, rfl, hgl, d0⟩ := own_at (i := 0) ho (by decide)
  have d0 : wb.cell? ⟨g, 0, none⟩ = some (.int .u8 19) := d0
  clear ho
  go_wp2_with fail
  go_ret
  exact ⟨rfl, (kept_alloc (kept_alloc K2 _) _).out⟩
set_option maxRecDepth 100000 in
set_option maxHeartbeats 4000000 in
theorem len_5 (ad : Option Addr) (len cap nn z : Nat)  (w : World) (hB : BytesIn w (.slice ad len cap) []) (hl : len ≤ 300) (hnn : nn < 65536) (hzz : 1 + nn % 16383 = z)  (h0 : wrong ⟨5, [], false, false, 0, false, 0, 0⟩ z = 0) :
    Calls Try.prog 5 #[.agg #[.int .i64 5, .slice ad len cap, .bool false, .bool false, .int .i64 0, .bool false, .int .i64 0, .int .u8 0], .int .u16 (nn : Int)] w fun e w' => e = .returned (.bool true) ∧ Below w.heap.size w w' := by
  have HG := Lib.hid (heap_alloc_new w (.cells #[.int .i64 5, .slice ad len cap, .bool false, .bool false, .int .i64 0, .bool false, .int .i64 0, .int .u8 0] 26))
  have HA := Lib.hid (al_any w (.cells #[.int .i64 5, .slice ad len cap, .bool false, .bool false, .int .i64 0, .bool false, .int .i64 0, .int .u8 0] 26))
  have HZ := Lib.hid fun W => size_any nn W hnn
  have hz := hzz
  rw [hzz] at HZ
  have hg : decide ((300 : Int) < (len : Int)) = false := by simp; omega
  have HP := Lib.hid fun W hb => put_5 ad len cap z  W  (bytes_below hB hb)  h0 (by omega) (by omega)
  clear hB h0 
  clear hz hzz
  go_enter Try.func5, Try.ntmps5
  go_wp2_with fail
  with_reducible refine (awake_any _).mono ?_
  rintro e w1 ⟨rfl, hb⟩
  have K1 := kept_hid HA hb
  have G1 := Lib.hid (blk HG.out hb)
  clear HA HG hb
  obtain ⟨c0, c1, c2, c3, c4, c5, c6, c7⟩ := cells8 G1.out
  go_wp2_with fail
  clear c0 c1 c2 c3 c4 c5 c6 c7
  go_region_held3 (fun w' => Below w1.heap.size w1 w' ∧ w'.cell? ⟨w.heap.size, 0, none⟩ = some (.int .i64 5) ∧ w'.cell? ⟨w.heap.size, 1, none⟩ = some (.slice ad len cap) ∧ w'.cell? ⟨w.heap.size, 2, none⟩ = some (.bool false) ∧ w'.cell? ⟨w.heap.size, 3, none⟩ = some (.bool false) ∧ w'.cell? ⟨w.heap.size, 4, none⟩ = some (.int .i64 0) ∧ w'.cell? ⟨w.heap.size, 5, none⟩ = some (.bool false) ∧ w'.cell? ⟨w.heap.size, 6, none⟩ = some (.int .i64 0) ∧ w'.cell? ⟨w.heap.size, 7, none⟩ = some (.int .u8 0))
    (first | exact held8 G1.out (Below.refl _ _).drew | exact held8 G1.out (Below.refl _ _) | exact held8 G1.out (kept_trans (And.left (by assumption)) hb))
    (first
      | (go_at_call 8; with_reducible refine (HZ.out _).mono ?_; rintro e wa ⟨rfl, rfl⟩)
      | (go_at_call 7; with_reducible refine (HP.out _ (kept_trans K1.out (And.left (by assumption)))).mono ?_; rintro e wb ⟨v, rfl, ho, hb⟩))
  have hS := And.left (by assumption : Below w1.heap.size w1 _ ∧ _)
  have K2 := kept_hid K1 hS
  obtain ⟨c0, c1, c2, c3, c4, c5, c6, c7⟩ := cells8 (blk G1.out hS)
  have l2 : w.heap.size < wb.heap.size := there_lt (blk G1.out hS)
  obtain ⟨va, vc, rfl⟩ := own_form ho
  obtain ⟨g, rfl, hgl, d0⟩ := own_at (i := 0) ho (by decide)
  have d0 : wb.cell? ⟨g, 0, none⟩ = some (.int .u8 5) := d0
  clear ho
  go_wp2_with fail
  go_ret
  exact ⟨rfl, (kept_alloc (kept_alloc K2 _) _).out⟩
set_option maxRecDepth 100000 in
set_option maxHeartbeats 4000000 in
theorem len_6 (ad : Option Addr) (len cap nn z : Nat) (a c : Nat) (w : World) (hB : BytesIn w (.slice ad len cap) []) (hl : len ≤ 300) (hnn : nn < 65536) (hzz : 1 + nn % 16383 = z) (ha : a < z) (hc : c < 256) (h0 : wrong ⟨6, [], false, false, 0, false, (a : Int), c⟩ z = 0) :
    Calls Try.prog 5 #[.agg #[.int .i64 6, .slice ad len cap, .bool false, .bool false, .int .i64 0, .bool false, .int .i64 (a : Int), .int .u8 (c : Int)], .int .u16 (nn : Int)] w fun e w' => e = .returned (.bool true) ∧ Below w.heap.size w w' := by
  have HG := Lib.hid (heap_alloc_new w (.cells #[.int .i64 6, .slice ad len cap, .bool false, .bool false, .int .i64 0, .bool false, .int .i64 (a : Int), .int .u8 (c : Int)] 26))
  have HA := Lib.hid (al_any w (.cells #[.int .i64 6, .slice ad len cap, .bool false, .bool false, .int .i64 0, .bool false, .int .i64 (a : Int), .int .u8 (c : Int)] 26))
  have HZ := Lib.hid fun W => size_any nn W hnn
  have hz := hzz
  rw [hzz] at HZ
  have hg : decide ((300 : Int) < (len : Int)) = false := by simp; omega
  have HP := Lib.hid fun W hb => put_6 ad len cap z a c W  (bytes_below hB hb) ha hc h0 (by omega) (by omega)
  clear hB h0 ha hc
  clear hz hzz
  go_enter Try.func5, Try.ntmps5
  go_wp2_with fail
  with_reducible refine (awake_any _).mono ?_
  rintro e w1 ⟨rfl, hb⟩
  have K1 := kept_hid HA hb
  have G1 := Lib.hid (blk HG.out hb)
  clear HA HG hb
  obtain ⟨c0, c1, c2, c3, c4, c5, c6, c7⟩ := cells8 G1.out
  go_wp2_with fail
  clear c0 c1 c2 c3 c4 c5 c6 c7
  go_region_held3 (fun w' => Below w1.heap.size w1 w' ∧ w'.cell? ⟨w.heap.size, 0, none⟩ = some (.int .i64 6) ∧ w'.cell? ⟨w.heap.size, 1, none⟩ = some (.slice ad len cap) ∧ w'.cell? ⟨w.heap.size, 2, none⟩ = some (.bool false) ∧ w'.cell? ⟨w.heap.size, 3, none⟩ = some (.bool false) ∧ w'.cell? ⟨w.heap.size, 4, none⟩ = some (.int .i64 0) ∧ w'.cell? ⟨w.heap.size, 5, none⟩ = some (.bool false) ∧ w'.cell? ⟨w.heap.size, 6, none⟩ = some (.int .i64 (a : Int)) ∧ w'.cell? ⟨w.heap.size, 7, none⟩ = some (.int .u8 (c : Int)))
    (first | exact held8 G1.out (Below.refl _ _).drew | exact held8 G1.out (Below.refl _ _) | exact held8 G1.out (kept_trans (And.left (by assumption)) hb))
    (first
      | (go_at_call 8; with_reducible refine (HZ.out _).mono ?_; rintro e wa ⟨rfl, rfl⟩)
      | (go_at_call 7; with_reducible refine (HP.out _ (kept_trans K1.out (And.left (by assumption)))).mono ?_; rintro e wb ⟨v, rfl, ho, hb⟩))
  have hS := And.left (by assumption : Below w1.heap.size w1 _ ∧ _)
  have K2 := kept_hid K1 hS
  obtain ⟨c0, c1, c2, c3, c4, c5, c6, c7⟩ := cells8 (blk G1.out hS)
  have l2 : w.heap.size < wb.heap.size := there_lt (blk G1.out hS)
  obtain ⟨va, vc, rfl⟩ := own_form ho
  obtain ⟨g, rfl, hgl, d0⟩ := own_at (i := 0) ho (by decide)
  have d0 : wb.cell? ⟨g, 0, none⟩ = some (.int .u8 60) := d0
  clear ho
  go_wp2_with fail
  go_ret
  exact ⟨rfl, (kept_alloc (kept_alloc K2 _) _).out⟩
set_option maxRecDepth 100000 in
set_option maxHeartbeats 4000000 in
theorem len_7 (ad : Option Addr) (len cap nn z : Nat) (a : Nat) (w : World) (hB : BytesIn w (.slice ad len cap) []) (hl : len ≤ 300) (hnn : nn < 65536) (hzz : 1 + nn % 16383 = z) (ha : a < z) (h0 : wrong ⟨7, [], false, false, 0, false, (a : Int), 0⟩ z = 0) :
    Calls Try.prog 5 #[.agg #[.int .i64 7, .slice ad len cap, .bool false, .bool false, .int .i64 0, .bool false, .int .i64 (a : Int), .int .u8 0], .int .u16 (nn : Int)] w fun e w' => e = .returned (.bool true) ∧ Below w.heap.size w w' := by
  have HG := Lib.hid (heap_alloc_new w (.cells #[.int .i64 7, .slice ad len cap, .bool false, .bool false, .int .i64 0, .bool false, .int .i64 (a : Int), .int .u8 0] 26))
  have HA := Lib.hid (al_any w (.cells #[.int .i64 7, .slice ad len cap, .bool false, .bool false, .int .i64 0, .bool false, .int .i64 (a : Int), .int .u8 0] 26))
  have HZ := Lib.hid fun W => size_any nn W hnn
  have hz := hzz
  rw [hzz] at HZ
  have hg : decide ((300 : Int) < (len : Int)) = false := by simp; omega
  have HP := Lib.hid fun W hb => put_7 ad len cap z a W  (bytes_below hB hb) ha h0 (by omega) (by omega)
  clear hB h0 ha
  clear hz hzz
  go_enter Try.func5, Try.ntmps5
  go_wp2_with fail
  with_reducible refine (awake_any _).mono ?_
  rintro e w1 ⟨rfl, hb⟩
  have K1 := kept_hid HA hb
  have G1 := Lib.hid (blk HG.out hb)
  clear HA HG hb
  obtain ⟨c0, c1, c2, c3, c4, c5, c6, c7⟩ := cells8 G1.out
  go_wp2_with fail
  clear c0 c1 c2 c3 c4 c5 c6 c7
  go_region_held3 (fun w' => Below w1.heap.size w1 w' ∧ w'.cell? ⟨w.heap.size, 0, none⟩ = some (.int .i64 7) ∧ w'.cell? ⟨w.heap.size, 1, none⟩ = some (.slice ad len cap) ∧ w'.cell? ⟨w.heap.size, 2, none⟩ = some (.bool false) ∧ w'.cell? ⟨w.heap.size, 3, none⟩ = some (.bool false) ∧ w'.cell? ⟨w.heap.size, 4, none⟩ = some (.int .i64 0) ∧ w'.cell? ⟨w.heap.size, 5, none⟩ = some (.bool false) ∧ w'.cell? ⟨w.heap.size, 6, none⟩ = some (.int .i64 (a : Int)) ∧ w'.cell? ⟨w.heap.size, 7, none⟩ = some (.int .u8 0))
    (first | exact held8 G1.out (Below.refl _ _).drew | exact held8 G1.out (Below.refl _ _) | exact held8 G1.out (kept_trans (And.left (by assumption)) hb))
    (first
      | (go_at_call 8; with_reducible refine (HZ.out _).mono ?_; rintro e wa ⟨rfl, rfl⟩)
      | (go_at_call 7; with_reducible refine (HP.out _ (kept_trans K1.out (And.left (by assumption)))).mono ?_; rintro e wb ⟨v, rfl, ho, hb⟩))
  have hS := And.left (by assumption : Below w1.heap.size w1 _ ∧ _)
  have K2 := kept_hid K1 hS
  obtain ⟨c0, c1, c2, c3, c4, c5, c6, c7⟩ := cells8 (blk G1.out hS)
  have l2 : w.heap.size < wb.heap.size := there_lt (blk G1.out hS)
  obtain ⟨va, vc, rfl⟩ := own_form ho
  obtain ⟨g, rfl, hgl, d0⟩ := own_at (i := 0) ho (by decide)
  have d0 : wb.cell? ⟨g, 0, none⟩ = some (.int .u8 18) := d0
  clear ho
  go_wp2_with fail
  go_ret
  exact ⟨rfl, (kept_alloc (kept_alloc K2 _) _).out⟩
set_option maxHeartbeats 1000000 in
theorem len_long (k : Int) (ad : Option Addr) (len cap : Nat) (p n : Bool) (s : Int) (m : Bool) (a c nn : Int) (w : World) (hl : 300 < len) :
    Calls Try.prog 5 #[.agg #[.int .i64 k, .slice ad len cap, .bool p, .bool n, .int .i64 s, .bool m, .int .i64 a, .int .u8 c], .int .u16 nn] w fun e w' => e = .returned (.bool true) ∧ Below w.heap.size w w' := by
  have HG := Lib.hid (heap_alloc_new w (.cells #[.int .i64 k, .slice ad len cap, .bool p, .bool n, .int .i64 s, .bool m, .int .i64 a, .int .u8 c] 26))
  have HA := Lib.hid (al_any w (.cells #[.int .i64 k, .slice ad len cap, .bool p, .bool n, .int .i64 s, .bool m, .int .i64 a, .int .u8 c] 26))
  have hg : decide ((300 : Int) < (len : Int)) = true := by simp; omega
  go_enter Try.func5, Try.ntmps5
  go_wp2_with fail
  with_reducible refine (awake_any _).mono ?_
  rintro e w1 ⟨rfl, hb⟩
  have K1 := kept_hid HA hb
  obtain ⟨c0, c1, c2, c3, c4, c5, c6, c7⟩ := cells8 (blk HG.out hb)
  clear HA HG hb
  go_wp2_with fail
  with_reducible refine (awake_any _).mono ?_
  rintro e w2 ⟨rfl, hb⟩
  have K2 := kept_hid K1 hb
  clear hb c0 c1 c2 c3 c4 c5 c6 c7
  go_wp2_with fail
  go_ret
  exact ⟨rfl, K2.out⟩
/-- OrderLengths returns true. -/
theorem len_any (k : Int) (ad : Option Addr) (len cap : Nat) (zs : List Int) (p n : Bool) (s : Int) (m : Bool) (a c nn : Int) (w : World) (hr : IsRow .u8 w ad len cap zs) (hc : (Lit.int .u8 c).wf = true) (hn : (Lit.int .u16 nn).wf = true) :
    Calls Try.prog 5 #[.agg #[.int .i64 k, .slice ad len cap, .bool p, .bool n, .int .i64 s, .bool m, .int .i64 a, .int .u8 c], .int .u16 nn] w fun e w' => e = .returned (.bool true) ∧ Below w.heap.size w w' := by
  by_cases hl : 300 < len
  · exact len_long k ad len cap p n s m a c nn w hl
  obtain ⟨t, htl, h8, hB⟩ := isRow_bytes hr
  have hnone := isRow_nil hr
  obtain ⟨c, rfl⟩ := Int.eq_ofNat_of_zero_le (a := c) (by have := wf_u8 hc; omega)
  obtain ⟨nn, rfl⟩ := Int.eq_ofNat_of_zero_le (a := nn) (by have := wf_u16 hn; omega)
  have hc : c < 256 := by have := wf_u8 hc; omega
  have hn : nn < 65536 := by have := wf_u16 hn; omega
  by_cases h0 : wrong ⟨k, t, p, n, s, m, a, c⟩ (1 + nn % 16383) = 0
  · rcases right_cases h0 with ⟨t', he, _, _⟩ | ⟨p', n', m', s', he, hs⟩ | ⟨a', he, ha⟩ | he | he | ⟨a', c', he, ha, _⟩ | ⟨a', he, ha⟩
    · injection he with e1 e2 e3 e4 e5 e6 e7 e8
      subst e1 e2 e3 e4 e5 e6 e7 e8
      exact len_1 ad len cap nn _ w t h8 hnone hB (by omega) hn rfl h0
    · injection he with e1 e2 e3 e4 e5 e6 e7 e8
      subst e1 e2 e3 e4 e5 e6 e7 e8
      exact len_2 ad len cap nn _ p n m s' w hB (by omega) hn rfl hs h0
    · injection he with e1 e2 e3 e4 e5 e6 e7 e8
      subst e1 e2 e3 e4 e5 e6 e7 e8
      exact len_3 ad len cap nn _ a' w hB (by omega) hn rfl ha h0
    · injection he with e1 e2 e3 e4 e5 e6 e7 e8
      subst e1 e2 e3 e4 e5 e6 e7 e8
      exact len_4 ad len cap nn _ w hB (by omega) hn rfl h0
    · injection he with e1 e2 e3 e4 e5 e6 e7 e8
      subst e1 e2 e3 e4 e5 e6 e7 e8
      exact len_5 ad len cap nn _ w hB (by omega) hn rfl h0
    · injection he with e1 e2 e3 e4 e5 e6 e7 e8
      subst e1 e2 e3 e4 e5 e6 e7 e8
      exact len_6 ad len cap nn _ a' c w hB (by omega) hn rfl ha hc h0
    · injection he with e1 e2 e3 e4 e5 e6 e7 e8
      subst e1 e2 e3 e4 e5 e6 e7 e8
      exact len_7 ad len cap nn _ a' w hB (by omega) hn rfl ha h0
  · exact len_wrong ⟨k, t, p, n, s, m, a, c⟩ ad len cap nn w hB h8 (by omega) hc hn h0
end Ord
end Go.Proofs.Ytllpmgddcpgegaa
