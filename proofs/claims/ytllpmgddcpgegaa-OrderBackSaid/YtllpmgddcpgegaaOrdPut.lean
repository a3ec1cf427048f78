/- Put of package order: an order's bytes, in new memory. Written by tools/gen_ord_put.py. -/
import Derived.Test.YtllpmgddcpgegaaOrdRight
import Derived.Test.YtllpmgddcpgegaaLit
import Derived.Test.YtllpmgddcpgegaaBytLeaf
import Derived.Test.YtllpmgddcpgegaaOrdBegin
namespace Go.Proofs.Ytllpmgddcpgegaa
open Go.RowKit Sha Cut Err Six Att Apd
namespace Ord
set_option maxRecDepth 100000 in
set_option maxHeartbeats 4000000 in
theorem put_1 (ad : Option Addr) (len cap z : Nat)  (w : World) (t : List Nat) (h8 : ∀ x ∈ t, x < 256) (hl : t.length < 1000000) (hn : ad = none → len = 0 ∧ cap = 0) (hB : BytesIn w (.slice ad len cap) t)  (h0 : wrong ⟨1, t, false, false, 0, false, 0, 0⟩ z = 0) (h1 : 1 ≤ z) (h2 : z ≤ 16383) :
    Calls Try.prog 7 #[.agg #[.int .i64 1, .slice ad len cap, .bool false, .bool false, .int .i64 0, .bool false, .int .i64 0, .int .u8 0], .int .i64 (z : Int)] w fun e w' => ∃ v, e = .returned (.tuple #[v, .nilIface]) ∧ w'.ownsRow w.heap.size 5 1 v t.length (u8s t) ∧ Below w.heap.size w w' := by
  have HA : Hid (Below w.heap.size w (w.alloc (.cells #[.int .i64 1, .slice ad len cap, .bool false, .bool false, .int .i64 0, .bool false, .int .i64 0, .int .u8 0] 26))) := (Below.refl _ _).alloc (Nat.le_refl _) _
  have HG := Lib.hid (heap_alloc_new w (.cells #[.int .i64 1, .slice ad len cap, .bool false, .bool false, .int .i64 0, .bool false, .int .i64 0, .int .u8 0] 26))
  have HR := Lib.hid fun W hb => right_any ⟨1, t, false, false, 0, false, 0, 0⟩ ad len cap z W (bytes_below hB hb) h8 hl (by show (0 : Nat) < 256; decide) h1 h2
  simp only [h0, errv_0, show ((0 : Nat) : Int) = 0 from rfl] at HR
  have HB := Lib.hid hB
  have HN := Lib.hid hn
  have H8 := Lib.hid h8
  clear hn h8
  clear hB h0
  go_enter Try.func7, Try.ntmps7
  go_wp2_with fail
  generalize w.alloc (.cells #[.int .i64 1, .slice ad len cap, .bool false, .bool false, .int .i64 0, .bool false, .int .i64 0, .int .u8 0] 26) = w1 at HA HG ⊢
  with_reducible refine (HR.out _ HA.out).mono ?_
  rintro e w2 ⟨rfl, hb⟩
  have K2 := Lib.hid hb
  obtain ⟨c0, c1, c2, c3, c4, c5, c6, c7⟩ := cells8 (blk HG.out K2.out)
  have l2 : w.heap.size < w2.heap.size := Byt.lt_heap (blk HG.out K2.out)
  clear hb HR
  go_wp2_with fail
  have hlen : t.length = len := by obtain ⟨_, _, hv, _⟩ := HB.out; injection hv with _ e2 _; exact e2.symm
  subst hlen
  with_reducible refine (Byt.clone_any ad _ cap t _ (bytes_below HB.out (kept_hid HA K2.out).out) HN.out (by omega)).mono ?_
  rintro e w3 ⟨v, rfl, ho, hb⟩
  have K3 := kept_hid K2 hb
  have HO := Lib.hid (own_mono (b := w.heap.size) ho (Nat.le_trans HA.out.size K2.out.size))
  obtain ⟨va, vc, rfl⟩ := own_form ho
  clear ho hb c0 c1 c2 c3 c4 c5 c6 c7
  go_wp2_with fail
  go_ret2
  exact ⟨_, rfl, HO.out, (kept_hid HA K3.out).out⟩
set_option maxRecDepth 100000 in
set_option maxHeartbeats 4000000 in
theorem put_2 (ad : Option Addr) (len cap z : Nat) (p n m : Bool) (s : Nat) (w : World) (hB : BytesIn w (.slice ad len cap) []) (hs : s < 4) (h0 : wrong ⟨2, [], p, n, (s : Int), m, 0, 0⟩ z = 0) (h1 : 1 ≤ z) (h2 : z ≤ 16383) :
    Calls Try.prog 7 #[.agg #[.int .i64 2, .slice ad len cap, .bool p, .bool n, .int .i64 (s : Int), .bool m, .int .i64 0, .int .u8 0], .int .i64 (z : Int)] w fun e w' => ∃ v, e = .returned (.tuple #[v, .nilIface]) ∧ w'.ownsRow w.heap.size 5 1 v 2 (u8s [29, put (num p n m s)]) ∧ Below w.heap.size w w' := by
  have HA : Hid (Below w.heap.size w (w.alloc (.cells #[.int .i64 2, .slice ad len cap, .bool p, .bool n, .int .i64 (s : Int), .bool m, .int .i64 0, .int .u8 0] 26))) := (Below.refl _ _).alloc (Nat.le_refl _) _
  have HG := Lib.hid (heap_alloc_new w (.cells #[.int .i64 2, .slice ad len cap, .bool p, .bool n, .int .i64 (s : Int), .bool m, .int .i64 0, .int .u8 0] 26))
  have HR := Lib.hid fun W hb => right_any ⟨2, [], p, n, (s : Int), m, 0, 0⟩ ad len cap z W (bytes_below hB hb) (by simp) (by show (0 : Nat) < 1000000; decide) (by show (0 : Nat) < 256; decide) h1 h2
  simp only [h0, errv_0, show ((0 : Nat) : Int) = 0 from rfl] at HR
  clear hB h0
  go_enter Try.func7, Try.ntmps7
  go_wp2_with fail
  generalize w.alloc (.cells #[.int .i64 2, .slice ad len cap, .bool p, .bool n, .int .i64 (s : Int), .bool m, .int .i64 0, .int .u8 0] 26) = w1 at HA HG ⊢
  with_reducible refine (HR.out _ HA.out).mono ?_
  rintro e w2 ⟨rfl, hb⟩
  have K2 := Lib.hid hb
  obtain ⟨c0, c1, c2, c3, c4, c5, c6, c7⟩ := cells8 (blk HG.out K2.out)
  have l2 : w.heap.size < w2.heap.size := Byt.lt_heap (blk HG.out K2.out)
  clear hb HR
  go_wp2_with fail
  with_reducible refine (begins_2 _).mono ?_
  rintro e w' ⟨rfl, rfl⟩
  go_wp2_with fail
  with_reducible refine (put_ok p n m s _ hs).mono ?_
  rintro e w3 ⟨rfl, hb⟩
  have K3 := kept_hid (kept_alloc K2 _) hb
  have HO := Lib.hid (own_below (own_lit w2 w1.heap.size [29] K2.out.size (by decide)) hb)
  clear hb c0 c1 c2 c3 c4 c5 c6 c7
  have HS := Lib.hid (bytes_src (lit_in w3 [put (num p n m s)]))
  go_wp2_with (at_builtin; refine wpList_mark ?_)
  refine Lib.hid ?_
  refine append_own rfl (.tmp 38) (.tmp 40) rfl w1.heap.size _ 1 _ rfl (own_below HO.out (al_any _ _)) (some ⟨w3.heap.size, 0, none⟩) 1 1 [put (num p n m s)] rfl rfl nofun HS.out (by decide) ?_ ?_
  · exact Nat.le_trans K3.out.size (by simp)
  intro v4 w4 hown hgr _
  have HO4 := Lib.hid (show w4.ownsRow w1.heap.size 5 1 v4 2 (u8s [29, put (num p n m s)]) from hown)
  have K4 := Lib.hid (below_own (kept_alloc K3 _).out hgr (own_below HO.out (al_any _ _)))
  obtain ⟨va, vc, rfl⟩ := own_form hown
  obtain ⟨c0, c1, c2, c3, c4, c5, c6, c7⟩ := cells8 (blk HG.out K4.out)
  have l4 : w.heap.size < w4.heap.size := Byt.lt_heap (blk HG.out K4.out)
  clear hown hgr HO HS K3
  go_wp2_with fail
  go_ret2
  exact ⟨_, rfl, own_mono HO4.out HA.out.size, (kept_hid HA K4.out).out⟩
set_option maxRecDepth 100000 in
set_option maxHeartbeats 4000000 in
theorem put_3 (ad : Option Addr) (len cap z : Nat) (a : Nat) (w : World) (hB : BytesIn w (.slice ad len cap) []) (ha : a < z) (h0 : wrong ⟨3, [], false, false, 0, false, (a : Int), 0⟩ z = 0) (h1 : 1 ≤ z) (h2 : z ≤ 16383) :
    Calls Try.prog 7 #[.agg #[.int .i64 3, .slice ad len cap, .bool false, .bool false, .int .i64 0, .bool false, .int .i64 (a : Int), .int .u8 0], .int .i64 (z : Int)] w fun e w' => ∃ v, e = .returned (.tuple #[v, .nilIface]) ∧ w'.ownsRow w.heap.size 5 1 v 3 (u8s [17, Adr.first a z, Adr.second a z]) ∧ Below w.heap.size w w' := by
  have HA : Hid (Below w.heap.size w (w.alloc (.cells #[.int .i64 3, .slice ad len cap, .bool false, .bool false, .int .i64 0, .bool false, .int .i64 (a : Int), .int .u8 0] 26))) := (Below.refl _ _).alloc (Nat.le_refl _) _
  have HG := Lib.hid (heap_alloc_new w (.cells #[.int .i64 3, .slice ad len cap, .bool false, .bool false, .int .i64 0, .bool false, .int .i64 (a : Int), .int .u8 0] 26))
  have HR := Lib.hid fun W hb => right_any ⟨3, [], false, false, 0, false, (a : Int), 0⟩ ad len cap z W (bytes_below hB hb) (by simp) (by show (0 : Nat) < 1000000; decide) (by show (0 : Nat) < 256; decide) h1 h2
  simp only [h0, errv_0, show ((0 : Nat) : Int) = 0 from rfl] at HR
  clear hB h0
  go_enter Try.func7, Try.ntmps7
  go_wp2_with fail
  generalize w.alloc (.cells #[.int .i64 3, .slice ad len cap, .bool false, .bool false, .int .i64 0, .bool false, .int .i64 (a : Int), .int .u8 0] 26) = w1 at HA HG ⊢
  with_reducible refine (HR.out _ HA.out).mono ?_
  rintro e w2 ⟨rfl, hb⟩
  have K2 := Lib.hid hb
  obtain ⟨c0, c1, c2, c3, c4, c5, c6, c7⟩ := cells8 (blk HG.out K2.out)
  have l2 : w.heap.size < w2.heap.size := Byt.lt_heap (blk HG.out K2.out)
  clear hb HR
  go_wp2_with fail
  with_reducible refine (begins_3 _).mono ?_
  rintro e w' ⟨rfl, rfl⟩
  go_wp2_with fail
  with_reducible refine (Adr.put_all a z _ ha h2).mono ?_
  rintro e w3 ⟨rfl, hb⟩
  have K3 := kept_hid (kept_alloc K2 _) hb
  have HO := Lib.hid (own_below (own_lit w2 w1.heap.size [17] K2.out.size (by decide)) hb)
  clear hb c0 c1 c2 c3 c4 c5 c6 c7
  have HT := Lib.hid (heap_alloc_new w3 (.cells #[.int .u8 (Adr.first a z : Nat), .int .u8 (Adr.second a z : Nat)] 50))
  have HS := Lib.hid (bytes_src (two_in HT.out))
  go_wp2_with (at_builtin; refine wpList_mark ?_)
  refine Lib.hid ?_
  refine append_own rfl (.tmp 53) (.tmp 54) rfl w1.heap.size _ 1 _ rfl (own_below HO.out (al_any _ _)) (some ⟨w3.heap.size, 0, none⟩) 2 2 [Adr.first a z, Adr.second a z] rfl rfl nofun HS.out (by decide) ?_ ?_
  · exact Nat.le_trans K3.out.size (by simp)
  intro v4 w4 hown hgr _
  have HO4 := Lib.hid (show w4.ownsRow w1.heap.size 5 1 v4 3 (u8s [17, Adr.first a z, Adr.second a z]) from hown)
  have K4 := Lib.hid (below_own (kept_alloc K3 _).out hgr (own_below HO.out (al_any _ _)))
  obtain ⟨va, vc, rfl⟩ := own_form hown
  obtain ⟨c0, c1, c2, c3, c4, c5, c6, c7⟩ := cells8 (blk HG.out K4.out)
  have l4 : w.heap.size < w4.heap.size := Byt.lt_heap (blk HG.out K4.out)
  clear hown hgr HO HS HT K3
  go_wp2_with fail
  go_ret2
  exact ⟨_, rfl, own_mono HO4.out HA.out.size, (kept_hid HA K4.out).out⟩
set_option maxRecDepth 100000 in
set_option maxHeartbeats 4000000 in
theorem put_4 (ad : Option Addr) (len cap z : Nat)  (w : World) (hB : BytesIn w (.slice ad len cap) [])  (h0 : wrong ⟨4, [], false, false, 0, false, 0, 0⟩ z = 0) (h1 : 1 ≤ z) (h2 : z ≤ 16383) :
    Calls Try.prog 7 #[.agg #[.int .i64 4, .slice ad len cap, .bool false, .bool false, .int .i64 0, .bool false, .int .i64 0, .int .u8 0], .int .i64 (z : Int)] w fun e w' => ∃ v, e = .returned (.tuple #[v, .nilIface]) ∧ w'.ownsRow w.heap.size 5 1 v 1 (u8s [19]) ∧ Below w.heap.size w w' := by
  have HA : Hid (Below w.heap.size w (w.alloc (.cells #[.int .i64 4, .slice ad len cap, .bool false, .bool false, .int .i64 0, .bool false, .int .i64 0, .int .u8 0] 26))) := (Below.refl _ _).alloc (Nat.le_refl _) _
  have HG := Lib.hid (heap_alloc_new w (.cells #[.int .i64 4, .slice ad len cap, .bool false, .bool false, .int .i64 0, .bool false, .int .i64 0, .int .u8 0] 26))
  have HR := Lib.hid fun W hb => right_any ⟨4, [], false, false, 0, false, 0, 0⟩ ad len cap z W (bytes_below hB hb) (by simp) (by show (0 : Nat) < 1000000; decide) (by show (0 : Nat) < 256; decide) h1 h2
  simp only [h0, errv_0, show ((0 : Nat) : Int) = 0 from rfl] at HR
  clear hB h0
  go_enter Try.func7, Try.ntmps7
  go_wp2_with fail
  generalize w.alloc (.cells #[.int .i64 4, .slice ad len cap, .bool false, .bool false, .int .i64 0, .bool false, .int .i64 0, .int .u8 0] 26) = w1 at HA HG ⊢
  with_reducible refine (HR.out _ HA.out).mono ?_
  rintro e w2 ⟨rfl, hb⟩
  have K2 := Lib.hid hb
  obtain ⟨c0, c1, c2, c3, c4, c5, c6, c7⟩ := cells8 (blk HG.out K2.out)
  have l2 : w.heap.size < w2.heap.size := Byt.lt_heap (blk HG.out K2.out)
  clear hb HR
  go_wp2_with fail
  with_reducible refine (begins_4 _).mono ?_
  rintro e w' ⟨rfl, rfl⟩
  have HO := Lib.hid (own_mono (b := w.heap.size) (own_lit w2 w1.heap.size [19] K2.out.size (by decide)) HA.out.size)
  have K3 := kept_alloc K2 (.cells #[.int .u8 19] 5)
  go_wp2_with fail
  go_ret2
  exact ⟨_, rfl, HO.out, (kept_hid HA K3.out).out⟩
set_option maxRecDepth 100000 in
set_option maxHeartbeats 4000000 in
theorem put_5 (ad : Option Addr) (len cap z : Nat)  (w : World) (hB : BytesIn w (.slice ad len cap) [])  (h0 : wrong ⟨5, [], false, false, 0, false, 0, 0⟩ z = 0) (h1 : 1 ≤ z) (h2 : z ≤ 16383) :
    Calls Try.prog 7 #[.agg #[.int .i64 5, .slice ad len cap, .bool false, .bool false, .int .i64 0, .bool false, .int .i64 0, .int .u8 0], .int .i64 (z : Int)] w fun e w' => ∃ v, e = .returned (.tuple #[v, .nilIface]) ∧ w'.ownsRow w.heap.size 5 1 v 1 (u8s [5]) ∧ Below w.heap.size w w' := by
  have HA : Hid (Below w.heap.size w (w.alloc (.cells #[.int .i64 5, .slice ad len cap, .bool false, .bool false, .int .i64 0, .bool false, .int .i64 0, .int .u8 0] 26))) := (Below.refl _ _).alloc (Nat.le_refl _) _
  have HG := Lib.hid (heap_alloc_new w (.cells #[.int .i64 5, .slice ad len cap, .bool false, .bool false, .int .i64 0, .bool false, .int .i64 0, .int .u8 0] 26))
  have HR := Lib.hid fun W hb => right_any ⟨5, [], false, false, 0, false, 0, 0⟩ ad len cap z W (bytes_below hB hb) (by simp) (by show (0 : Nat) < 1000000; decide) (by show (0 : Nat) < 256; decide) h1 h2
  simp only [h0, errv_0, show ((0 : Nat) : Int) = 0 from rfl] at HR
  clear hB h0
  go_enter Try.func7, Try.ntmps7
  go_wp2_with fail
  generalize w.alloc (.cells #[.int .i64 5, .slice ad len cap, .bool false, .bool false, .int .i64 0, .bool false, .int .i64 0, .int .u8 0] 26) = w1 at HA HG ⊢
  with_reducible refine (HR.out _ HA.out).mono ?_
  rintro e w2 ⟨rfl, hb⟩
  have K2 := Lib.hid hb
  obtain ⟨c0, c1, c2, c3, c4, c5, c6, c7⟩ := cells8 (blk HG.out K2.out)
  have l2 : w.heap.size < w2.heap.size := Byt.lt_heap (blk HG.out K2.out)
  clear hb HR
  go_wp2_with fail
  with_reducible refine (begins_5 _).mono ?_
  rintro e w' ⟨rfl, rfl⟩
  have HO := Lib.hid (own_mono (b := w.heap.size) (own_lit w2 w1.heap.size [5] K2.out.size (by decide)) HA.out.size)
  have K3 := kept_alloc K2 (.cells #[.int .u8 5] 5)
  go_wp2_with fail
  go_ret2
  exact ⟨_, rfl, HO.out, (kept_hid HA K3.out).out⟩
set_option maxRecDepth 100000 in
set_option maxHeartbeats 4000000 in
theorem put_6 (ad : Option Addr) (len cap z : Nat) (a c : Nat) (w : World) (hB : BytesIn w (.slice ad len cap) []) (ha : a < z) (hc : c < 256) (h0 : wrong ⟨6, [], false, false, 0, false, (a : Int), c⟩ z = 0) (h1 : 1 ≤ z) (h2 : z ≤ 16383) :
    Calls Try.prog 7 #[.agg #[.int .i64 6, .slice ad len cap, .bool false, .bool false, .int .i64 0, .bool false, .int .i64 (a : Int), .int .u8 (c : Int)], .int .i64 (z : Int)] w fun e w' => ∃ v, e = .returned (.tuple #[v, .nilIface]) ∧ w'.ownsRow w.heap.size 5 1 v 4 (u8s [60, Adr.first a z, Adr.second a z, c]) ∧ Below w.heap.size w w' := by
  have HA : Hid (Below w.heap.size w (w.alloc (.cells #[.int .i64 6, .slice ad len cap, .bool false, .bool false, .int .i64 0, .bool false, .int .i64 (a : Int), .int .u8 (c : Int)] 26))) := (Below.refl _ _).alloc (Nat.le_refl _) _
  have HG := Lib.hid (heap_alloc_new w (.cells #[.int .i64 6, .slice ad len cap, .bool false, .bool false, .int .i64 0, .bool false, .int .i64 (a : Int), .int .u8 (c : Int)] 26))
  have HR := Lib.hid fun W hb => right_any ⟨6, [], false, false, 0, false, (a : Int), c⟩ ad len cap z W (bytes_below hB hb) (by simp) (by show (0 : Nat) < 1000000; decide) hc h1 h2
  simp only [h0, errv_0] at HR
  clear hB h0
  go_enter Try.func7, Try.ntmps7
  go_wp2_with fail
  generalize w.alloc (.cells #[.int .i64 6, .slice ad len cap, .bool false, .bool false, .int .i64 0, .bool false, .int .i64 (a : Int), .int .u8 (c : Int)] 26) = w1 at HA HG ⊢
  with_reducible refine (HR.out _ HA.out).mono ?_
  rintro e w2 ⟨rfl, hb⟩
  have K2 := Lib.hid hb
  obtain ⟨c0, c1, c2, c3, c4, c5, c6, c7⟩ := cells8 (blk HG.out K2.out)
  have l2 : w.heap.size < w2.heap.size := Byt.lt_heap (blk HG.out K2.out)
  clear hb HR
  go_wp2_with fail
  with_reducible refine (begins_6 _).mono ?_
  rintro e w' ⟨rfl, rfl⟩
  go_wp2_with fail
  with_reducible refine (Adr.put_all a z _ ha h2).mono ?_
  rintro e w3 ⟨rfl, hb⟩
  have K3 := kept_hid (kept_alloc K2 _) hb
  have HO := Lib.hid (own_below (own_lit w2 w1.heap.size [60] K2.out.size (by decide)) hb)
  clear hb c0 c1 c2 c3 c4 c5 c6 c7
  have HT := Lib.hid (heap_alloc_new w3 (.cells #[.int .u8 (Adr.first a z : Nat), .int .u8 (Adr.second a z : Nat)] 50))
  have HS := Lib.hid (bytes_src (two_in HT.out))
  go_wp2_with (at_builtin; refine wpList_mark ?_)
  refine Lib.hid ?_
  refine append_own rfl (.tmp 53) (.tmp 54) rfl w1.heap.size _ 1 _ rfl (own_below HO.out (al_any _ _)) (some ⟨w3.heap.size, 0, none⟩) 2 2 [Adr.first a z, Adr.second a z] rfl rfl nofun HS.out (by decide) ?_ ?_
  · exact Nat.le_trans K3.out.size (by simp)
  intro v4 w4 hown hgr _
  have HO4 := Lib.hid (show w4.ownsRow w1.heap.size 5 1 v4 3 (u8s [60, Adr.first a z, Adr.second a z]) from hown)
  have K4 := Lib.hid (below_own (kept_alloc K3 _).out hgr (own_below HO.out (al_any _ _)))
  obtain ⟨va, vc, rfl⟩ := own_form hown
  obtain ⟨c0, c1, c2, c3, c4, c5, c6, c7⟩ := cells8 (blk HG.out K4.out)
  have l4 : w.heap.size < w4.heap.size := Byt.lt_heap (blk HG.out K4.out)
  clear hown hgr HO HS HT K3
  have HS := Lib.hid (bytes_src (lit_in w4 [c]))
  go_wp2_with (at_builtin; refine wpList_mark ?_)
  refine Lib.hid ?_
  refine append_own rfl (.tmp 59) (.tmp 62) rfl w1.heap.size _ 3 _ rfl (own_below HO4.out (al_any _ _)) (some ⟨w4.heap.size, 0, none⟩) 1 1 [c] rfl rfl nofun HS.out (by decide) ?_ ?_
  · exact Nat.le_trans K4.out.size (by simp)
  intro v5 w5 hown hgr _
  have HO5 := Lib.hid (show w5.ownsRow w1.heap.size 5 1 v5 4 (u8s [60, Adr.first a z, Adr.second a z, c]) from hown)
  have K5 := Lib.hid (below_own (kept_alloc K4 _).out hgr (own_below HO4.out (al_any _ _)))
  obtain ⟨va5, vc5, rfl⟩ := own_form hown
  clear hown hgr HO4 HS K4 c0 c1 c2 c3 c4 c5 c6 c7
  go_wp2_with fail
  go_ret2
  exact ⟨_, rfl, own_mono HO5.out HA.out.size, (kept_hid HA K5.out).out⟩
set_option maxRecDepth 100000 in
set_option maxHeartbeats 4000000 in
theorem put_7 (ad : Option Addr) (len cap z : Nat) (a : Nat) (w : World) (hB : BytesIn w (.slice ad len cap) []) (ha : a < z) (h0 : wrong ⟨7, [], false, false, 0, false, (a : Int), 0⟩ z = 0) (h1 : 1 ≤ z) (h2 : z ≤ 16383) :
    Calls Try.prog 7 #[.agg #[.int .i64 7, .slice ad len cap, .bool false, .bool false, .int .i64 0, .bool false, .int .i64 (a : Int), .int .u8 0], .int .i64 (z : Int)] w fun e w' => ∃ v, e = .returned (.tuple #[v, .nilIface]) ∧ w'.ownsRow w.heap.size 5 1 v 3 (u8s [18, Adr.first a z, Adr.second a z]) ∧ Below w.heap.size w w' := by
  have HA : Hid (Below w.heap.size w (w.alloc (.cells #[.int .i64 7, .slice ad len cap, .bool false, .bool false, .int .i64 0, .bool false, .int .i64 (a : Int), .int .u8 0] 26))) := (Below.refl _ _).alloc (Nat.le_refl _) _
  have HG := Lib.hid (heap_alloc_new w (.cells #[.int .i64 7, .slice ad len cap, .bool false, .bool false, .int .i64 0, .bool false, .int .i64 (a : Int), .int .u8 0] 26))
  have HR := Lib.hid fun W hb => right_any ⟨7, [], false, false, 0, false, (a : Int), 0⟩ ad len cap z W (bytes_below hB hb) (by simp) (by show (0 : Nat) < 1000000; decide) (by show (0 : Nat) < 256; decide) h1 h2
  simp only [h0, errv_0, show ((0 : Nat) : Int) = 0 from rfl] at HR
  clear hB h0
  go_enter Try.func7, Try.ntmps7
  go_wp2_with fail
  generalize w.alloc (.cells #[.int .i64 7, .slice ad len cap, .bool false, .bool false, .int .i64 0, .bool false, .int .i64 (a : Int), .int .u8 0] 26) = w1 at HA HG ⊢
  with_reducible refine (HR.out _ HA.out).mono ?_
  rintro e w2 ⟨rfl, hb⟩
  have K2 := Lib.hid hb
  obtain ⟨c0, c1, c2, c3, c4, c5, c6, c7⟩ := cells8 (blk HG.out K2.out)
  have l2 : w.heap.size < w2.heap.size := Byt.lt_heap (blk HG.out K2.out)
  clear hb HR
  go_wp2_with fail
  with_reducible refine (begins_7 _).mono ?_
  rintro e w' ⟨rfl, rfl⟩
  go_wp2_with fail
  with_reducible refine (Adr.put_all a z _ ha h2).mono ?_
  rintro e w3 ⟨rfl, hb⟩
  have K3 := kept_hid (kept_alloc K2 _) hb
  have HO := Lib.hid (own_below (own_lit w2 w1.heap.size [18] K2.out.size (by decide)) hb)
  clear hb c0 c1 c2 c3 c4 c5 c6 c7
  have HT := Lib.hid (heap_alloc_new w3 (.cells #[.int .u8 (Adr.first a z : Nat), .int .u8 (Adr.second a z : Nat)] 50))
  have HS := Lib.hid (bytes_src (two_in HT.out))
  go_wp2_with (at_builtin; refine wpList_mark ?_)
  refine Lib.hid ?_
  refine append_own rfl (.tmp 53) (.tmp 54) rfl w1.heap.size _ 1 _ rfl (own_below HO.out (al_any _ _)) (some ⟨w3.heap.size, 0, none⟩) 2 2 [Adr.first a z, Adr.second a z] rfl rfl nofun HS.out (by decide) ?_ ?_
  · exact Nat.le_trans K3.out.size (by simp)
  intro v4 w4 hown hgr _
  have HO4 := Lib.hid (show w4.ownsRow w1.heap.size 5 1 v4 3 (u8s [18, Adr.first a z, Adr.second a z]) from hown)
  have K4 := Lib.hid (below_own (kept_alloc K3 _).out hgr (own_below HO.out (al_any _ _)))
  obtain ⟨va, vc, rfl⟩ := own_form hown
  obtain ⟨c0, c1, c2, c3, c4, c5, c6, c7⟩ := cells8 (blk HG.out K4.out)
  have l4 : w.heap.size < w4.heap.size := Byt.lt_heap (blk HG.out K4.out)
  clear hown hgr HO HS HT K3
  go_wp2_with fail
  go_ret2
  exact ⟨_, rfl, own_mono HO4.out HA.out.size, (kept_hid HA K4.out).out⟩
/-- Put of an order that isn't wrong. -/
theorem put_right (o : O) (ad : Option Addr) (len cap z : Nat) (w : World) (hB : BytesIn w (.slice ad len cap) o.t) (h8 : ∀ x ∈ o.t, x < 256) (hl : o.t.length < 1000000) (hn : ad = none → len = 0 ∧ cap = 0) (hc : o.c < 256) (h0 : wrong o z = 0) (h1 : 1 ≤ z) (h2 : z ≤ 16383) :
    Calls Try.prog 7 #[.agg #[.int .i64 o.k, .slice ad len cap, .bool o.p, .bool o.n, .int .i64 o.s, .bool o.m, .int .i64 o.a, .int .u8 (o.c : Int)], .int .i64 (z : Int)] w fun e w' => ∃ v, e = .returned (.tuple #[v, .nilIface]) ∧ w'.ownsRow w.heap.size 5 1 v (obytes o z).length (u8s (obytes o z)) ∧ Below w.heap.size w w' := by
  rcases right_cases h0 with ⟨t, rfl, _, _⟩ | ⟨p, n, m, s, rfl, hs⟩ | ⟨a, rfl, ha⟩ | rfl | rfl | ⟨a, c, rfl, ha, _⟩ | ⟨a, rfl, ha⟩
  · exact put_1 ad len cap z w t h8 hl hn hB h0 h1 h2
  · exact put_2 ad len cap z p n m s w hB hs h0 h1 h2
  · exact put_3 ad len cap z a w hB ha h0 h1 h2
  · exact put_4 ad len cap z w hB h0 h1 h2
  · exact put_5 ad len cap z w hB h0 h1 h2
  · exact put_6 ad len cap z a c w hB ha hc h0 h1 h2
  · exact put_7 ad len cap z a w hB ha h0 h1 h2
theorem errv_pos {c : Nat} (h : c ≠ 0) : errv c = .iface 60 (.int .i64 (c : Int)) := if_neg h
set_option maxHeartbeats 1000000 in
/-- Put of an order that is wrong. -/
theorem put_wrong (o : O) (ad : Option Addr) (len cap z : Nat) (w : World) (hB : BytesIn w (.slice ad len cap) o.t) (h8 : ∀ x ∈ o.t, x < 256) (hl : o.t.length < 1000000) (hc : o.c < 256) (h0 : wrong o z ≠ 0) (h1 : 1 ≤ z) (h2 : z ≤ 16383) :
    Calls Try.prog 7 #[.agg #[.int .i64 o.k, .slice ad len cap, .bool o.p, .bool o.n, .int .i64 o.s, .bool o.m, .int .i64 o.a, .int .u8 (o.c : Int)], .int .i64 (z : Int)] w fun e w' => e = .returned (.tuple #[.slice none 0 0, .iface 60 (.int .i64 (wrong o z : Nat))]) ∧ Below w.heap.size w w' := by
  have HR := fun W hb => right_any o ad len cap z W (bytes_below hB hb) h8 hl hc h1 h2
  rw [errv_pos h0] at HR
  obtain ⟨k, t, p, n, s, m, a, c⟩ := o
  generalize wrong _ z = u at HR h0 ⊢
  simp only at HR ⊢
  have HR := Lib.hid HR
  have HA : Hid (Below w.heap.size w (w.alloc (.cells #[.int .i64 k, .slice ad len cap, .bool p, .bool n, .int .i64 s, .bool m, .int .i64 a, .int .u8 (c : Int)] 26))) := (Below.refl _ _).alloc (Nat.le_refl _) _
  clear hB h8 hl hc h0
  go_enter Try.func7, Try.ntmps7
  go_wp2_with fail
  generalize w.alloc _ = w1 at HA ⊢
  with_reducible refine (HR.out _ HA.out).mono ?_
  rintro e w2 ⟨rfl, hb⟩
  have K2 := kept_hid HA hb
  clear hb HR
  go_wp2_with fail
  go_ret2
  exact ⟨rfl, K2.out⟩
end Ord
end Go.Proofs.Ytllpmgddcpgegaa
