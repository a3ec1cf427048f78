/- takeKind, takeAttr, takeChar of package order. Written by tools/gen_ord_take.py. -/
import Derived.Test.YtllpmgddcpgegaaOrdKind
import Derived.Test.YtllpmgddcpgegaaAttrGet
import Derived.Test.YtllpmgddcpgegaaBytByte
import Derived.Test.YtllpmgddcpgegaaBytGrow
namespace Go.Proofs.Ytllpmgddcpgegaa
open Go.RowKit Sha Cut Err Six Att Byt
namespace Ord
theorem takeKind_met {C g at_ b : Nat} {xs : List Nat} (w : World) (h : Cur w C g xs at_ (.iface 80 (.pointer (some ⟨b, 0, none⟩)))) :
    Calls Try.prog 22 #[.pointer (some ⟨C, 0, none⟩)] w fun e w' => e = .returned (.int .i64 0) ∧ w = w' := by
  have HP := Lib.hid (peek_met w h)
  have HF := Lib.hid (fail_met (.iface 60 (.int .i64 2)) w h)
  clear h
  go_enter Try.func22, Try.ntmps22
  go_wp2_with fail
  with_reducible refine HP.out.mono ?_
  rintro e w1 ⟨rfl, rfl⟩
  go_wp2_with fail
  with_reducible refine HF.out.mono ?_
  rintro e w1 ⟨rfl, rfl⟩
  go_wp2_with fail
  go_ret
  exact ⟨rfl, rfl⟩
theorem takeKind_none {C g at_ : Nat} {xs : List Nat} (w : World) (h : Byt.Cur w C g xs at_ .nilIface) (hl : xs.length ≤ at_) :
    Calls Try.prog 22 #[.pointer (some ⟨C, 0, none⟩)] w fun e w' => e = .returned (.int .i64 0) ∧ ∃ ev, Cur w' C g xs at_ ev ∧ Met w' ev 2 at_ ∧ w.grownBy w' (some C) := by
  have HP := Lib.hid (peek_none w h hl)
  have HF := Lib.hid (fun m => fail_new (d := 0) (.iface 60 (.int .i64 2)) 2 (w.drewN m) (h.drewN m) rfl)
  clear h
  go_enter Try.func22, Try.ntmps22
  go_wp2_with fail
  with_reducible refine HP.out.mono ?_
  rintro e w1 ⟨rfl, m, rfl⟩
  go_wp2_with fail
  with_reducible refine (HF.out m).mono ?_
  rintro e w2 ⟨rfl, ev, h1, h2, h3⟩
  have HR := Lib.hid (show ∃ ev, Cur w2 C g xs at_ ev ∧ Met w2 ev 2 at_ ∧ w.grownBy w2 (some C) from ⟨ev, h1, h2, gtrans (gdrewN w m _) h3⟩)
  clear h1 h2 h3 HF HP
  go_wp2_with fail
  go_ret
  exact ⟨rfl, HR.out⟩
theorem takeKind_bad {C g at_ : Nat} {xs : List Nat} (w : World) (h : Byt.Cur w C g xs at_ .nilIface) (hl : at_ < xs.length) (hb : xs.getD at_ 0 < 256) (hk : kindB (xs.getD at_ 0) = 0) :
    Calls Try.prog 22 #[.pointer (some ⟨C, 0, none⟩)] w fun e w' => e = .returned (.int .i64 0) ∧ ∃ ev, Cur w' C g xs at_ ev ∧ Met w' ev 5 at_ ∧ w.grownBy w' (some C) := by
  have HP := Lib.hid (peek_ok w h hl)
  have HF := Lib.hid (fun m => fail_new (d := 0) (.iface 60 (.int .i64 5)) 5 (w.drewN m) (h.drewN m) rfl)
  have HK := Lib.hid fun W => kindOf_any (xs.getD at_ 0) W hb
  rw [hk] at HK
  clear h hb hk
  generalize xs.getD at_ 0 = x at *
  go_enter Try.func22, Try.ntmps22
  go_wp2_with fail
  with_reducible refine HP.out.mono ?_
  rintro e w1 ⟨rfl, m, rfl⟩
  go_wp2_with fail
  with_reducible refine (HK.out _).mono ?_
  rintro e w1 ⟨rfl, rfl⟩
  go_wp2_with fail
  with_reducible refine (HF.out m).mono ?_
  rintro e w2 ⟨rfl, ev, h1, h2, h3⟩
  have HR := Lib.hid (show ∃ ev, Cur w2 C g xs at_ ev ∧ Met w2 ev 5 at_ ∧ w.grownBy w2 (some C) from ⟨ev, h1, h2, gtrans (gdrewN w m _) h3⟩)
  clear h1 h2 h3 HF HP HK
  go_wp2_with fail
  go_ret
  exact ⟨rfl, HR.out⟩
theorem takeKind_text {C g at_ : Nat} {xs : List Nat} (w : World) (h : Byt.Cur w C g xs at_ .nilIface) (hl : at_ < xs.length) (hb : xs.getD at_ 0 < 256) (hk : kindB (xs.getD at_ 0) = 1) :
    Calls Try.prog 22 #[.pointer (some ⟨C, 0, none⟩)] w fun e w' => e = .returned (.int .i64 1) ∧ Cur w' C g xs at_ .nilIface ∧ w.grownBy w' (some C) := by
  have HP := Lib.hid (peek_ok w h hl)
  have HK := Lib.hid fun W => kindOf_any (xs.getD at_ 0) W hb
  have HU := Lib.hid (fun m => h.drewN m)
  rw [hk] at HK
  clear h hb hk
  generalize xs.getD at_ 0 = x at *
  go_enter Try.func22, Try.ntmps22
  go_wp2_with fail
  with_reducible refine HP.out.mono ?_
  rintro e w1 ⟨rfl, m, rfl⟩
  go_wp2_with fail
  with_reducible refine (HK.out _).mono ?_
  rintro e w1 ⟨rfl, rfl⟩
  go_wp2_with fail
  go_ret
  exact ⟨rfl, HU.out m, gdrewN _ _ _⟩
theorem takeKind_order {C g at_ : Nat} {xs : List Nat} (w : World) (h : Byt.Cur w C g xs at_ .nilIface) (hx : xs.length < 1000000000) (k : Nat) (hl : at_ < xs.length) (hb : xs.getD at_ 0 < 256) (hk : kindB (xs.getD at_ 0) = k) (hk2 : 2 ≤ k) :
    Calls Try.prog 22 #[.pointer (some ⟨C, 0, none⟩)] w fun e w' => e = .returned (.int .i64 (k : Int)) ∧ Cur w' C g xs (at_ + 1) .nilIface ∧ w.grownBy w' (some C) := by
  have HP := Lib.hid (peek_ok w h hl)
  have HK := Lib.hid fun W => kindOf_any (xs.getD at_ 0) W hb
  have HB := Lib.hid (fun m => byte_ok (w.drewN m) (h.drewN m) hl hx)
  rw [hk] at HK
  have k0 : ((k : Int) == 0) = false := by simp; omega
  have k1 : ((k : Int) == 1) = false := by simp; omega
  clear h hb hk
  generalize xs.getD at_ 0 = x at *
  go_enter Try.func22, Try.ntmps22
  go_wp2_with fail
  with_reducible refine HP.out.mono ?_
  rintro e w1 ⟨rfl, m, rfl⟩
  go_wp2_with fail
  with_reducible refine (HK.out _).mono ?_
  rintro e w1 ⟨rfl, rfl⟩
  go_wp2_with fail
  with_reducible refine (HB.out m).mono ?_
  rintro e w2 ⟨rfl, h1, h2⟩
  have H1 := Lib.hid h1
  have H2 := Lib.hid (gtrans (gdrewN w m _) h2)
  clear h1 h2 HB HP HK
  go_wp2_with fail
  go_ret
  exact ⟨rfl, H1.out, H2.out⟩
set_option maxRecDepth 100000 in
set_option maxHeartbeats 2000000 in
theorem takeAttr_ok {C g at_ : Nat} {xs : List Nat} (w : World) (h : Byt.Cur w C g xs at_ .nilIface) (hx : xs.length < 1000000000) (hl : at_ < xs.length) (p n m : Bool) (s : Nat) (hs : s < 4) (hb : xs.getD at_ 0 = put (num p n m s)) :
    Calls Try.prog 24 #[.pointer (some ⟨C, 0, none⟩)] w fun e w' => e = .returned (.agg #[.bool p, .bool n, .int .i64 (s : Int), .bool m]) ∧ Cur w' C g xs (at_ + 1) .nilIface ∧ w.grownBy w' (some C) := by
  have HA := al_any w (.cells #[.bool false, .bool false, .int .i64 0, .bool false] 24)
  have HN := Lib.hid (heap_alloc_new w (.cells #[.bool false, .bool false, .int .i64 0, .bool false] 24))
  have hP := peek_ok _ (h.below HA) hl
  rw [hb] at hP
  have HP := Lib.hid hP
  have HU := Lib.hid (h.below HA)
  have HG := Lib.hid fun W => get_ok p n m s W hs
  have HC := Lib.hid h.clt
  have HGL := Lib.hid h.glt
  have HA := Lib.hid HA
  clear h hb hP
  go_enter Try.func24, Try.ntmps24
  go_wp2_with fail
  generalize w.alloc (.cells #[.bool false, .bool false, .int .i64 0, .bool false] 24) = wa at *
  with_reducible refine HP.out.mono ?_
  rintro e w1 ⟨rfl, j, rfl⟩
  clear HP
  go_wp2_with fail
  with_reducible refine (HG.out _).mono ?_
  rintro e w1 ⟨rfl, hb⟩
  have H1 := kept_hid (kept_draw HA j) hb
  have N1 := blk HN.out (kept_trans (drewN_below _ j wa) hb)
  have U1 := (HU.out.drewN j).below hb
  have H2 := kept_alloc H1 (.cells #[.bool p, .bool n, .int .i64 (s : Int), .bool m] 24)
  have N2 := Lib.hid (blk N1 (al_any w1 (.cells #[.bool p, .bool n, .int .i64 (s : Int), .bool m] 24)))
  have M2 := Lib.hid (heap_alloc_new w1 (.cells #[.bool p, .bool n, .int .i64 (s : Int), .bool m] 24))
  have U2 := Lib.hid (U1.below (al_any w1 (.cells #[.bool p, .bool n, .int .i64 (s : Int), .bool m] 24)))
  have HL := Lib.hid (Nat.lt_of_lt_of_le HC.out H1.out.size)
  have HK := Lib.hid (Nat.lt_of_lt_of_le HGL.out H1.out.size)
  have HB := Lib.hid H1.out.size
  clear hb HU HN HA HG N1 U1 H1
  go_wp2_with fail
  generalize w1.heap.size = L at *
  generalize w1.alloc (.cells #[.bool p, .bool n, .int .i64 (s : Int), .bool m] 24) = w2 at *
  with_reducible refine (fail_nil w2 U2.out).mono ?_
  rintro e w3 ⟨rfl, rfl⟩
  go_wp2_with fail
  with_reducible refine (byte_ok w2 U2.out hl hx).mono ?_
  rintro e w3 ⟨rfl, hu, hgr⟩
  have U3 := Lib.hid hu
  clear hu
  have N3 := Lib.hid (blk_g N2.out hgr (by intro e; injection e with e; have := HC.out; omega))
  have L3 := blk_g M2.out hgr (by intro e; injection e with e; have := HL.out; omega)
  have G3 := Lib.hid (gtrans (gbelow H2.out (some C)) hgr)
  obtain ⟨c0, c1, c2, c3⟩ := cells4 L3
  obtain ⟨d0, d1, d2, d3⟩ := cells4 N3.out
  obtain ⟨f0, f1, f2, f3⟩ := free4 N3.out
  have S3 := Lib.hid (fun u0 u1 u2 u3 => set4g u0 u1 u2 u3 N3.out G3.out (Nat.le_refl _))
  have D3 := Lib.hid d1
  clear hgr L3 N2 M2 H2
  go_wp2_with fail
  have S4 := Lib.hid (S3.out (.bool p) (.bool n) (.int .i64 (s : Int)) (.bool m))
  clear c0 c1 c2 c3 d0 d1 d2 d3 f0 f1 f2 f3 S3 N3
  generalize (((w3.setCell ⟨w.heap.size, 0, none⟩ (.bool p)).setCell ⟨w.heap.size, 1, none⟩ (.bool n)).setCell ⟨w.heap.size, 2, none⟩ (.int .i64 (s : Int))).setCell ⟨w.heap.size, 3, none⟩ (.bool m) = wz at *
  refine bodyPost_ret (v := .agg #[.bool p, .bool n, .int .i64 (s : Int), .bool m]) (results_cell_row rfl _ _ w.heap.size 24 _ (0, 0) _ rfl S4.out.1 Try.underlying24 rfl (by kernel_rfl)) rfl ⟨rfl, ?_⟩
  exact ⟨U3.out.other S4.out.2.1 (by have := HC.out; omega) (by have := HGL.out; omega), S4.out.2.2⟩
set_option maxRecDepth 100000 in
set_option maxHeartbeats 2000000 in
theorem takeAttr_bad {C g at_ : Nat} {xs : List Nat} (w : World) (h : Byt.Cur w C g xs at_ .nilIface) (hl : at_ < xs.length) (hb8 : xs.getD at_ 0 < 256) (hb : noAttr (xs.getD at_ 0) = true) :
    Calls Try.prog 24 #[.pointer (some ⟨C, 0, none⟩)] w fun e w' => e = .returned (.agg #[.bool false, .bool false, .int .i64 0, .bool false]) ∧ ∃ ev, Cur w' C g xs at_ ev ∧ Met w' ev 3 at_ ∧ w.grownBy w' (some C) := by
  have HA := al_any w (.cells #[.bool false, .bool false, .int .i64 0, .bool false] 24)
  have HN := Lib.hid (heap_alloc_new w (.cells #[.bool false, .bool false, .int .i64 0, .bool false] 24))
  have hP := peek_ok _ (h.below HA) hl
  have HP := Lib.hid hP
  have HU := Lib.hid (h.below HA)
  have HG := Lib.hid fun W => get_bad (xs.getD at_ 0) W hb8 hb
  have HC := Lib.hid h.clt
  have HGL := Lib.hid h.glt
  have HA := Lib.hid HA
  clear h hb hP hb8
  generalize xs.getD at_ 0 = x at *
  go_enter Try.func24, Try.ntmps24
  go_wp2_with fail
  generalize w.alloc (.cells #[.bool false, .bool false, .int .i64 0, .bool false] 24) = wa at *
  with_reducible refine HP.out.mono ?_
  rintro e w1 ⟨rfl, j, rfl⟩
  clear HP
  go_wp2_with fail
  with_reducible refine (HG.out _).mono ?_
  rintro e w1 ⟨rfl, hb⟩
  have H1 := kept_hid (kept_draw HA j) hb
  have N1 := blk HN.out (kept_trans (drewN_below _ j wa) hb)
  have U1 := (HU.out.drewN j).below hb
  have H2 := kept_alloc H1 (.cells #[.bool false, .bool false, .int .i64 0, .bool false] 24)
  have N2 := Lib.hid (blk N1 (al_any w1 (.cells #[.bool false, .bool false, .int .i64 0, .bool false] 24)))
  have M2 := Lib.hid (heap_alloc_new w1 (.cells #[.bool false, .bool false, .int .i64 0, .bool false] 24))
  have U2 := Lib.hid (U1.below (al_any w1 (.cells #[.bool false, .bool false, .int .i64 0, .bool false] 24)))
  have HL := Lib.hid (Nat.lt_of_lt_of_le HC.out H1.out.size)
  have HK := Lib.hid (Nat.lt_of_lt_of_le HGL.out H1.out.size)
  have HB := Lib.hid H1.out.size
  clear hb HU HN HA HG N1 U1 H1
  go_wp2_with fail
  generalize w1.heap.size = L at *
  generalize w1.alloc (.cells #[.bool false, .bool false, .int .i64 0, .bool false] 24) = w2 at *
  have HF := Lib.hid (fail_new (d := 0) (.iface 60 (.int .i64 3)) 3 w2 U2.out rfl)
  with_reducible refine HF.out.mono ?_
  rintro e w3 ⟨rfl, ev, hu, hm, hgr⟩
  obtain ⟨b, rfl, hm⟩ := hm
  have U3 := Lib.hid hu
  have M3 := Lib.hid (show Met w3 _ 3 at_ from ⟨b, rfl, hm⟩)
  clear hu hm HF
  go_wp2_with fail
  with_reducible refine (byte_met w3 U3.out).mono ?_
  rintro e w4 ⟨rfl, rfl⟩
  have N3 := Lib.hid (blk_g N2.out hgr (by intro e; injection e with e; have := HC.out; omega))
  have L3 := blk_g M2.out hgr (by intro e; injection e with e; have := HL.out; omega)
  have G3 := Lib.hid (gtrans (gbelow H2.out (some C)) hgr)
  obtain ⟨c0, c1, c2, c3⟩ := cells4 L3
  obtain ⟨d0, d1, d2, d3⟩ := cells4 N3.out
  obtain ⟨f0, f1, f2, f3⟩ := free4 N3.out
  have S3 := Lib.hid (fun u0 u1 u2 u3 => set4g u0 u1 u2 u3 N3.out G3.out (Nat.le_refl _))
  have D3 := Lib.hid d1
  clear hgr L3 N2 M2 H2
  go_wp2_with fail
  have S4 := Lib.hid (S3.out (.bool false) (.bool false) (.int .i64 0) (.bool false))
  clear c0 c1 c2 c3 d0 d1 d2 d3 f0 f1 f2 f3 S3 N3
  generalize (((w3.setCell ⟨w.heap.size, 0, none⟩ (.bool false)).setCell ⟨w.heap.size, 1, none⟩ (.bool false)).setCell ⟨w.heap.size, 2, none⟩ (.int .i64 0)).setCell ⟨w.heap.size, 3, none⟩ (.bool false) = wz at *
  refine bodyPost_ret (v := .agg #[.bool false, .bool false, .int .i64 0, .bool false]) (results_cell_row rfl _ _ w.heap.size 24 _ (0, 0) _ rfl S4.out.1 Try.underlying24 rfl (by kernel_rfl)) rfl ⟨rfl, ?_⟩
  exact ⟨_, U3.out.other S4.out.2.1 (by have := HC.out; omega) (by have := HGL.out; omega), M3.out.other S4.out.2.1 (fun t x h => by rw [D3.out] at h; cases h), S4.out.2.2⟩
set_option maxRecDepth 100000 in
set_option maxHeartbeats 2000000 in
theorem takeAttr_none {C g at_ : Nat} {xs : List Nat} (w : World) (h : Byt.Cur w C g xs at_ .nilIface) (hl : xs.length ≤ at_) :
    Calls Try.prog 24 #[.pointer (some ⟨C, 0, none⟩)] w fun e w' => e = .returned (.agg #[.bool false, .bool false, .int .i64 0, .bool false]) ∧ ∃ ev, Cur w' C g xs at_ ev ∧ Met w' ev 2 at_ ∧ w.grownBy w' (some C) := by
  have HA := al_any w (.cells #[.bool false, .bool false, .int .i64 0, .bool false] 24)
  have HN := Lib.hid (heap_alloc_new w (.cells #[.bool false, .bool false, .int .i64 0, .bool false] 24))
  have hP := peek_none _ (h.below HA) hl
  have HP := Lib.hid hP
  have HU := Lib.hid (h.below HA)
  have HG := Lib.hid fun W => get_bad 0 W (by decide) (by decide)
  have HC := Lib.hid h.clt
  have HGL := Lib.hid h.glt
  have HA := Lib.hid HA
  clear h hP
  simp only [show ((0 : Nat) : Int) = 0 from rfl] at HG
  go_enter Try.func24, Try.ntmps24
  go_wp2_with fail
  generalize w.alloc (.cells #[.bool false, .bool false, .int .i64 0, .bool false] 24) = wa at *
  with_reducible refine HP.out.mono ?_
  rintro e w1 ⟨rfl, j, rfl⟩
  clear HP
  go_wp2_with fail
  with_reducible refine (HG.out _).mono ?_
  rintro e w1 ⟨rfl, hb⟩
  have H1 := kept_hid (kept_draw HA j) hb
  have N1 := blk HN.out (kept_trans (drewN_below _ j wa) hb)
  have U1 := (HU.out.drewN j).below hb
  have H2 := kept_alloc H1 (.cells #[.bool false, .bool false, .int .i64 0, .bool false] 24)
  have N2 := Lib.hid (blk N1 (al_any w1 (.cells #[.bool false, .bool false, .int .i64 0, .bool false] 24)))
  have M2 := Lib.hid (heap_alloc_new w1 (.cells #[.bool false, .bool false, .int .i64 0, .bool false] 24))
  have U2 := Lib.hid (U1.below (al_any w1 (.cells #[.bool false, .bool false, .int .i64 0, .bool false] 24)))
  have HL := Lib.hid (Nat.lt_of_lt_of_le HC.out H1.out.size)
  have HK := Lib.hid (Nat.lt_of_lt_of_le HGL.out H1.out.size)
  have HB := Lib.hid H1.out.size
  clear hb HU HN HA HG N1 U1 H1
  go_wp2_with fail
  generalize w1.heap.size = L at *
  generalize w1.alloc (.cells #[.bool false, .bool false, .int .i64 0, .bool false] 24) = w2 at *
  with_reducible refine (byte_none w2 U2.out hl).mono ?_
  rintro e w3 ⟨rfl, ev, hu, hm, hgr⟩
  have U3 := Lib.hid hu
  have M3 := Lib.hid hm
  clear hu hm
  have N3 := Lib.hid (blk_g N2.out hgr (by intro e; injection e with e; have := HC.out; omega))
  have L3 := blk_g M2.out hgr (by intro e; injection e with e; have := HL.out; omega)
  have G3 := Lib.hid (gtrans (gbelow H2.out (some C)) hgr)
  obtain ⟨c0, c1, c2, c3⟩ := cells4 L3
  obtain ⟨d0, d1, d2, d3⟩ := cells4 N3.out
  obtain ⟨f0, f1, f2, f3⟩ := free4 N3.out
  have S3 := Lib.hid (fun u0 u1 u2 u3 => set4g u0 u1 u2 u3 N3.out G3.out (Nat.le_refl _))
  have D3 := Lib.hid d1
  clear hgr L3 N2 M2 H2
  go_wp2_with fail
  have S4 := Lib.hid (S3.out (.bool false) (.bool false) (.int .i64 0) (.bool false))
  clear c0 c1 c2 c3 d0 d1 d2 d3 f0 f1 f2 f3 S3 N3
  generalize (((w3.setCell ⟨w.heap.size, 0, none⟩ (.bool false)).setCell ⟨w.heap.size, 1, none⟩ (.bool false)).setCell ⟨w.heap.size, 2, none⟩ (.int .i64 0)).setCell ⟨w.heap.size, 3, none⟩ (.bool false) = wz at *
  refine bodyPost_ret (v := .agg #[.bool false, .bool false, .int .i64 0, .bool false]) (results_cell_row rfl _ _ w.heap.size 24 _ (0, 0) _ rfl S4.out.1 Try.underlying24 rfl (by kernel_rfl)) rfl ⟨rfl, ?_⟩
  exact ⟨_, U3.out.other S4.out.2.1 (by have := HC.out; omega) (by have := HGL.out; omega), M3.out.other S4.out.2.1 (fun t x h => by rw [D3.out] at h; cases h), S4.out.2.2⟩
theorem takeChar_ok {C g at_ : Nat} {xs : List Nat} (w : World) (h : Byt.Cur w C g xs at_ .nilIface) (hx : xs.length < 1000000000) (hl : at_ < xs.length) (hb8 : xs.getD at_ 0 < 256) (hb : char (xs.getD at_ 0) = true) :
    Calls Try.prog 26 #[.pointer (some ⟨C, 0, none⟩)] w fun e w' => e = .returned (.int .u8 ((xs.getD at_ 0 : Nat) : Int)) ∧ Cur w' C g xs (at_ + 1) .nilIface ∧ w.grownBy w' (some C) := by
  have HP := Lib.hid (peek_ok w h hl)
  have HC := Lib.hid fun W => char_any (xs.getD at_ 0) W hb8
  have HB := Lib.hid (fun m => byte_ok (w.drewN m) (h.drewN m) hl hx)
  rw [hb] at HC
  clear h hb hb8
  generalize xs.getD at_ 0 = x at *
  go_enter Try.func26, Try.ntmps26
  go_wp2_with fail
  with_reducible refine HP.out.mono ?_
  rintro e w1 ⟨rfl, m, rfl⟩
  go_wp2_with fail
  with_reducible refine (HC.out _).mono ?_
  rintro e w1 ⟨rfl, rfl⟩
  go_wp2_with fail
  with_reducible refine (HB.out m).mono ?_
  rintro e w2 ⟨rfl, h1, h2⟩
  have H1 := Lib.hid h1
  have H2 := Lib.hid (gtrans (gdrewN w m _) h2)
  clear h1 h2 HB HP HC
  go_wp2_with fail
  go_ret
  exact ⟨rfl, H1.out, H2.out⟩
theorem takeChar_bad {C g at_ : Nat} {xs : List Nat} (w : World) (h : Byt.Cur w C g xs at_ .nilIface) (hl : at_ < xs.length) (hb8 : xs.getD at_ 0 < 256) (hb : char (xs.getD at_ 0) = false) :
    Calls Try.prog 26 #[.pointer (some ⟨C, 0, none⟩)] w fun e w' => e = .returned (.int .u8 0) ∧ ∃ ev, Cur w' C g xs at_ ev ∧ Met w' ev 3 at_ ∧ w.grownBy w' (some C) := by
  have HP := Lib.hid (peek_ok w h hl)
  have HC := Lib.hid fun W => char_any (xs.getD at_ 0) W hb8
  have HF := Lib.hid (fun m => fail_new (d := 0) (.iface 60 (.int .i64 3)) 3 (w.drewN m) (h.drewN m) rfl)
  rw [hb] at HC
  clear h hb hb8
  generalize xs.getD at_ 0 = x at *
  go_enter Try.func26, Try.ntmps26
  go_wp2_with fail
  with_reducible refine HP.out.mono ?_
  rintro e w1 ⟨rfl, m, rfl⟩
  go_wp2_with fail
  with_reducible refine (HC.out _).mono ?_
  rintro e w1 ⟨rfl, rfl⟩
  go_wp2_with fail
  with_reducible refine (HF.out m).mono ?_
  rintro e w2 ⟨rfl, ev, h1, h2, h3⟩
  obtain ⟨b, rfl, h2⟩ := h2
  have U2 := Lib.hid h1
  have HR := Lib.hid (show ∃ ev, Cur w2 C g xs at_ ev ∧ Met w2 ev 3 at_ ∧ w.grownBy w2 (some C) from ⟨_, h1, ⟨b, rfl, h2⟩, gtrans (gdrewN w m _) h3⟩)
  clear h1 h2 h3 HF HP HC
  go_wp2_with fail
  with_reducible refine (byte_met w2 U2.out).mono ?_
  rintro e w3 ⟨rfl, rfl⟩
  go_wp2_with fail
  go_ret
  exact ⟨rfl, HR.out⟩
theorem takeChar_none {C g at_ : Nat} {xs : List Nat} (w : World) (h : Byt.Cur w C g xs at_ .nilIface) (hl : xs.length ≤ at_) :
    Calls Try.prog 26 #[.pointer (some ⟨C, 0, none⟩)] w fun e w' => e = .returned (.int .u8 0) ∧ ∃ ev, Cur w' C g xs at_ ev ∧ Met w' ev 2 at_ ∧ w.grownBy w' (some C) := by
  have HP := Lib.hid (peek_none w h hl)
  have HB := Lib.hid (fun m => byte_none (w.drewN m) (h.drewN m) hl)
  clear h
  go_enter Try.func26, Try.ntmps26
  go_wp2_with fail
  with_reducible refine HP.out.mono ?_
  rintro e w1 ⟨rfl, m, rfl⟩
  go_wp2_with fail
  with_reducible refine (HB.out m).mono ?_
  rintro e w2 ⟨rfl, ev, h1, h2, h3⟩
  have HR := Lib.hid (show ∃ ev, Cur w2 C g xs at_ ev ∧ Met w2 ev 2 at_ ∧ w.grownBy w2 (some C) from ⟨ev, h1, h2, gtrans (gdrewN w m _) h3⟩)
  clear h1 h2 h3 HB HP
  go_wp2_with fail
  go_ret
  exact ⟨rfl, HR.out⟩
theorem takeChar_met {C g at_ b : Nat} {xs : List Nat} (w : World) (h : Cur w C g xs at_ (.iface 80 (.pointer (some ⟨b, 0, none⟩)))) :
    Calls Try.prog 26 #[.pointer (some ⟨C, 0, none⟩)] w fun e w' => e = .returned (.int .u8 0) ∧ w = w' := by
  have HP := Lib.hid (peek_met w h)
  have HB := Lib.hid (byte_met w h)
  clear h
  go_enter Try.func26, Try.ntmps26
  go_wp2_with fail
  with_reducible refine HP.out.mono ?_
  rintro e w1 ⟨rfl, rfl⟩
  go_wp2_with fail
  with_reducible refine HB.out.mono ?_
  rintro e w1 ⟨rfl, rfl⟩
  go_wp2_with fail
  go_ret
  exact ⟨rfl, rfl⟩
end Ord
end Go.Proofs.Ytllpmgddcpgegaa
