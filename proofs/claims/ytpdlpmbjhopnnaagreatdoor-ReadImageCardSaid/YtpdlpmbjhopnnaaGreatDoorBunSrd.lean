/- StrKind, StrTake, StrOrders, StrCmd, StrRead, StrReadAll in one text (by tools/bundle.py). -/
import Derived.Test.YtpdlpmbjhopnnaaGreatDoorBunStr
import Derived.Test.YtpdlpmbjhopnnaaGreatDoorBunByt
import Derived.Test.YtpdlpmbjhopnnaaGreatDoorBunRdm
import Derived.Test.YtpdlpmbjhopnnaaGreatDoorBunOrd
import Derived.Deep.Cut
/- Writes of package stream. -/
namespace Go.Proofs.YtpdlpmbjhopnnaaGreatDoor
open Go.RowKit Sha Six
namespace Str
theorem writes_any (c : Int) (w : World) : Calls Tryz.prog 78 #[.int .i64 c] w fun e w' => e = .returned (.bool (writes c)) ∧ w = w' := by
  have H := Lib.hid fun W => kind_any c W
  go_enter Tryz.func78, Tryz.ntmps78
  go_wp2_with fail
  with_reducible refine (H.out _).mono ?_
  rintro e w' ⟨rfl, rfl⟩
  go_wp2_with fail
  go_ret
  exact ⟨rfl, rfl⟩
end Str
end Go.Proofs.YtpdlpmbjhopnnaaGreatDoor
/- takeCmd and takeWcc of package stream. Written by tools/gen_str_take.py. -/
namespace Go.Proofs.YtpdlpmbjhopnnaaGreatDoor
open Go.RowKit Sha Cut Err Six Att Byt
namespace Str
theorem set3g {w a : World} {B : Nat} {r : Option Nat} {t : TypeId} {a0 a1 a2 : Value} (u0 u1 u2 : Value) (h : a.heap[B]? = some (.cells #[a0, a1, a2] t (0, 0))) (hg : w.grownBy a r) (hB : w.heap.size ≤ B) :
    (((a.setCell ⟨B, 0, none⟩ u0).setCell ⟨B, 1, none⟩ u1).setCell ⟨B, 2, none⟩ u2).heap[B]? = some (.cells #[u0, u1, u2] t (0, 0)) ∧
    a.grownBy (((a.setCell ⟨B, 0, none⟩ u0).setCell ⟨B, 1, none⟩ u1).setCell ⟨B, 2, none⟩ u2) (some B) ∧
    w.grownBy (((a.setCell ⟨B, 0, none⟩ u0).setCell ⟨B, 1, none⟩ u1).setCell ⟨B, 2, none⟩ u2) r := by
  have h := heap_setCell_same _ B 0 _ t u0 h
  have h := heap_setCell_same _ B 1 _ t u1 h
  have h := heap_setCell_same _ B 2 _ t u2 h
  have hs : a.grownBy (((a.setCell ⟨B, 0, none⟩ u0).setCell ⟨B, 1, none⟩ u1).setCell ⟨B, 2, none⟩ u2) (some B) :=
    gtrans (gsetCell _ _ _ _) (gtrans (gsetCell _ _ _ _) (gsetCell _ _ _ _))
  exact ⟨h, hs, gnew hg hs hB⟩
set_option maxHeartbeats 1000000 in
theorem takeCmd_none {C g at_ : Nat} {xs : List Nat} (w : World) (h : Byt.Cur w C g xs at_ .nilIface) (hl : xs.length ≤ at_) :
    Calls Tryz.prog 77 #[.pointer (some ⟨C, 0, none⟩)] w fun e w' => e = .returned (.int .i64 0) ∧ ∃ ev, Cur w' C g xs at_ ev ∧ Byt.Met w' ev 2 at_ ∧ w.grownBy w' (some C) := by
  have HP := Lib.hid (peek_none w h hl)
  have HF := Lib.hid (fun m => fail_new (d := 0) (.iface 71 (.int .i64 2)) 2 (w.drewN m) (h.drewN m) rfl)
  have HK := Lib.hid fun W => kind_any 0 W
  rw [show known 0 = false by decide, show writes 0 = false by decide] at HK
  clear h
  go_enter Tryz.func77, Tryz.ntmps77
  go_wp2_with fail
  with_reducible refine HP.out.mono ?_
  rintro e w1 ⟨rfl, m, rfl⟩
  go_wp2_with fail
  with_reducible refine (HK.out _).mono ?_
  rintro e w1 ⟨rfl, rfl⟩
  go_wp2_with fail
  with_reducible refine (HF.out m).mono ?_
  rintro e w2 ⟨rfl, ev, h1, h2, h3⟩
  have HR := Lib.hid (show ∃ ev, Cur w2 C g xs at_ ev ∧ Byt.Met w2 ev 2 at_ ∧ w.grownBy w2 (some C) from ⟨ev, h1, h2, gtrans (gdrewN w m _) h3⟩)
  clear h1 h2 h3 HF HP
  go_wp2_with fail
  go_ret
  exact ⟨rfl, HR.out⟩
set_option maxHeartbeats 1000000 in
theorem takeCmd_bad {C g at_ : Nat} {xs : List Nat} (w : World) (h : Byt.Cur w C g xs at_ .nilIface) (hl : at_ < xs.length) (hb8 : xs.getD at_ 0 < 256) (hk : known ((xs.getD at_ 0 : Nat) : Int) = false) :
    Calls Tryz.prog 77 #[.pointer (some ⟨C, 0, none⟩)] w fun e w' => e = .returned (.int .i64 0) ∧ ∃ ev, Cur w' C g xs at_ ev ∧ Byt.Met w' ev 5 at_ ∧ w.grownBy w' (some C) := by
  have HP := Lib.hid (peek_ok w h hl)
  have HF := Lib.hid (fun m => fail_new (d := 0) (.iface 71 (.int .i64 5)) 5 (w.drewN m) (h.drewN m) rfl)
  have HK := Lib.hid fun W => kind_any ((xs.getD at_ 0 : Nat) : Int) W
  rw [hk] at HK
  have ew : wrap64 ((xs.getD at_ 0 : Nat) : Int) = ((xs.getD at_ 0 : Nat) : Int) := by unfold wrap64; omega
  clear h hk hb8
  generalize xs.getD at_ 0 = x at *
  generalize writes (x : Int) = wr at *
  go_enter Tryz.func77, Tryz.ntmps77
  go_wp2_with fail
  with_reducible refine HP.out.mono ?_
  rintro e w1 ⟨rfl, m, rfl⟩
  go_wp2_with fail
  with_reducible refine (HK.out _).mono ?_
  rintro e w1 ⟨rfl, rfl⟩
  go_wp2_with fail
  with_reducible refine (HF.out m).mono ?_
  rintro e w2 ⟨rfl, ev, h1, h2, h3⟩
  have HR := Lib.hid (show ∃ ev, Cur w2 C g xs at_ ev ∧ Byt.Met w2 ev 5 at_ ∧ w.grownBy w2 (some C) from ⟨ev, h1, h2, gtrans (gdrewN w m _) h3⟩)
  clear h1 h2 h3 HF HP HK
  go_wp2_with fail
  go_ret
  exact ⟨rfl, HR.out⟩
set_option maxHeartbeats 1000000 in
theorem takeCmd_ok {C g at_ : Nat} {xs : List Nat} (w : World) (h : Byt.Cur w C g xs at_ .nilIface) (hx : xs.length < 1000000000) (hl : at_ < xs.length) (hb8 : xs.getD at_ 0 < 256) (hk : known ((xs.getD at_ 0 : Nat) : Int) = true) :
    Calls Tryz.prog 77 #[.pointer (some ⟨C, 0, none⟩)] w fun e w' => e = .returned (.int .i64 ((xs.getD at_ 0 : Nat) : Int)) ∧ Cur w' C g xs (at_ + 1) .nilIface ∧ w.grownBy w' (some C) := by
  have HP := Lib.hid (peek_ok w h hl)
  have HK := Lib.hid fun W => kind_any ((xs.getD at_ 0 : Nat) : Int) W
  have HB := Lib.hid (fun m => byte_ok (w.drewN m) (h.drewN m) hl hx)
  rw [hk] at HK
  have ew : wrap64 ((xs.getD at_ 0 : Nat) : Int) = ((xs.getD at_ 0 : Nat) : Int) := by unfold wrap64; omega
  clear h hk hb8
  generalize xs.getD at_ 0 = x at *
  generalize writes (x : Int) = wr at *
  go_enter Tryz.func77, Tryz.ntmps77
  go_wp2_with fail
  with_reducible refine HP.out.mono ?_
  rintro e w1 ⟨rfl, m, rfl⟩
  go_wp2_with fail
  with_reducible refine (HK.out _).mono ?_
  rintro e w1 ⟨rfl, rfl⟩
  go_wp2_with fail
  with_reducible refine (HB.out m).mono ?_
  rintro e w2 ⟨rfl, h1, h2⟩
  have H1 := Lib.hid h1
  have H2 := Lib.hid (gtrans (gdrewN w m _) h2)
  clear h1 h2 HB HP HK
  go_wp2_with fail
  go_ret
  refine ⟨?_, H1.out, H2.out⟩
  show Ending.returned (.int .i64 (wrap64 _)) = _
  rw [ew]
set_option maxRecDepth 100000 in
set_option maxHeartbeats 2000000 in
theorem takeWcc_ok {C g at_ : Nat} {xs : List Nat} (w : World) (h : Byt.Cur w C g xs at_ .nilIface) (hx : xs.length < 1000000000) (hl : at_ < xs.length) (p n m : Bool) (hb : xs.getD at_ 0 = put (wnum p n m)) :
    Calls Tryz.prog 79 #[.pointer (some ⟨C, 0, none⟩)] w fun e w' => e = .returned (.agg #[.bool p, .bool n, .bool m]) ∧ Cur w' C g xs (at_ + 1) .nilIface ∧ w.grownBy w' (some C) := by
  have HA := al_any w (.cells #[.bool false, .bool false, .bool false] 37)
  have HN := Lib.hid (heap_alloc_new w (.cells #[.bool false, .bool false, .bool false] 37))
  have hP := peek_ok _ (h.below HA) hl
  rw [hb] at hP
  have HP := Lib.hid hP
  have HU := Lib.hid (h.below HA)
  have HG := Lib.hid fun W => getWcc_ok p n m W
  have HC := Lib.hid h.clt
  have HGL := Lib.hid h.glt
  have HA := Lib.hid HA
  clear h hb hP
  go_enter Tryz.func79, Tryz.ntmps79
  go_wp2_with fail
  generalize w.alloc (.cells #[.bool false, .bool false, .bool false] 37) = wa at *
  with_reducible refine HP.out.mono ?_
  rintro e w1 ⟨rfl, j, rfl⟩
  clear HP
  go_wp2_with fail
  with_reducible refine (HG.out _).mono ?_
  rintro e w1 ⟨rfl, hb⟩
  have H1 := kept_hid (kept_draw HA j) hb
  have N1 := blk HN.out (kept_trans (drewN_below _ j wa) hb)
  have U1 := (HU.out.drewN j).below hb
  have H2 := kept_alloc H1 (.cells #[.bool p, .bool n, .bool m] 37)
  have N2 := Lib.hid (blk N1 (al_any w1 (.cells #[.bool p, .bool n, .bool m] 37)))
  have M2 := Lib.hid (heap_alloc_new w1 (.cells #[.bool p, .bool n, .bool m] 37))
  have U2 := Lib.hid (U1.below (al_any w1 (.cells #[.bool p, .bool n, .bool m] 37)))
  have HL := Lib.hid (Nat.lt_of_lt_of_le HC.out H1.out.size)
  have HK := Lib.hid (Nat.lt_of_lt_of_le HGL.out H1.out.size)
  have HB := Lib.hid H1.out.size
  clear hb HU HN HA HG N1 U1 H1
  go_wp2_with fail
  generalize w1.heap.size = L at *
  generalize w1.alloc (.cells #[.bool p, .bool n, .bool m] 37) = w2 at *
  with_reducible refine (fail_nil w2 U2.out).mono ?_
  rintro e w3 ⟨rfl, rfl⟩
  go_wp2_with fail
  with_reducible refine (byte_ok w2 U2.out hl hx).mono ?_
  rintro e w3 ⟨rfl, hu, hgr⟩
  have U3 := Lib.hid hu
  clear hu
  have N3 := Lib.hid (blk_g N2.out hgr (by intro e; injection e with e; have := HC.out; omega))
  have L3 := blk_g M2.out hgr (by intro e; injection e with e; have := HL.out; omega)
  have G3 := Lib.hid (gtrans (gbelow H2.out (some C)) hgr)
  obtain ⟨c0, c1, c2⟩ := cells3 L3
  obtain ⟨d0, d1, d2⟩ := cells3 N3.out
  obtain ⟨f0, f1, f2⟩ := free3 N3.out
  have S3 := Lib.hid (fun u0 u1 u2 => set3g u0 u1 u2 N3.out G3.out (Nat.le_refl _))
  have D3 := Lib.hid d1
  clear hgr L3 N2 M2 H2
  go_wp2_with fail
  have S4 := Lib.hid (S3.out (.bool p) (.bool n) (.bool m))
  clear c0 c1 c2 d0 d1 d2 f0 f1 f2 S3 N3
  generalize ((w3.setCell ⟨w.heap.size, 0, none⟩ (.bool p)).setCell ⟨w.heap.size, 1, none⟩ (.bool n)).setCell ⟨w.heap.size, 2, none⟩ (.bool m) = wz at *
  refine bodyPost_ret (v := .agg #[.bool p, .bool n, .bool m]) (results_cell_row rfl _ _ w.heap.size 37 _ (0, 0) _ rfl S4.out.1 Tryz.underlying37 rfl (by kernel_rfl)) rfl ⟨rfl, ?_⟩
  exact ⟨U3.out.other S4.out.2.1 (by have := HC.out; omega) (by have := HGL.out; omega), S4.out.2.2⟩
set_option maxRecDepth 100000 in
set_option maxHeartbeats 2000000 in
theorem takeWcc_bad {C g at_ : Nat} {xs : List Nat} (w : World) (h : Byt.Cur w C g xs at_ .nilIface) (hl : at_ < xs.length) (hb8 : xs.getD at_ 0 < 256) (hb : noWrite (xs.getD at_ 0) = true) :
    Calls Tryz.prog 79 #[.pointer (some ⟨C, 0, none⟩)] w fun e w' => e = .returned (.agg #[.bool false, .bool false, .bool false]) ∧ ∃ ev, Cur w' C g xs at_ ev ∧ Byt.Met w' ev 3 at_ ∧ w.grownBy w' (some C) := by
  have HA := al_any w (.cells #[.bool false, .bool false, .bool false] 37)
  have HN := Lib.hid (heap_alloc_new w (.cells #[.bool false, .bool false, .bool false] 37))
  have hP := peek_ok _ (h.below HA) hl
  have HP := Lib.hid hP
  have HU := Lib.hid (h.below HA)
  have HG := Lib.hid fun W => getWcc_bad (xs.getD at_ 0) W hb8 hb
  have HC := Lib.hid h.clt
  have HGL := Lib.hid h.glt
  have HA := Lib.hid HA
  clear h hb hP hb8
  generalize xs.getD at_ 0 = x at *
  go_enter Tryz.func79, Tryz.ntmps79
  go_wp2_with fail
  generalize w.alloc (.cells #[.bool false, .bool false, .bool false] 37) = wa at *
  with_reducible refine HP.out.mono ?_
  rintro e w1 ⟨rfl, j, rfl⟩
  clear HP
  go_wp2_with fail
  with_reducible refine (HG.out _).mono ?_
  rintro e w1 ⟨rfl, hb⟩
  have H1 := kept_hid (kept_draw HA j) hb
  have N1 := blk HN.out (kept_trans (drewN_below _ j wa) hb)
  have U1 := (HU.out.drewN j).below hb
  have H2 := kept_alloc H1 (.cells #[.bool false, .bool false, .bool false] 37)
  have N2 := Lib.hid (blk N1 (al_any w1 (.cells #[.bool false, .bool false, .bool false] 37)))
  have M2 := Lib.hid (heap_alloc_new w1 (.cells #[.bool false, .bool false, .bool false] 37))
  have U2 := Lib.hid (U1.below (al_any w1 (.cells #[.bool false, .bool false, .bool false] 37)))
  have HL := Lib.hid (Nat.lt_of_lt_of_le HC.out H1.out.size)
  have HK := Lib.hid (Nat.lt_of_lt_of_le HGL.out H1.out.size)
  have HB := Lib.hid H1.out.size
  clear hb HU HN HA HG N1 U1 H1
  go_wp2_with fail
  generalize w1.heap.size = L at *
  generalize w1.alloc (.cells #[.bool false, .bool false, .bool false] 37) = w2 at *
  have HF := Lib.hid (fail_new (d := 0) (.iface 71 (.int .i64 3)) 3 w2 U2.out rfl)
  with_reducible refine HF.out.mono ?_
  rintro e w3 ⟨rfl, ev, hu, hm, hgr⟩
  obtain ⟨b, rfl, hm⟩ := hm
  have U3 := Lib.hid hu
  have M3 := Lib.hid (show Byt.Met w3 _ 3 at_ from ⟨b, rfl, hm⟩)
  clear hu hm HF
  go_wp2_with fail
  with_reducible refine (byte_met w3 U3.out).mono ?_
  rintro e w4 ⟨rfl, rfl⟩
  have N3 := Lib.hid (blk_g N2.out hgr (by intro e; injection e with e; have := HC.out; omega))
  have L3 := blk_g M2.out hgr (by intro e; injection e with e; have := HL.out; omega)
  have G3 := Lib.hid (gtrans (gbelow H2.out (some C)) hgr)
  obtain ⟨c0, c1, c2⟩ := cells3 L3
  obtain ⟨d0, d1, d2⟩ := cells3 N3.out
  obtain ⟨f0, f1, f2⟩ := free3 N3.out
  have S3 := Lib.hid (fun u0 u1 u2 => set3g u0 u1 u2 N3.out G3.out (Nat.le_refl _))
  have D3 := Lib.hid d1
  clear hgr L3 N2 M2 H2
  go_wp2_with fail
  have S4 := Lib.hid (S3.out (.bool false) (.bool false) (.bool false))
  clear c0 c1 c2 d0 d1 d2 f0 f1 f2 S3 N3
  generalize ((w3.setCell ⟨w.heap.size, 0, none⟩ (.bool false)).setCell ⟨w.heap.size, 1, none⟩ (.bool false)).setCell ⟨w.heap.size, 2, none⟩ (.bool false) = wz at *
  refine bodyPost_ret (v := .agg #[.bool false, .bool false, .bool false]) (results_cell_row rfl _ _ w.heap.size 37 _ (0, 0) _ rfl S4.out.1 Tryz.underlying37 rfl (by kernel_rfl)) rfl ⟨rfl, ?_⟩
  exact ⟨_, U3.out.other S4.out.2.1 (by have := HC.out; omega) (by have := HGL.out; omega), M3.out.other S4.out.2.1 (fun t x h => by rw [D3.out] at h; cases h), S4.out.2.2⟩
set_option maxRecDepth 100000 in
set_option maxHeartbeats 2000000 in
theorem takeWcc_none {C g at_ : Nat} {xs : List Nat} (w : World) (h : Byt.Cur w C g xs at_ .nilIface) (hl : xs.length ≤ at_) :
    Calls Tryz.prog 79 #[.pointer (some ⟨C, 0, none⟩)] w fun e w' => e = .returned (.agg #[.bool false, .bool false, .bool false]) ∧ ∃ ev, Cur w' C g xs at_ ev ∧ Byt.Met w' ev 2 at_ ∧ w.grownBy w' (some C) := by
  have HA := al_any w (.cells #[.bool false, .bool false, .bool false] 37)
  have HN := Lib.hid (heap_alloc_new w (.cells #[.bool false, .bool false, .bool false] 37))
  have hP := peek_none _ (h.below HA) hl
  have HP := Lib.hid hP
  have HU := Lib.hid (h.below HA)
  have HG := Lib.hid fun W => getWcc_bad 0 W (by decide) (by decide)
  have HC := Lib.hid h.clt
  have HGL := Lib.hid h.glt
  have HA := Lib.hid HA
  clear h hP
  simp only [show ((0 : Nat) : Int) = 0 from rfl] at HG
  go_enter Tryz.func79, Tryz.ntmps79
  go_wp2_with fail
  generalize w.alloc (.cells #[.bool false, .bool false, .bool false] 37) = wa at *
  with_reducible refine HP.out.mono ?_
  rintro e w1 ⟨rfl, j, rfl⟩
  clear HP
  go_wp2_with fail
  with_reducible refine (HG.out _).mono ?_
  rintro e w1 ⟨rfl, hb⟩
  have H1 := kept_hid (kept_draw HA j) hb
  have N1 := blk HN.out (kept_trans (drewN_below _ j wa) hb)
  have U1 := (HU.out.drewN j).below hb
  have H2 := kept_alloc H1 (.cells #[.bool false, .bool false, .bool false] 37)
  have N2 := Lib.hid (blk N1 (al_any w1 (.cells #[.bool false, .bool false, .bool false] 37)))
  have M2 := Lib.hid (heap_alloc_new w1 (.cells #[.bool false, .bool false, .bool false] 37))
  have U2 := Lib.hid (U1.below (al_any w1 (.cells #[.bool false, .bool false, .bool false] 37)))
  have HL := Lib.hid (Nat.lt_of_lt_of_le HC.out H1.out.size)
  have HK := Lib.hid (Nat.lt_of_lt_of_le HGL.out H1.out.size)
  have HB := Lib.hid H1.out.size
  clear hb HU HN HA HG N1 U1 H1
  go_wp2_with fail
  generalize w1.heap.size = L at *
  generalize w1.alloc (.cells #[.bool false, .bool false, .bool false] 37) = w2 at *
  with_reducible refine (byte_none w2 U2.out hl).mono ?_
  rintro e w3 ⟨rfl, ev, hu, hm, hgr⟩
  have U3 := Lib.hid hu
  have M3 := Lib.hid hm
  clear hu hm
  have N3 := Lib.hid (blk_g N2.out hgr (by intro e; injection e with e; have := HC.out; omega))
  have L3 := blk_g M2.out hgr (by intro e; injection e with e; have := HL.out; omega)
  have G3 := Lib.hid (gtrans (gbelow H2.out (some C)) hgr)
  obtain ⟨c0, c1, c2⟩ := cells3 L3
  obtain ⟨d0, d1, d2⟩ := cells3 N3.out
  obtain ⟨f0, f1, f2⟩ := free3 N3.out
  have S3 := Lib.hid (fun u0 u1 u2 => set3g u0 u1 u2 N3.out G3.out (Nat.le_refl _))
  have D3 := Lib.hid d1
  clear hgr L3 N2 M2 H2
  go_wp2_with fail
  have S4 := Lib.hid (S3.out (.bool false) (.bool false) (.bool false))
  clear c0 c1 c2 d0 d1 d2 f0 f1 f2 S3 N3
  generalize ((w3.setCell ⟨w.heap.size, 0, none⟩ (.bool false)).setCell ⟨w.heap.size, 1, none⟩ (.bool false)).setCell ⟨w.heap.size, 2, none⟩ (.bool false) = wz at *
  refine bodyPost_ret (v := .agg #[.bool false, .bool false, .bool false]) (results_cell_row rfl _ _ w.heap.size 37 _ (0, 0) _ rfl S4.out.1 Tryz.underlying37 rfl (by kernel_rfl)) rfl ⟨rfl, ?_⟩
  exact ⟨_, U3.out.other S4.out.2.1 (by have := HC.out; omega) (by have := HGL.out; omega), M3.out.other S4.out.2.1 (fun t x h => by rw [D3.out] at h; cases h), S4.out.2.2⟩
end Str
end Go.Proofs.YtpdlpmbjhopnnaaGreatDoor
/- takeOrders of package stream: the orders that are left, taken; or the first error. -/
namespace Go.Proofs.YtpdlpmbjhopnnaaGreatDoor
open Go.RowKit Sha Cut Err Six Att Byt Apd
namespace Str
open Go.Proofs.YtpdlpmbjhopnnaaGreatDoor.Ord
/-- What is told of orders, once the first one is an order. -/
theorem ords_step {z f at_ : Nat} {y : Nat} {r : List Nat} (h : (oget (y :: r) z).2.2 = 0) :
    ords z (f + 1) at_ (y :: r) = (if (ords z f (at_ + (oget (y :: r) z).2.1) ((y :: r).drop (oget (y :: r) z).2.1)).2.1 = 0 then (oget (y :: r) z).1 :: (ords z f (at_ + (oget (y :: r) z).2.1) ((y :: r).drop (oget (y :: r) z).2.1)).1 else [], (ords z f (at_ + (oget (y :: r) z).2.1) ((y :: r).drop (oget (y :: r) z).2.1)).2) := by
  by_cases h2 : (ords z f (at_ + (oget (y :: r) z).2.1) ((y :: r).drop (oget (y :: r) z).2.1)).2.1 = 0
  · simp only [ords, h, h2, ne_eq, not_true_eq_false, if_false, if_true]
  · simp only [ords, h, h2, ne_eq, not_true_eq_false, not_false_eq_true, if_false, if_true]
theorem ords_stop {z f at_ : Nat} {y : Nat} {r : List Nat} (h : (oget (y :: r) z).2.2 ≠ 0) : ords z (f + 1) at_ (y :: r) = ([], (oget (y :: r) z).2.2, at_ + (oget (y :: r) z).2.1) := by
  simp only [ords, h, ne_eq, not_false_eq_true, if_true]
/-- How things stand within the loop: os are taken, R tells what all of it tells. -/
def Runs (z : Nat) (xs : List Nat) (R : List O × Nat × Nat) (os : List O) (at_ : Nat) : Prop :=
  at_ ≤ xs.length ∧ R = (if (ords z (xs.length - at_) at_ (xs.drop at_)).2.1 = 0 then os ++ (ords z (xs.length - at_) at_ (xs.drop at_)).1 else [], (ords z (xs.length - at_) at_ (xs.drop at_)).2)
theorem runs_start (z : Nat) (xs : List Nat) (at_ : Nat) (h : at_ ≤ xs.length) : Runs z xs (ords z (xs.length - at_) at_ (xs.drop at_)) [] at_ := by
  refine ⟨h, ?_⟩
  rw [List.nil_append]
  have key : ∀ f at' ys, (ords z f at' ys).2.1 ≠ 0 → (ords z f at' ys).1 = [] := by
    intro f
    induction f with
    | zero => intro at' ys h; simp [ords] at h
    | succ f ih =>
      intro at' ys h
      cases ys with
      | nil => simp [ords] at h
      | cons y r =>
        by_cases h1 : (oget (y :: r) z).2.2 = 0
        · rw [ords_step h1] at h ⊢
          simp only at h ⊢
          rw [if_neg h]
        · rw [ords_stop h1]
  by_cases h0 : (ords z (xs.length - at_) at_ (xs.drop at_)).2.1 = 0
  · rw [if_pos h0]
  · rw [if_neg h0, ← key _ _ _ h0]
theorem runs_end {z : Nat} {xs : List Nat} {R : List O × Nat × Nat} {os : List O} (h : Runs z xs R os xs.length) : R = (os, 0, xs.length) := by
  obtain ⟨_, rfl⟩ := h
  simp [ords]
/-- A step: the order that stands there is taken. -/
theorem runs_step {z : Nat} {xs : List Nat} {R : List O × Nat × Nat} {os : List O} {at_ : Nat} (h : Runs z xs R os at_) (h8 : ∀ y ∈ xs, y < 256) (hl : at_ < xs.length) (hw : (oget (xs.drop at_) z).2.2 = 0) :
    Runs z xs R (os ++ [(oget (xs.drop at_) z).1]) (at_ + (oget (xs.drop at_) z).2.1) ∧ 0 < (oget (xs.drop at_) z).2.1 := by
  obtain ⟨_, hR⟩ := h
  have h8' : ∀ y ∈ xs.drop at_, y < 256 := fun y hy => h8 y (List.mem_of_mem_drop hy)
  obtain ⟨hw1, rest, he, htk, hend⟩ := oget_written h8' hw
  have hpos := obytes_pos hw1
  have hle := (oget_lt (z := z) h8').2.2.2
  rw [List.length_drop] at hle
  refine ⟨⟨by omega, ?_⟩, by omega⟩
  rw [hR]
  have hd := drop_cons hl
  rw [hd] at hw ⊢
  have hf : xs.length - at_ = (xs.length - (at_ + 1)) + 1 := by omega
  rw [hf, ords_step hw]
  -- the fuel: as much as bytes are left
  have key : ∀ f f' at' ys, (∀ y ∈ ys, y < 256) → ys.length ≤ f → ys.length ≤ f' → ords z f at' ys = ords z f' at' ys := by
    intro f
    induction f with
    | zero => intro f' at' ys _ h1 h2; have : ys = [] := List.eq_nil_of_length_eq_zero (by omega); subst this; cases f' <;> simp [ords]
    | succ f ih =>
      intro f' at' ys hy8 h1 h2
      cases ys with
      | nil => cases f' <;> simp [ords]
      | cons y r =>
        cases f' with
        | zero => simp at h2
        | succ f' =>
          by_cases h3 : (oget (y :: r) z).2.2 = 0
          · obtain ⟨hw2, _, _, htk2, _⟩ := oget_written hy8 h3
            have hpos2 := obytes_pos hw2
            have hl1 : ((y :: r).drop (oget (y :: r) z).2.1).length ≤ f := by rw [List.length_drop]; omega
            have hl2 : ((y :: r).drop (oget (y :: r) z).2.1).length ≤ f' := by rw [List.length_drop]; omega
            rw [ords_step h3, ords_step h3, ih f' _ _ (fun x hx => hy8 x (List.mem_of_mem_drop hx)) hl1 hl2]
          · rw [ords_stop h3, ords_stop h3]
  rw [← hd]
  rw [← hd] at hw
  have hdd : (xs.drop at_).drop (oget (xs.drop at_) z).2.1 = xs.drop (at_ + (oget (xs.drop at_) z).2.1) := List.drop_drop
  rw [hdd]
  generalize oget (xs.drop at_) z = q at *
  rw [key (xs.length - (at_ + 1)) (xs.length - (at_ + q.2.1)) _ _ (fun y hy => h8 y (List.mem_of_mem_drop hy)) (by rw [List.length_drop]; omega) (by rw [List.length_drop]; omega)]
  by_cases h0 : (ords z (xs.length - (at_ + q.2.1)) (at_ + q.2.1) (xs.drop (at_ + q.2.1))).2.1 = 0
  · simp [h0]
  · simp [h0]
theorem runs_stop {z : Nat} {xs : List Nat} {R : List O × Nat × Nat} {os : List O} {at_ : Nat} (h : Runs z xs R os at_) (hl : at_ < xs.length) (hw : (oget (xs.drop at_) z).2.2 ≠ 0) : R = ([], (oget (xs.drop at_) z).2.2, at_ + (oget (xs.drop at_) z).2.1) := by
  obtain ⟨_, hR⟩ := h
  rw [hR]
  have hd := drop_cons hl
  rw [hd] at hw ⊢
  have hf : xs.length - at_ = (xs.length - (at_ + 1)) + 1 := by omega
  rw [hf, ords_stop hw]
  simp only [if_neg hw]
theorem size_grown {w w' : World} {r : Option Nat} (h : w.grownBy w' r) : w.heap.size ≤ w'.heap.size := h.size
/-- A world that has grown by what a call of its own rows changed. -/
theorem grown_own {w a b : World} {C base : Nat} {v : Value} {os : List O} (hg : w.grownBy a (some C)) (ho : OwnOrds a base v os) (hb : w.heap.size ≤ base) (h : a.grownBy b v.ownBlock) : w.grownBy b (some C) := by
  obtain ⟨us, h1, _⟩ := ho
  refine ⟨h.os.trans hg.os, h.tape.trans hg.tape, h.output.trans hg.output, Nat.le_trans hg.size h.size, fun k hk hr => ?_⟩
  refine (h.block k (Nat.lt_of_lt_of_le hk hg.size) ?_).trans (hg.block k hk hr)
  intro e
  have := own_ge h1 k e.symm
  omega
theorem cur_own {a b : World} {C g at_ base : Nat} {xs : List Nat} {ev : Value} {v : Value} {os : List O} (hu : Cur a C g xs at_ ev) (ho : OwnOrds a base v os) (hC : C < base) (hgb : g < base) (h : a.grownBy b v.ownBlock) : Cur b C g xs at_ ev := by
  obtain ⟨us, h1, _⟩ := ho
  cases hv : v.ownBlock with
  | none => rw [hv] at h; exact hu.below (belowg h)
  | some r =>
    rw [hv] at h
    have := own_ge h1 r hv
    exact hu.other h (by omega) (by omega)
/-- What is told of an error stays behind an append to the orders: no cell of a Spot lies among them. -/
theorem met_own {a b : World} {base : Nat} {v : Value} {os : List O} {ev : Value} {c : Int} {n : Nat} (hm : Byt.Met a ev c n) (ho : OwnOrds a base v os) (h : a.grownBy b v.ownBlock) : Byt.Met b ev c n := by
  obtain ⟨us, h1, h0, h2⟩ := ho
  cases hv : v.ownBlock with
  | none => rw [hv] at h; exact hm.below (belowg h)
  | some r =>
    rw [hv] at h
    refine hm.other h fun t x hx => ?_
    by_cases hos : os = []
    · rw [h0 hos] at hv; cases hv
    · have hpos : 0 < os.length := List.length_pos_iff.2 hos
      obtain ⟨ta, tn, tc, k1, _⟩ := h2 0 hpos
      have k2 := k1 1 _ rfl
      rcases h1.2 with ⟨rfl, _⟩ | ⟨g, cap, cur, rfl, _, k3, _, _, _, k4⟩
      · cases hv
      · injection hv with hv
        simp only at hv
        subst hv
        rw [← k4, List.getElem?_take_of_lt (by omega), Array.getElem?_toList] at k2
        rw [cell_of_row a g 1 cur _ (0, 0) k3] at hx
        rw [show 0 * 8 + 1 = 1 from rfl, hx] at k2
        cases k2
set_option maxRecDepth 100000 in
set_option maxHeartbeats 8000000 in
theorem takeOrders_any {C g at_ : Nat} {xs : List Nat} (z : Nat) (w : World) (h : Cur w C g xs at_ .nilIface) (h8 : ∀ x ∈ xs, x < 256) (hx : xs.length < 1000000) (R : List O × Nat × Nat) (hR : R = ords z (xs.length - at_) at_ (xs.drop at_)) :
    Calls Tryz.prog 80 #[.pointer (some ⟨C, 0, none⟩), .int .i64 (z : Int)] w fun e w' => ∃ ad n cp, e = .returned (.slice ad n cp) ∧ w.grownBy w' (some C) ∧
      ((R.2.1 = 0 ∧ OwnOrds w' w.heap.size (.slice ad n cp) R.1 ∧ Cur w' C g xs xs.length .nilIface) ∨ (R.2.1 ≠ 0 ∧ ∃ ev at', Cur w' C g xs at' ev ∧ Byt.Met w' ev (R.2.1 : Int) R.2.2)) := by
  have HRU := Lib.hid (show Runs z xs R [] at_ by rw [hR]; exact runs_start z xs at_ h.le)
  have HC := Lib.hid h.clt
  have HG := Lib.hid h.glt
  have H8 := Lib.hid h8
  have HX := Lib.hid hx
  have HU := Lib.hid h
  have HW := Lib.hid (grefl w (some C))
  obtain ⟨B, hB⟩ : ∃ B, B = w.heap.size := ⟨_, rfl⟩
  rw [← hB] at HC HG ⊢
  have HB := Lib.hid (show w.heap.size ≤ B by rw [hB]; exact Nat.le_refl _)
  have HB2 := Lib.hid (show B ≤ w.heap.size by rw [hB]; exact Nat.le_refl _)
  clear h h8 hx hR hB
  go_enter Tryz.func80, Tryz.ntmps80
  go_wp2_with fail
  go_loopg [5] (xs.length - at_ + 1) (fun m v wr => (∃ ad n cp, v = .slice ad n cp) ∧ Hid (w.grownBy wr (some C)) ∧ Hid (B ≤ wr.heap.size) ∧ ((∃ os at', Hid (Runs z xs R os at') ∧ Hid (OwnOrds wr B v os) ∧ Hid (os.length ≤ at') ∧ Hid (Cur wr C g xs at' .nilIface) ∧ m = xs.length - at' + 1) ∨ (m = 0 ∧ Hid (R.2.1 ≠ 0) ∧ ∃ ev at' b, Hid (Cur wr C g xs at' ev) ∧ ev = .iface 84 (.pointer (some ⟨b, 0, none⟩)) ∧ Hid (Byt.Met wr ev (R.2.1 : Int) R.2.2))))
  case atStart => exact ⟨⟨_, _, _, rfl⟩, HW, HB2, .inl ⟨[], at_, HRU, Lib.hid (ownOrds_nil _ _), Lib.hid (Nat.zero_le _), HU, rfl⟩⟩
  case round =>
    clear HW HB2 HRU HU
    obtain ⟨⟨vad, vn, vcp, rfl⟩, HW, HB2, ⟨os, at', HR, HO, HN, HU, rfl⟩ | ⟨rfl, HE, ev, at', b, HU, rfl, HM⟩⟩ := hrel
    · by_cases hlt : at' < xs.length
      · go_wp2_with fail
        refine (left_b wr HU.out (by have := HX.out; omega)).mono ?_
        rintro e wd ⟨rfl, hb⟩
        replace HU := Lib.hid (HU.out.below hb)
        replace HO := Lib.hid (HO.out.below hb)
        replace HW := Lib.hid (gtrans HW.out (gbelow hb _))
        replace HB2 := Lib.hid (Nat.le_trans HB2.out hb.size)
        clear hb
        go_wp2_with fail
        refine (err_any wd HU.out).mono ?_
        rintro e w' ⟨rfl, rfl⟩
        go_wp2_with fail
        by_cases h0 : (oget (xs.drop at') z).2.2 = 0
        · have HR2 := Lib.hid (runs_step HR.out H8.out hlt h0)
          have HGET := get_right z wd HU.out H8.out (by have := HX.out; omega) h0
          generalize oget (xs.drop at') z = q at *
          obtain ⟨⟨qk, qt, qp, qn, qs, qm, qa, qc⟩, tk, why⟩ := q
          simp only at HGET HR2
          refine HGET.mono ?_
          rintro e w1 ⟨va, n, vc, rfl, ho, hu, hg⟩
          have T1 := own_mono ho HB2.out
          have O1 := HO.out.other hg HC.out
          have HS := al_any w1 (.cells (ocells ⟨qk, qt, qp, qn, qs, qm, qa, qc⟩ (.slice va n vc)).toArray 76)
          have HU3 := Lib.hid (hu.below HS)
          have HO3 := Lib.hid (O1.below HS)
          have HT3 := Lib.hid (own_below T1 HS)
          have HW3 := Lib.hid (gtrans (gtrans HW.out hg) (gbelow HS _))
          have HB3 := Lib.hid (Nat.le_trans HB2.out (Nat.le_trans hg.size HS.size))
          have HL3 := Lib.hid (heap_alloc_new w1 (.cells (ocells ⟨qk, qt, qp, qn, qs, qm, qa, qc⟩ (.slice va n vc)).toArray 76))
          clear HGET ho hu hg T1 O1 HS HU HO HW HB2 HR
          go_wp2_with (at_builtin; refine wpList_mark ?_)
          refine Lib.hid ?_
          refine append_ord rfl (.tmp 14) (.tmp 18) rfl B _ os rfl HO3.out w1.heap.size ⟨qk, qt, qp, qn, qs, qm, qa, qc⟩ va n vc rfl HL3.out HT3.out (by have := HX.out; have := HN.out; omega) HB3.out ?_
          intro v2 w2 hown hgr
          have HO4 := Lib.hid hown
          have HW4 := Lib.hid (grown_own HW3.out HO3.out HB.out hgr)
          have HU4 := Lib.hid (cur_own HU3.out HO3.out HC.out HG.out hgr)
          have HB4 := Lib.hid (Nat.le_trans HB3.out hgr.size)
          clear hown hgr HO3 HW3 HU3 HB3 HT3 HL3
          obtain ⟨ad2, cp2, rfl⟩ := HO4.out.form
          rw [List.length_append] at HO4 ⊢
          go_wp2_with fail
          go_roundg (xs.length - (at' + tk) + 1)
          case measure => have := HR2.out.2; have := HU4.out.le; omega
          case rel => exact ⟨⟨_, _, _, rfl⟩, HW4, HB4, .inl ⟨_, _, Lib.hid HR2.out.1, HO4, Lib.hid (by rw [List.length_append]; simp only [List.length_cons, List.length_nil]; have := HR2.out.2; have := HN.out; omega), HU4, rfl⟩⟩
        · have HR2 := Lib.hid (runs_stop HR.out hlt h0)
          have HGET := get_wrong z wd HU.out H8.out (by have := HX.out; omega) h0
          have HH0 := Lib.hid h0
          clear h0
          generalize oget (xs.drop at') z = q at *
          obtain ⟨_, tk, why⟩ := q
          simp only at HGET HR2 HH0
          refine HGET.mono ?_
          rintro e w1 ⟨rfl, ev, hu, hm, hg⟩
          have O1 := HO.out.other hg HC.out
          have HS := al_any w1 (.cells (ocells none_ (.slice none 0 0)).toArray 76)
          have HU3 := Lib.hid (hu.below HS)
          have HO3 := Lib.hid (O1.below HS)
          have HM3 := Lib.hid (hm.below HS)
          have HW3 := Lib.hid (gtrans (gtrans HW.out hg) (gbelow HS _))
          have HB3 := Lib.hid (Nat.le_trans HB2.out (Nat.le_trans hg.size HS.size))
          have HL3 := Lib.hid (heap_alloc_new w1 (.cells (ocells none_ (.slice none 0 0)).toArray 76))
          clear HGET hu hm hg O1 HS HU HO HW HB2 HR
          go_wp2_with (at_builtin; refine wpList_mark ?_)
          refine Lib.hid ?_
          refine append_ord rfl (.tmp 14) (.tmp 18) rfl B _ os rfl HO3.out w1.heap.size none_ none 0 0 rfl HL3.out (own_none _ _) (by have := HX.out; have := HN.out; omega) HB3.out ?_
          intro v2 w2 hown hgr
          have HW4 := Lib.hid (grown_own HW3.out HO3.out HB.out hgr)
          have HU4 := Lib.hid (cur_own HU3.out HO3.out HC.out HG.out hgr)
          have HM4 := Lib.hid (met_own HM3.out HO3.out hgr)
          have HB4 := Lib.hid (Nat.le_trans HB3.out hgr.size)
          obtain ⟨ad2, cp2, rfl⟩ := hown.form
          clear hown hgr HO3 HW3 HU3 HB3 HL3 HM3
          have HM5 := HM4.out
          obtain ⟨b, rfl, _⟩ := HM5
          go_wp2_with fail
          go_roundg 0
          case measure => omega
          case rel => exact ⟨⟨_, _, _, rfl⟩, HW4, HB4, .inr ⟨rfl, Lib.hid (by rw [HR2.out]; exact HH0.out), _, _, b, HU4, rfl, Lib.hid (by rw [HR2.out]; exact HM4.out)⟩⟩
      · go_wp2_with fail
        refine (left_b wr HU.out (by have := HX.out; omega)).mono ?_
        rintro e wd ⟨rfl, hb⟩
        replace HU := Lib.hid (HU.out.below hb)
        replace HO := Lib.hid (HO.out.below hb)
        replace HW := Lib.hid (gtrans HW.out (gbelow hb _))
        clear hb
        have hat : at' = xs.length := by have := HU.out.le; omega
        go_wp2_with fail
        go_ret
        subst hat
        have e := runs_end HR.out
        exact ⟨_, _, _, rfl, HW.out, .inl ⟨by rw [e], by rw [e]; exact HO.out, HU.out⟩⟩
    · by_cases hlt : at' < xs.length
      · go_wp2_with fail
        refine (left_b wr HU.out (by have := HX.out; omega)).mono ?_
        rintro e wd ⟨rfl, hb⟩
        replace HU := Lib.hid (HU.out.below hb)
        replace HM := Lib.hid (HM.out.below hb)
        replace HW := Lib.hid (gtrans HW.out (gbelow hb _))
        clear hb
        go_wp2_with fail
        refine (err_any wd HU.out).mono ?_
        rintro e w' ⟨rfl, rfl⟩
        go_wp2_with fail
        go_ret
        exact ⟨_, _, _, rfl, HW.out, .inr ⟨HE.out, _, _, HU.out, HM.out⟩⟩
      · go_wp2_with fail
        refine (left_b wr HU.out (by have := HX.out; omega)).mono ?_
        rintro e wd ⟨rfl, hb⟩
        replace HU := Lib.hid (HU.out.below hb)
        replace HM := Lib.hid (HM.out.below hb)
        replace HW := Lib.hid (gtrans HW.out (gbelow hb _))
        clear hb
        go_wp2_with fail
        go_ret
        exact ⟨_, _, _, rfl, HW.out, .inr ⟨HE.out, _, _, HU.out, HM.out⟩⟩
/-- Behind an error nothing is taken. -/
theorem takeOrders_met {C g at_ b wh : Nat} {c : Int} {xs : List Nat} (z : Int) (w : World) (hu : Cur w C g xs at_ (.iface 84 (.pointer (some ⟨b, 0, none⟩)))) (hm : Byt.Met w (.iface 84 (.pointer (some ⟨b, 0, none⟩))) c wh) (hx : xs.length < 1000000) :
    Calls Tryz.prog 80 #[.pointer (some ⟨C, 0, none⟩), .int .i64 z] w fun e w' => e = .returned (.slice none 0 0) ∧ Cur w' C g xs at_ (.iface 84 (.pointer (some ⟨b, 0, none⟩))) ∧ Byt.Met w' (.iface 84 (.pointer (some ⟨b, 0, none⟩))) c wh ∧ w.grownBy w' (some C) := by
  have HU := Lib.hid hu
  have HM := Lib.hid hm
  have HW := Lib.hid (grefl w (some C))
  have HX := Lib.hid hx
  clear hu hm hx
  go_enter Tryz.func80, Tryz.ntmps80
  go_wp2_with fail
  go_loopg [5] 1 (fun m v wr => m = 1 ∧ v = .slice none 0 0 ∧ wr = w)
  case atStart => exact ⟨rfl, rfl, rfl⟩
  case round =>
    obtain ⟨rfl, rfl, rfl⟩ := hrel
    by_cases hlt : at_ < xs.length
    · go_wp2_with fail
      refine (left_b wr HU.out (by have := HX.out; omega)).mono ?_
      rintro e wd ⟨rfl, hb⟩
      have HU2 := Lib.hid (HU.out.below hb)
      have HM2 := Lib.hid (HM.out.below hb)
      have HW2 := Lib.hid (gtrans HW.out (gbelow hb _))
      clear hb HU HM HW
      go_wp2_with fail
      refine (err_any wd HU2.out).mono ?_
      rintro e w' ⟨rfl, rfl⟩
      go_wp2_with fail
      go_ret
      exact ⟨rfl, HU2.out, HM2.out, HW2.out⟩
    · go_wp2_with fail
      refine (left_b wr HU.out (by have := HX.out; omega)).mono ?_
      rintro e wd ⟨rfl, hb⟩
      have HU2 := Lib.hid (HU.out.below hb)
      have HM2 := Lib.hid (HM.out.below hb)
      have HW2 := Lib.hid (gtrans HW.out (gbelow hb _))
      clear hb HU HM HW
      go_wp2_with fail
      go_ret
      exact ⟨rfl, HU2.out, HM2.out, HW2.out⟩
end Str
end Go.Proofs.YtpdlpmbjhopnnaaGreatDoor
/- takeCommand of package stream. Written by tools/gen_str_cmd.py. -/
namespace Go.Proofs.YtpdlpmbjhopnnaaGreatDoor
open Go.RowKit Sha Cut Err Six Att Byt Apd
namespace Str
open Go.Proofs.YtpdlpmbjhopnnaaGreatDoor.Ord
theorem cells5 {w : World} {B : Nat} {t : TypeId} {a0 a1 a2 a3 a4 : Value} (h : w.heap[B]? = some (.cells #[a0, a1, a2, a3, a4] t (0, 0))) :
    w.cell? ⟨B, 0, none⟩ = some a0 ∧ w.cell? ⟨B, 1, none⟩ = some a1 ∧ w.cell? ⟨B, 2, none⟩ = some a2 ∧ w.cell? ⟨B, 3, none⟩ = some a3 ∧ w.cell? ⟨B, 4, none⟩ = some a4 :=
  ⟨cell_of_row _ _ 0 _ _ _ h, cell_of_row _ _ 1 _ _ _ h, cell_of_row _ _ 2 _ _ _ h, cell_of_row _ _ 3 _ _ _ h, cell_of_row _ _ 4 _ _ _ h⟩
theorem free5 {w : World} {B : Nat} {t : TypeId} {cs : Array Value} (h : w.heap[B]? = some (.cells cs t (0, 0))) :
    w.frozen? ⟨B, 0, none⟩ = false ∧ w.frozen? ⟨B, 1, none⟩ = false ∧ w.frozen? ⟨B, 2, none⟩ = false ∧ w.frozen? ⟨B, 3, none⟩ = false ∧ w.frozen? ⟨B, 4, none⟩ = false :=
  ⟨frozen_of_row _ _ 0 _ _ h, frozen_of_row _ _ 1 _ _ h, frozen_of_row _ _ 2 _ _ h, frozen_of_row _ _ 3 _ _ h, frozen_of_row _ _ 4 _ _ h⟩
theorem set5g {w a : World} {B : Nat} {r : Option Nat} {t : TypeId} {a0 a1 a2 a3 a4 : Value} (u0 u1 u2 u3 u4 : Value) (h : a.heap[B]? = some (.cells #[a0, a1, a2, a3, a4] t (0, 0))) (hg : w.grownBy a r) (hB : w.heap.size ≤ B) :
    (((((a.setCell ⟨B, 0, none⟩ u0).setCell ⟨B, 1, none⟩ u1).setCell ⟨B, 2, none⟩ u2).setCell ⟨B, 3, none⟩ u3).setCell ⟨B, 4, none⟩ u4).heap[B]? = some (.cells #[u0, u1, u2, u3, u4] t (0, 0)) ∧ a.grownBy (((((a.setCell ⟨B, 0, none⟩ u0).setCell ⟨B, 1, none⟩ u1).setCell ⟨B, 2, none⟩ u2).setCell ⟨B, 3, none⟩ u3).setCell ⟨B, 4, none⟩ u4) (some B) ∧ w.grownBy (((((a.setCell ⟨B, 0, none⟩ u0).setCell ⟨B, 1, none⟩ u1).setCell ⟨B, 2, none⟩ u2).setCell ⟨B, 3, none⟩ u3).setCell ⟨B, 4, none⟩ u4) r := by
  have h := heap_setCell_same _ B 0 _ t u0 h
  have h := heap_setCell_same _ B 1 _ t u1 h
  have h := heap_setCell_same _ B 2 _ t u2 h
  have h := heap_setCell_same _ B 3 _ t u3 h
  have h := heap_setCell_same _ B 4 _ t u4 h
  have hs : a.grownBy (((((a.setCell ⟨B, 0, none⟩ u0).setCell ⟨B, 1, none⟩ u1).setCell ⟨B, 2, none⟩ u2).setCell ⟨B, 3, none⟩ u3).setCell ⟨B, 4, none⟩ u4) (some B) := gtrans (gsetCell _ _ _ _) (gtrans (gsetCell _ _ _ _) (gtrans (gsetCell _ _ _ _) (gtrans (gsetCell _ _ _ _) (gsetCell _ _ _ _))))
  exact ⟨h, hs, gnew hg hs hB⟩
theorem set13g {w a : World} {B : Nat} {r : Option Nat} {t : TypeId} {a0 a1 a2 a3 a4 : Value} (u1 u2 u3 : Value) (h : a.heap[B]? = some (.cells #[a0, a1, a2, a3, a4] t (0, 0))) (hg : w.grownBy a r) (hB : w.heap.size ≤ B) :
    (((a.setCell ⟨B, 1, none⟩ u1).setCell ⟨B, 2, none⟩ u2).setCell ⟨B, 3, none⟩ u3).heap[B]? = some (.cells #[a0, u1, u2, u3, a4] t (0, 0)) ∧ a.grownBy (((a.setCell ⟨B, 1, none⟩ u1).setCell ⟨B, 2, none⟩ u2).setCell ⟨B, 3, none⟩ u3) (some B) ∧ w.grownBy (((a.setCell ⟨B, 1, none⟩ u1).setCell ⟨B, 2, none⟩ u2).setCell ⟨B, 3, none⟩ u3) r := by
  have h := heap_setCell_same _ B 1 _ t u1 h
  have h := heap_setCell_same _ B 2 _ t u2 h
  have h := heap_setCell_same _ B 3 _ t u3 h
  have hs : a.grownBy (((a.setCell ⟨B, 1, none⟩ u1).setCell ⟨B, 2, none⟩ u2).setCell ⟨B, 3, none⟩ u3) (some B) := gtrans (gsetCell _ _ _ _) (gtrans (gsetCell _ _ _ _) (gsetCell _ _ _ _))
  exact ⟨h, hs, gnew hg hs hB⟩
theorem set4w {w a : World} {B : Nat} {r : Option Nat} {t : TypeId} {a0 a1 a2 a3 a4 : Value} (u4 : Value) (h : a.heap[B]? = some (.cells #[a0, a1, a2, a3, a4] t (0, 0))) (hg : w.grownBy a r) (hB : w.heap.size ≤ B) :
    (a.setCell ⟨B, 4, none⟩ u4).heap[B]? = some (.cells #[a0, a1, a2, a3, u4] t (0, 0)) ∧ a.grownBy (a.setCell ⟨B, 4, none⟩ u4) (some B) ∧ w.grownBy (a.setCell ⟨B, 4, none⟩ u4) r := by
  have h := heap_setCell_same _ B 4 _ t u4 h
  have hs : a.grownBy (a.setCell ⟨B, 4, none⟩ u4) (some B) := gsetCell _ _ _ _
  exact ⟨h, hs, gnew hg hs hB⟩
set_option maxRecDepth 100000 in
set_option maxHeartbeats 8000000 in
theorem command_none {C g : Nat} {xs : List Nat} (z : Nat) (w : World) (h : Cur w C g xs 0 .nilIface) (hx : xs.length < 1000000) (hl : xs.length = 0) :
    Calls Tryz.prog 42 #[.pointer (some ⟨C, 0, none⟩), .int .i64 (z : Int)] w fun e w' => ∃ (c : Int) (a u r : Bool) (ad : Option Addr) (n cp : Nat), e = .returned (.agg #[.int .i64 c, .bool a, .bool u, .bool r, .slice ad n cp]) ∧ w.grownBy w' (some C) ∧ ∃ ev at_, Cur w' C g xs at_ ev ∧ Byt.Met w' ev 2 0 := by
  have HC := Lib.hid h.clt
  have HGL := Lib.hid h.glt
  have HX := Lib.hid hx
  have HA := al_any w (.cells #[.int .i64 0, .bool false, .bool false, .bool false, .slice none 0 0] 39)
  have HN := Lib.hid (heap_alloc_new w (.cells #[.int .i64 0, .bool false, .bool false, .bool false, .slice none 0 0] 39))
  have HW0 := Lib.hid (gbelow HA (some C))
  have HU := h.below HA
  have HWR := Lib.hid fun W => writes_any 0 W
  rw [show writes 0 = false by decide] at HWR
  have HLE := Lib.hid hl
  have HCMD := Lib.hid (takeCmd_none _ HU (by omega))
  clear h HU HA hx
  go_enter Tryz.func42, Tryz.ntmps42
  go_wp2_with fail
  generalize w.alloc (.cells #[.int .i64 0, .bool false, .bool false, .bool false, .slice none 0 0] 39) = wa at *
  with_reducible refine HCMD.out.mono ?_
  rintro e w1 ⟨rfl, ev, hu, hm, hg⟩
  have N1 := blk_g HN.out hg (by intro e; injection e with e; have := HC.out; omega)
  have HS := al_any w1 (.cells #[.int .i64 0, .bool false, .bool false, .bool false, .slice none 0 0] 39)
  have N2 := Lib.hid (blk N1 HS)
  have M2 := Lib.hid (heap_alloc_new w1 (.cells #[.int .i64 0, .bool false, .bool false, .bool false, .slice none 0 0] 39))
  have U2 := Lib.hid (hu.below HS)
  have E2 := Lib.hid (hm.below HS)
  have G2 := Lib.hid (gtrans (gtrans HW0.out hg) (gbelow HS _))
  have HL := Lib.hid (show w.heap.size < w1.heap.size from there_lt N1)
  clear HCMD N1 hu hg HS HN HW0 hm
  go_wp2_with fail
  generalize w1.heap.size = L at *
  generalize w1.alloc (.cells #[.int .i64 0, .bool false, .bool false, .bool false, .slice none 0 0] 39) = w2 at *
  with_reducible refine (HWR.out w2).mono ?_
  rintro e w' ⟨rfl, rfl⟩
  have hq : ¬ 0 < xs.length := by omega
  go_wp2_with fail
  with_reducible refine (left_b w2 U2.out (by have := HX.out; omega)).mono ?_
  rintro e w3 ⟨rfl, hb⟩
  have N3 := Lib.hid (blk N2.out hb)
  have M3 := Lib.hid (blk M2.out hb)
  have U3 := Lib.hid (U2.out.below hb)
  have G3 := Lib.hid (gtrans G2.out (gbelow hb _))
  have E3 := Lib.hid (E2.out.below hb)
  clear hb
  obtain ⟨c0, c1, c2, c3, c4⟩ := cells5 M3.out
  obtain ⟨d0, d1, d2, d3, d4⟩ := cells5 N3.out
  obtain ⟨f0, f1, f2, f3, f4⟩ := free5 N3.out
  have D1 := Lib.hid d1
  have SF := Lib.hid (set5g (.int .i64 0) (.bool false) (.bool false) (.bool false) (.slice none 0 0) N3.out G3.out (Nat.le_refl _))
  go_wp2_with fail
  clear c0 c1 c2 c3 c4 d0 d1 d2 d3 d4 f0 f1 f2 f3 f4
  generalize ((((w3.setCell ⟨w.heap.size, 0, none⟩ (.int .i64 0)).setCell ⟨w.heap.size, 1, none⟩ (.bool false)).setCell ⟨w.heap.size, 2, none⟩ (.bool false)).setCell ⟨w.heap.size, 3, none⟩ (.bool false)).setCell ⟨w.heap.size, 4, none⟩ (.slice none 0 0) = wz at *
  refine bodyPost_ret (v := .agg #[.int .i64 0, .bool false, .bool false, .bool false, .slice none 0 0]) (results_cell_row rfl _ _ w.heap.size 39 _ (0, 0) _ rfl SF.out.1 Tryz.underlying39 rfl (by kernel_rfl)) rfl ?_
  exact ⟨_, _, _, _, _, _, _, rfl, SF.out.2.2, _, _, (U3.out.other SF.out.2.1 (by have := HC.out; omega) (by have := HGL.out; omega)), E3.out.other SF.out.2.1 (fun t x h => by rw [D1.out] at h; cases h)⟩
set_option maxRecDepth 100000 in
set_option maxHeartbeats 8000000 in
theorem command_strange {C g : Nat} {xs : List Nat} (z : Nat) (w : World) (h : Cur w C g xs 0 .nilIface) (hx : xs.length < 1000000) (hl : 0 < xs.length) (hb8 : xs.getD 0 0 < 256) (hk : known ((xs.getD 0 0 : Nat) : Int) = false) :
    Calls Tryz.prog 42 #[.pointer (some ⟨C, 0, none⟩), .int .i64 (z : Int)] w fun e w' => ∃ (c : Int) (a u r : Bool) (ad : Option Addr) (n cp : Nat), e = .returned (.agg #[.int .i64 c, .bool a, .bool u, .bool r, .slice ad n cp]) ∧ w.grownBy w' (some C) ∧ ∃ ev at_, Cur w' C g xs at_ ev ∧ Byt.Met w' ev 5 0 := by
  have HC := Lib.hid h.clt
  have HGL := Lib.hid h.glt
  have HX := Lib.hid hx
  have HA := al_any w (.cells #[.int .i64 0, .bool false, .bool false, .bool false, .slice none 0 0] 39)
  have HN := Lib.hid (heap_alloc_new w (.cells #[.int .i64 0, .bool false, .bool false, .bool false, .slice none 0 0] 39))
  have HW0 := Lib.hid (gbelow HA (some C))
  have HU := h.below HA
  have HWR := Lib.hid fun W => writes_any 0 W
  rw [show writes 0 = false by decide] at HWR
  have HCMD := Lib.hid (takeCmd_bad _ HU hl hb8 hk)
  clear h HU HA hx
  go_enter Tryz.func42, Tryz.ntmps42
  go_wp2_with fail
  generalize w.alloc (.cells #[.int .i64 0, .bool false, .bool false, .bool false, .slice none 0 0] 39) = wa at *
  with_reducible refine HCMD.out.mono ?_
  rintro e w1 ⟨rfl, ev, hu, hm, hg⟩
  have N1 := blk_g HN.out hg (by intro e; injection e with e; have := HC.out; omega)
  have HS := al_any w1 (.cells #[.int .i64 0, .bool false, .bool false, .bool false, .slice none 0 0] 39)
  have N2 := Lib.hid (blk N1 HS)
  have M2 := Lib.hid (heap_alloc_new w1 (.cells #[.int .i64 0, .bool false, .bool false, .bool false, .slice none 0 0] 39))
  have U2 := Lib.hid (hu.below HS)
  have E2 := Lib.hid (hm.below HS)
  have G2 := Lib.hid (gtrans (gtrans HW0.out hg) (gbelow HS _))
  have HL := Lib.hid (show w.heap.size < w1.heap.size from there_lt N1)
  clear HCMD N1 hu hg HS HN HW0 hm
  go_wp2_with fail
  generalize w1.heap.size = L at *
  generalize w1.alloc (.cells #[.int .i64 0, .bool false, .bool false, .bool false, .slice none 0 0] 39) = w2 at *
  with_reducible refine (HWR.out w2).mono ?_
  rintro e w' ⟨rfl, rfl⟩
  go_wp2_with fail
  with_reducible refine (left_b w2 U2.out (by have := HX.out; omega)).mono ?_
  rintro e w3 ⟨rfl, hb⟩
  have N3 := Lib.hid (blk N2.out hb)
  have M3 := Lib.hid (blk M2.out hb)
  have U3 := Lib.hid (U2.out.below hb)
  have G3 := Lib.hid (gtrans G2.out (gbelow hb _))
  have E3 := Lib.hid (E2.out.below hb)
  clear hb
  have E4 := E3.out
  obtain ⟨b, rfl, _⟩ := E4
  go_wp2_with fail
  with_reducible refine (fail_met _ w3 U3.out).mono ?_
  rintro e w' ⟨rfl, rfl⟩
  obtain ⟨c0, c1, c2, c3, c4⟩ := cells5 M3.out
  obtain ⟨d0, d1, d2, d3, d4⟩ := cells5 N3.out
  obtain ⟨f0, f1, f2, f3, f4⟩ := free5 N3.out
  have D1 := Lib.hid d1
  have SF := Lib.hid (set5g (.int .i64 0) (.bool false) (.bool false) (.bool false) (.slice none 0 0) N3.out G3.out (Nat.le_refl _))
  go_wp2_with fail
  clear c0 c1 c2 c3 c4 d0 d1 d2 d3 d4 f0 f1 f2 f3 f4
  generalize ((((w3.setCell ⟨w.heap.size, 0, none⟩ (.int .i64 0)).setCell ⟨w.heap.size, 1, none⟩ (.bool false)).setCell ⟨w.heap.size, 2, none⟩ (.bool false)).setCell ⟨w.heap.size, 3, none⟩ (.bool false)).setCell ⟨w.heap.size, 4, none⟩ (.slice none 0 0) = wz at *
  refine bodyPost_ret (v := .agg #[.int .i64 0, .bool false, .bool false, .bool false, .slice none 0 0]) (results_cell_row rfl _ _ w.heap.size 39 _ (0, 0) _ rfl SF.out.1 Tryz.underlying39 rfl (by kernel_rfl)) rfl ?_
  exact ⟨_, _, _, _, _, _, _, rfl, SF.out.2.2, _, _, (U3.out.other SF.out.2.1 (by have := HC.out; omega) (by have := HGL.out; omega)), E3.out.other SF.out.2.1 (fun t x h => by rw [D1.out] at h; cases h)⟩
set_option maxRecDepth 100000 in
set_option maxHeartbeats 8000000 in
theorem command_bare {C g : Nat} {xs : List Nat} (z : Nat) (w : World) (h : Cur w C g xs 0 .nilIface) (hx : xs.length < 1000000) (hl : 0 < xs.length) (hb8 : xs.getD 0 0 < 256) (cmd : Nat) (hcm : xs.getD 0 0 = cmd) (hk : known (cmd : Int) = true) (hw : writes (cmd : Int) = false) (h1 : xs.length = 1) :
    Calls Tryz.prog 42 #[.pointer (some ⟨C, 0, none⟩), .int .i64 (z : Int)] w fun e w' => ∃ ad n cp, e = .returned (.agg #[.int .i64 (cmd : Int), .bool false, .bool false, .bool false, .slice ad n cp]) ∧ w.grownBy w' (some C) ∧ OrdsIn w' w.heap.size (.slice ad n cp) [] ∧ ∃ at_, Cur w' C g xs at_ .nilIface := by
  have HC := Lib.hid h.clt
  have HGL := Lib.hid h.glt
  have HX := Lib.hid hx
  have HA := al_any w (.cells #[.int .i64 0, .bool false, .bool false, .bool false, .slice none 0 0] 39)
  have HN := Lib.hid (heap_alloc_new w (.cells #[.int .i64 0, .bool false, .bool false, .bool false, .slice none 0 0] 39))
  have HW0 := Lib.hid (gbelow HA (some C))
  have HU := h.below HA
  rw [hcm] at hb8
  have HWR := Lib.hid fun W => writes_any (cmd : Int) W
  rw [hw] at HWR
  have HTC := takeCmd_ok _ HU (by omega) hl (by rw [hcm]; exact hb8) (by rw [hcm]; exact hk)
  rw [hcm] at HTC
  clear hk hw hcm hb8
  have HCMD := Lib.hid (HTC)
  clear h HU HA hx
  go_enter Tryz.func42, Tryz.ntmps42
  go_wp2_with fail
  generalize w.alloc (.cells #[.int .i64 0, .bool false, .bool false, .bool false, .slice none 0 0] 39) = wa at *
  with_reducible refine HCMD.out.mono ?_
  rintro e w1 ⟨rfl, hu, hg⟩
  have N1 := blk_g HN.out hg (by intro e; injection e with e; have := HC.out; omega)
  have HS := al_any w1 (.cells #[.int .i64 (cmd : Int), .bool false, .bool false, .bool false, .slice none 0 0] 39)
  have N2 := Lib.hid (blk N1 HS)
  have M2 := Lib.hid (heap_alloc_new w1 (.cells #[.int .i64 (cmd : Int), .bool false, .bool false, .bool false, .slice none 0 0] 39))
  have U2 := Lib.hid (hu.below HS)
  have G2 := Lib.hid (gtrans (gtrans HW0.out hg) (gbelow HS _))
  have HL := Lib.hid (show w.heap.size < w1.heap.size from there_lt N1)
  clear HCMD HTC N1 hu hg HS HN HW0
  go_wp2_with fail
  generalize w1.heap.size = L at *
  generalize w1.alloc (.cells #[.int .i64 (cmd : Int), .bool false, .bool false, .bool false, .slice none 0 0] 39) = w2 at *
  with_reducible refine (HWR.out w2).mono ?_
  rintro e w' ⟨rfl, rfl⟩
  have hq : ¬ 0 < xs.length - (0 + 1) := by omega
  go_wp2_with fail
  with_reducible refine (left_b w2 U2.out (by have := HX.out; omega)).mono ?_
  rintro e w3 ⟨rfl, hb⟩
  have N3 := Lib.hid (blk N2.out hb)
  have M3 := Lib.hid (blk M2.out hb)
  have U3 := Lib.hid (U2.out.below hb)
  have G3 := Lib.hid (gtrans G2.out (gbelow hb _))
  clear hb
  obtain ⟨c0, c1, c2, c3, c4⟩ := cells5 M3.out
  obtain ⟨d0, d1, d2, d3, d4⟩ := cells5 N3.out
  obtain ⟨f0, f1, f2, f3, f4⟩ := free5 N3.out
  have D1 := Lib.hid d1
  have SF := Lib.hid (set5g (.int .i64 (cmd : Int)) (.bool false) (.bool false) (.bool false) (.slice none 0 0) N3.out G3.out (Nat.le_refl _))
  go_wp2_with fail
  clear c0 c1 c2 c3 c4 d0 d1 d2 d3 d4 f0 f1 f2 f3 f4
  generalize ((((w3.setCell ⟨w.heap.size, 0, none⟩ (.int .i64 (cmd : Int))).setCell ⟨w.heap.size, 1, none⟩ (.bool false)).setCell ⟨w.heap.size, 2, none⟩ (.bool false)).setCell ⟨w.heap.size, 3, none⟩ (.bool false)).setCell ⟨w.heap.size, 4, none⟩ (.slice none 0 0) = wz at *
  refine bodyPost_ret (v := .agg #[.int .i64 (cmd : Int), .bool false, .bool false, .bool false, .slice none 0 0]) (results_cell_row rfl _ _ w.heap.size 39 _ (0, 0) _ rfl SF.out.1 Tryz.underlying39 rfl (by kernel_rfl)) rfl ?_
  exact ⟨_, _, _, rfl, SF.out.2.2, ordsIn_nil _ _, _, (U3.out.other SF.out.2.1 (by have := HC.out; omega) (by have := HGL.out; omega))⟩
set_option maxRecDepth 100000 in
set_option maxHeartbeats 8000000 in
theorem command_more {C g : Nat} {xs : List Nat} (z : Nat) (w : World) (h : Cur w C g xs 0 .nilIface) (hx : xs.length < 1000000) (hl : 0 < xs.length) (hb8 : xs.getD 0 0 < 256) (cmd : Nat) (hcm : xs.getD 0 0 = cmd) (hk : known (cmd : Int) = true) (hw : writes (cmd : Int) = false) (h1 : 1 < xs.length) :
    Calls Tryz.prog 42 #[.pointer (some ⟨C, 0, none⟩), .int .i64 (z : Int)] w fun e w' => ∃ (c : Int) (a u r : Bool) (ad : Option Addr) (n cp : Nat), e = .returned (.agg #[.int .i64 c, .bool a, .bool u, .bool r, .slice ad n cp]) ∧ w.grownBy w' (some C) ∧ ∃ ev at_, Cur w' C g xs at_ ev ∧ Byt.Met w' ev 1 1 := by
  have HC := Lib.hid h.clt
  have HGL := Lib.hid h.glt
  have HX := Lib.hid hx
  have HA := al_any w (.cells #[.int .i64 0, .bool false, .bool false, .bool false, .slice none 0 0] 39)
  have HN := Lib.hid (heap_alloc_new w (.cells #[.int .i64 0, .bool false, .bool false, .bool false, .slice none 0 0] 39))
  have HW0 := Lib.hid (gbelow HA (some C))
  have HU := h.below HA
  rw [hcm] at hb8
  have HWR := Lib.hid fun W => writes_any (cmd : Int) W
  rw [hw] at HWR
  have HTC := takeCmd_ok _ HU (by omega) hl (by rw [hcm]; exact hb8) (by rw [hcm]; exact hk)
  rw [hcm] at HTC
  clear hk hw hcm hb8
  have HCMD := Lib.hid (HTC)
  clear h HU HA hx
  go_enter Tryz.func42, Tryz.ntmps42
  go_wp2_with fail
  generalize w.alloc (.cells #[.int .i64 0, .bool false, .bool false, .bool false, .slice none 0 0] 39) = wa at *
  with_reducible refine HCMD.out.mono ?_
  rintro e w1 ⟨rfl, hu, hg⟩
  have N1 := blk_g HN.out hg (by intro e; injection e with e; have := HC.out; omega)
  have HS := al_any w1 (.cells #[.int .i64 (cmd : Int), .bool false, .bool false, .bool false, .slice none 0 0] 39)
  have N2 := Lib.hid (blk N1 HS)
  have M2 := Lib.hid (heap_alloc_new w1 (.cells #[.int .i64 (cmd : Int), .bool false, .bool false, .bool false, .slice none 0 0] 39))
  have U2 := Lib.hid (hu.below HS)
  have G2 := Lib.hid (gtrans (gtrans HW0.out hg) (gbelow HS _))
  have HL := Lib.hid (show w.heap.size < w1.heap.size from there_lt N1)
  clear HCMD HTC N1 hu hg HS HN HW0
  go_wp2_with fail
  generalize w1.heap.size = L at *
  generalize w1.alloc (.cells #[.int .i64 (cmd : Int), .bool false, .bool false, .bool false, .slice none 0 0] 39) = w2 at *
  with_reducible refine (HWR.out w2).mono ?_
  rintro e w' ⟨rfl, rfl⟩
  have hq : 0 < xs.length - (0 + 1) := by omega
  go_wp2_with fail
  with_reducible refine (left_b w2 U2.out (by have := HX.out; omega)).mono ?_
  rintro e w3 ⟨rfl, hb⟩
  have N3 := Lib.hid (blk N2.out hb)
  have M3 := Lib.hid (blk M2.out hb)
  have U3 := Lib.hid (U2.out.below hb)
  have G3 := Lib.hid (gtrans G2.out (gbelow hb _))
  clear hb
  go_wp2_with fail
  have HF := Lib.hid (fail_new (d := 0) (.iface 71 (.int .i64 1)) 1 w3 U3.out rfl)
  with_reducible refine HF.out.mono ?_
  clear HF
  rintro e w4 ⟨rfl, ev, hu, hm, hg⟩
  have N4 := Lib.hid (blk_g N3.out hg (by intro e; injection e with e; have := HC.out; omega))
  have M4 := Lib.hid (blk_g M3.out hg (by intro e; injection e with e; have := HC.out; have := HL.out; omega))
  have U4 := Lib.hid hu
  have G4 := Lib.hid (gtrans G3.out hg)
  have E4 := Lib.hid hm
  clear hu hm hg
  obtain ⟨c0, c1, c2, c3, c4⟩ := cells5 M4.out
  obtain ⟨d0, d1, d2, d3, d4⟩ := cells5 N4.out
  obtain ⟨f0, f1, f2, f3, f4⟩ := free5 N4.out
  have D1 := Lib.hid d1
  have SF := Lib.hid (set5g (.int .i64 (cmd : Int)) (.bool false) (.bool false) (.bool false) (.slice none 0 0) N4.out G4.out (Nat.le_refl _))
  go_wp2_with fail
  clear c0 c1 c2 c3 c4 d0 d1 d2 d3 d4 f0 f1 f2 f3 f4
  generalize ((((w4.setCell ⟨w.heap.size, 0, none⟩ (.int .i64 (cmd : Int))).setCell ⟨w.heap.size, 1, none⟩ (.bool false)).setCell ⟨w.heap.size, 2, none⟩ (.bool false)).setCell ⟨w.heap.size, 3, none⟩ (.bool false)).setCell ⟨w.heap.size, 4, none⟩ (.slice none 0 0) = wz at *
  refine bodyPost_ret (v := .agg #[.int .i64 (cmd : Int), .bool false, .bool false, .bool false, .slice none 0 0]) (results_cell_row rfl _ _ w.heap.size 39 _ (0, 0) _ rfl SF.out.1 Tryz.underlying39 rfl (by kernel_rfl)) rfl ?_
  exact ⟨_, _, _, _, _, _, _, rfl, SF.out.2.2, _, _, (U4.out.other SF.out.2.1 (by have := HC.out; omega) (by have := HGL.out; omega)), E4.out.other SF.out.2.1 (fun t x h => by rw [D1.out] at h; cases h)⟩
set_option maxRecDepth 100000 in
set_option maxHeartbeats 8000000 in
theorem command_cut {C g : Nat} {xs : List Nat} (z : Nat) (w : World) (h : Cur w C g xs 0 .nilIface) (hx : xs.length < 1000000) (hl : 0 < xs.length) (hb8 : xs.getD 0 0 < 256) (cmd : Nat) (hcm : xs.getD 0 0 = cmd) (hk : known (cmd : Int) = true) (hw : writes (cmd : Int) = true) (h1 : xs.length = 1) :
    Calls Tryz.prog 42 #[.pointer (some ⟨C, 0, none⟩), .int .i64 (z : Int)] w fun e w' => ∃ (c : Int) (a u r : Bool) (ad : Option Addr) (n cp : Nat), e = .returned (.agg #[.int .i64 c, .bool a, .bool u, .bool r, .slice ad n cp]) ∧ w.grownBy w' (some C) ∧ ∃ ev at_, Cur w' C g xs at_ ev ∧ Byt.Met w' ev 2 1 := by
  have HC := Lib.hid h.clt
  have HGL := Lib.hid h.glt
  have HX := Lib.hid hx
  have HA := al_any w (.cells #[.int .i64 0, .bool false, .bool false, .bool false, .slice none 0 0] 39)
  have HN := Lib.hid (heap_alloc_new w (.cells #[.int .i64 0, .bool false, .bool false, .bool false, .slice none 0 0] 39))
  have HW0 := Lib.hid (gbelow HA (some C))
  have HU := h.below HA
  rw [hcm] at hb8
  have HWR := Lib.hid fun W => writes_any (cmd : Int) W
  rw [hw] at HWR
  have HTC := takeCmd_ok _ HU (by omega) hl (by rw [hcm]; exact hb8) (by rw [hcm]; exact hk)
  rw [hcm] at HTC
  clear hk hw hcm hb8
  have HCMD := Lib.hid (HTC)
  clear h HU HA hx
  go_enter Tryz.func42, Tryz.ntmps42
  go_wp2_with fail
  generalize w.alloc (.cells #[.int .i64 0, .bool false, .bool false, .bool false, .slice none 0 0] 39) = wa at *
  with_reducible refine HCMD.out.mono ?_
  rintro e w1 ⟨rfl, hu, hg⟩
  have N1 := blk_g HN.out hg (by intro e; injection e with e; have := HC.out; omega)
  have HS := al_any w1 (.cells #[.int .i64 (cmd : Int), .bool false, .bool false, .bool false, .slice none 0 0] 39)
  have N2 := Lib.hid (blk N1 HS)
  have M2 := Lib.hid (heap_alloc_new w1 (.cells #[.int .i64 (cmd : Int), .bool false, .bool false, .bool false, .slice none 0 0] 39))
  have U2 := Lib.hid (hu.below HS)
  have G2 := Lib.hid (gtrans (gtrans HW0.out hg) (gbelow HS _))
  have HL := Lib.hid (show w.heap.size < w1.heap.size from there_lt N1)
  clear HCMD HTC N1 hu hg HS HN HW0
  go_wp2_with fail
  generalize w1.heap.size = L at *
  generalize w1.alloc (.cells #[.int .i64 (cmd : Int), .bool false, .bool false, .bool false, .slice none 0 0] 39) = w2 at *
  with_reducible refine (HWR.out w2).mono ?_
  rintro e w' ⟨rfl, rfl⟩
  go_wp2_with fail
  with_reducible refine (takeWcc_none w2 U2.out (by omega)).mono ?_
  rintro e w3 ⟨rfl, ev, hu, hm, hg⟩
  have N3 := Lib.hid (blk_g N2.out hg (by intro e; injection e with e; have := HC.out; omega))
  have M3 := Lib.hid (blk_g M2.out hg (by intro e; injection e with e; have := HC.out; have := HL.out; omega))
  have U3 := Lib.hid hu
  have G3 := Lib.hid (gtrans G2.out hg)
  have E3 := Lib.hid hm
  clear hu hg hm N2 M2 U2 G2
  obtain ⟨c0, c1, c2, c3, c4⟩ := cells5 M3.out
  obtain ⟨f0, f1, f2, f3, f4⟩ := free5 M3.out
  have C1 := Lib.hid c1
  have SF := Lib.hid (set13g (.bool false) (.bool false) (.bool false) M3.out G3.out (Nat.le_of_lt HL.out))
  go_wp2_with fail
  clear c0 c1 c2 c3 c4 f0 f1 f2 f3 f4
  generalize ((w3.setCell ⟨L, 1, none⟩ (.bool false)).setCell ⟨L, 2, none⟩ (.bool false)).setCell ⟨L, 3, none⟩ (.bool false) = w4 at *
  have M4 := Lib.hid SF.out.1
  have N4 := Lib.hid (blk_g N3.out SF.out.2.1 (by intro e; injection e with e; have := HL.out; omega))
  have U4 := Lib.hid (U3.out.other SF.out.2.1 (by have := HC.out; have := HL.out; omega) (by have := HGL.out; have := HL.out; omega))
  have G4 := Lib.hid SF.out.2.2
  have E4 := Lib.hid (E3.out.other SF.out.2.1 (fun t x h => by rw [C1.out] at h; cases h))
  clear SF N3 M3 U3 G3 C1 E3
  have E4b := E4.out
  obtain ⟨b, rfl, _⟩ := E4b
  with_reducible refine (takeOrders_met (z : Int) w4 U4.out E4.out HX.out).mono ?_
  rintro e w5 ⟨rfl, hu, hm, hg⟩
  have N5 := Lib.hid (blk_g N4.out hg (by intro e; injection e with e; have := HC.out; omega))
  have M5 := Lib.hid (blk_g M4.out hg (by intro e; injection e with e; have := HC.out; have := HL.out; omega))
  have U5 := Lib.hid hu
  have G5 := Lib.hid (gtrans G4.out hg)
  have E5 := Lib.hid hm
  clear hu hg hm N4 M4 U4 G4
  obtain ⟨c0, c1, c2, c3, c4⟩ := cells5 M5.out
  obtain ⟨f0, f1, f2, f3, f4⟩ := free5 M5.out
  have C1 := Lib.hid c1
  have SF := Lib.hid (set4w (.slice none 0 0) M5.out G5.out (Nat.le_of_lt HL.out))
  go_upto_region 7 with (fail)
  clear c0 c1 c2 c3 c4 f0 f1 f2 f3 f4
  generalize w5.setCell ⟨L, 4, none⟩ (.slice none 0 0) = w6 at *
  have M6 := Lib.hid SF.out.1
  have N6 := Lib.hid (blk_g N5.out SF.out.2.1 (by intro e; injection e with e; have := HL.out; omega))
  have U6 := Lib.hid (U5.out.other SF.out.2.1 (by have := HC.out; have := HL.out; omega) (by have := HGL.out; have := HL.out; omega))
  have G6 := Lib.hid SF.out.2.2
  have E6 := Lib.hid (E5.out.other SF.out.2.1 (fun t x h => by rw [C1.out] at h; cases h))
  clear SF N5 M5 U5 G5 C1 E5
  obtain ⟨c0, c1, c2, c3, c4⟩ := cells5 M6.out
  obtain ⟨d0, d1, d2, d3, d4⟩ := cells5 N6.out
  obtain ⟨f0, f1, f2, f3, f4⟩ := free5 N6.out
  have D1 := Lib.hid d1
  have SF := Lib.hid (set5g (.int .i64 (cmd : Int)) (.bool false) (.bool false) (.bool false) (.slice none 0 0) N6.out G6.out (Nat.le_refl _))
  go_wp2_with fail
  clear c0 c1 c2 c3 c4 d0 d1 d2 d3 d4 f0 f1 f2 f3 f4
  generalize ((((w6.setCell ⟨w.heap.size, 0, none⟩ (.int .i64 (cmd : Int))).setCell ⟨w.heap.size, 1, none⟩ (.bool false)).setCell ⟨w.heap.size, 2, none⟩ (.bool false)).setCell ⟨w.heap.size, 3, none⟩ (.bool false)).setCell ⟨w.heap.size, 4, none⟩ (.slice none 0 0) = wz at *
  refine bodyPost_ret (v := .agg #[.int .i64 (cmd : Int), .bool false, .bool false, .bool false, .slice none 0 0]) (results_cell_row rfl _ _ w.heap.size 39 _ (0, 0) _ rfl SF.out.1 Tryz.underlying39 rfl (by kernel_rfl)) rfl ?_
  exact ⟨_, _, _, _, _, _, _, rfl, SF.out.2.2, _, _, (U6.out.other SF.out.2.1 (by have := HC.out; omega) (by have := HGL.out; omega)), E6.out.other SF.out.2.1 (fun t x h => by rw [D1.out] at h; cases h)⟩
set_option maxRecDepth 100000 in
set_option maxHeartbeats 8000000 in
theorem command_wcc {C g : Nat} {xs : List Nat} (z : Nat) (w : World) (h : Cur w C g xs 0 .nilIface) (hx : xs.length < 1000000) (hl : 0 < xs.length) (hb8 : xs.getD 0 0 < 256) (cmd : Nat) (hcm : xs.getD 0 0 = cmd) (hk : known (cmd : Int) = true) (hw : writes (cmd : Int) = true) (h1 : 1 < xs.length) (hy8 : xs.getD 1 0 < 256) (hn : noWrite (xs.getD 1 0) = true) :
    Calls Tryz.prog 42 #[.pointer (some ⟨C, 0, none⟩), .int .i64 (z : Int)] w fun e w' => ∃ (c : Int) (a u r : Bool) (ad : Option Addr) (n cp : Nat), e = .returned (.agg #[.int .i64 c, .bool a, .bool u, .bool r, .slice ad n cp]) ∧ w.grownBy w' (some C) ∧ ∃ ev at_, Cur w' C g xs at_ ev ∧ Byt.Met w' ev 3 1 := by
  have HC := Lib.hid h.clt
  have HGL := Lib.hid h.glt
  have HX := Lib.hid hx
  have HA := al_any w (.cells #[.int .i64 0, .bool false, .bool false, .bool false, .slice none 0 0] 39)
  have HN := Lib.hid (heap_alloc_new w (.cells #[.int .i64 0, .bool false, .bool false, .bool false, .slice none 0 0] 39))
  have HW0 := Lib.hid (gbelow HA (some C))
  have HU := h.below HA
  rw [hcm] at hb8
  have HWR := Lib.hid fun W => writes_any (cmd : Int) W
  rw [hw] at HWR
  have HTC := takeCmd_ok _ HU (by omega) hl (by rw [hcm]; exact hb8) (by rw [hcm]; exact hk)
  rw [hcm] at HTC
  clear hk hw hcm hb8
  have HCMD := Lib.hid (HTC)
  clear h HU HA hx
  go_enter Tryz.func42, Tryz.ntmps42
  go_wp2_with fail
  generalize w.alloc (.cells #[.int .i64 0, .bool false, .bool false, .bool false, .slice none 0 0] 39) = wa at *
  with_reducible refine HCMD.out.mono ?_
  rintro e w1 ⟨rfl, hu, hg⟩
  have N1 := blk_g HN.out hg (by intro e; injection e with e; have := HC.out; omega)
  have HS := al_any w1 (.cells #[.int .i64 (cmd : Int), .bool false, .bool false, .bool false, .slice none 0 0] 39)
  have N2 := Lib.hid (blk N1 HS)
  have M2 := Lib.hid (heap_alloc_new w1 (.cells #[.int .i64 (cmd : Int), .bool false, .bool false, .bool false, .slice none 0 0] 39))
  have U2 := Lib.hid (hu.below HS)
  have G2 := Lib.hid (gtrans (gtrans HW0.out hg) (gbelow HS _))
  have HL := Lib.hid (show w.heap.size < w1.heap.size from there_lt N1)
  clear HCMD HTC N1 hu hg HS HN HW0
  go_wp2_with fail
  generalize w1.heap.size = L at *
  generalize w1.alloc (.cells #[.int .i64 (cmd : Int), .bool false, .bool false, .bool false, .slice none 0 0] 39) = w2 at *
  with_reducible refine (HWR.out w2).mono ?_
  rintro e w' ⟨rfl, rfl⟩
  go_wp2_with fail
  with_reducible refine (takeWcc_bad w2 U2.out (by omega) hy8 hn).mono ?_
  rintro e w3 ⟨rfl, ev, hu, hm, hg⟩
  have N3 := Lib.hid (blk_g N2.out hg (by intro e; injection e with e; have := HC.out; omega))
  have M3 := Lib.hid (blk_g M2.out hg (by intro e; injection e with e; have := HC.out; have := HL.out; omega))
  have U3 := Lib.hid hu
  have G3 := Lib.hid (gtrans G2.out hg)
  have E3 := Lib.hid hm
  clear hu hg hm N2 M2 U2 G2
  obtain ⟨c0, c1, c2, c3, c4⟩ := cells5 M3.out
  obtain ⟨f0, f1, f2, f3, f4⟩ := free5 M3.out
  have C1 := Lib.hid c1
  have SF := Lib.hid (set13g (.bool false) (.bool false) (.bool false) M3.out G3.out (Nat.le_of_lt HL.out))
  go_wp2_with fail
  clear c0 c1 c2 c3 c4 f0 f1 f2 f3 f4
  generalize ((w3.setCell ⟨L, 1, none⟩ (.bool false)).setCell ⟨L, 2, none⟩ (.bool false)).setCell ⟨L, 3, none⟩ (.bool false) = w4 at *
  have M4 := Lib.hid SF.out.1
  have N4 := Lib.hid (blk_g N3.out SF.out.2.1 (by intro e; injection e with e; have := HL.out; omega))
  have U4 := Lib.hid (U3.out.other SF.out.2.1 (by have := HC.out; have := HL.out; omega) (by have := HGL.out; have := HL.out; omega))
  have G4 := Lib.hid SF.out.2.2
  have E4 := Lib.hid (E3.out.other SF.out.2.1 (fun t x h => by rw [C1.out] at h; cases h))
  clear SF N3 M3 U3 G3 C1 E3
  have E4b := E4.out
  obtain ⟨b, rfl, _⟩ := E4b
  with_reducible refine (takeOrders_met (z : Int) w4 U4.out E4.out HX.out).mono ?_
  rintro e w5 ⟨rfl, hu, hm, hg⟩
  have N5 := Lib.hid (blk_g N4.out hg (by intro e; injection e with e; have := HC.out; omega))
  have M5 := Lib.hid (blk_g M4.out hg (by intro e; injection e with e; have := HC.out; have := HL.out; omega))
  have U5 := Lib.hid hu
  have G5 := Lib.hid (gtrans G4.out hg)
  have E5 := Lib.hid hm
  clear hu hg hm N4 M4 U4 G4
  obtain ⟨c0, c1, c2, c3, c4⟩ := cells5 M5.out
  obtain ⟨f0, f1, f2, f3, f4⟩ := free5 M5.out
  have C1 := Lib.hid c1
  have SF := Lib.hid (set4w (.slice none 0 0) M5.out G5.out (Nat.le_of_lt HL.out))
  go_upto_region 7 with (fail)
  clear c0 c1 c2 c3 c4 f0 f1 f2 f3 f4
  generalize w5.setCell ⟨L, 4, none⟩ (.slice none 0 0) = w6 at *
  have M6 := Lib.hid SF.out.1
  have N6 := Lib.hid (blk_g N5.out SF.out.2.1 (by intro e; injection e with e; have := HL.out; omega))
  have U6 := Lib.hid (U5.out.other SF.out.2.1 (by have := HC.out; have := HL.out; omega) (by have := HGL.out; have := HL.out; omega))
  have G6 := Lib.hid SF.out.2.2
  have E6 := Lib.hid (E5.out.other SF.out.2.1 (fun t x h => by rw [C1.out] at h; cases h))
  clear SF N5 M5 U5 G5 C1 E5
  obtain ⟨c0, c1, c2, c3, c4⟩ := cells5 M6.out
  obtain ⟨d0, d1, d2, d3, d4⟩ := cells5 N6.out
  obtain ⟨f0, f1, f2, f3, f4⟩ := free5 N6.out
  have D1 := Lib.hid d1
  have SF := Lib.hid (set5g (.int .i64 (cmd : Int)) (.bool false) (.bool false) (.bool false) (.slice none 0 0) N6.out G6.out (Nat.le_refl _))
  go_wp2_with fail
  clear c0 c1 c2 c3 c4 d0 d1 d2 d3 d4 f0 f1 f2 f3 f4
  generalize ((((w6.setCell ⟨w.heap.size, 0, none⟩ (.int .i64 (cmd : Int))).setCell ⟨w.heap.size, 1, none⟩ (.bool false)).setCell ⟨w.heap.size, 2, none⟩ (.bool false)).setCell ⟨w.heap.size, 3, none⟩ (.bool false)).setCell ⟨w.heap.size, 4, none⟩ (.slice none 0 0) = wz at *
  refine bodyPost_ret (v := .agg #[.int .i64 (cmd : Int), .bool false, .bool false, .bool false, .slice none 0 0]) (results_cell_row rfl _ _ w.heap.size 39 _ (0, 0) _ rfl SF.out.1 Tryz.underlying39 rfl (by kernel_rfl)) rfl ?_
  exact ⟨_, _, _, _, _, _, _, rfl, SF.out.2.2, _, _, (U6.out.other SF.out.2.1 (by have := HC.out; omega) (by have := HGL.out; omega)), E6.out.other SF.out.2.1 (fun t x h => by rw [D1.out] at h; cases h)⟩
set_option maxRecDepth 100000 in
set_option maxHeartbeats 8000000 in
theorem command_orders {C g : Nat} {xs : List Nat} (z : Nat) (w : World) (h : Cur w C g xs 0 .nilIface) (hx : xs.length < 1000000) (hl : 0 < xs.length) (hb8 : xs.getD 0 0 < 256) (cmd : Nat) (hcm : xs.getD 0 0 = cmd) (hk : known (cmd : Int) = true) (hw : writes (cmd : Int) = true) (h1 : 1 < xs.length) (h8 : ∀ x ∈ xs, x < 256) (p n m : Bool) (hb : xs.getD 1 0 = put (wnum p n m)) (R : List O × Nat × Nat) (hR : R = ords z (xs.length - 2) 2 (xs.drop 2)) (hE : R.2.1 = 0) :
    Calls Tryz.prog 42 #[.pointer (some ⟨C, 0, none⟩), .int .i64 (z : Int)] w fun e w' => ∃ ad k cp, e = .returned (.agg #[.int .i64 (cmd : Int), .bool p, .bool n, .bool m, .slice ad k cp]) ∧ w.grownBy w' (some C) ∧ OrdsIn w' w.heap.size (.slice ad k cp) R.1 ∧ ∃ at_, Cur w' C g xs at_ .nilIface := by
  have HC := Lib.hid h.clt
  have HGL := Lib.hid h.glt
  have HX := Lib.hid hx
  have HA := al_any w (.cells #[.int .i64 0, .bool false, .bool false, .bool false, .slice none 0 0] 39)
  have HN := Lib.hid (heap_alloc_new w (.cells #[.int .i64 0, .bool false, .bool false, .bool false, .slice none 0 0] 39))
  have HW0 := Lib.hid (gbelow HA (some C))
  have HU := h.below HA
  rw [hcm] at hb8
  have HWR := Lib.hid fun W => writes_any (cmd : Int) W
  rw [hw] at HWR
  have HTC := takeCmd_ok _ HU (by omega) hl (by rw [hcm]; exact hb8) (by rw [hcm]; exact hk)
  rw [hcm] at HTC
  clear hk hw hcm hb8
  have HCMD := Lib.hid (HTC)
  clear h HU HA hx
  go_enter Tryz.func42, Tryz.ntmps42
  go_wp2_with fail
  generalize w.alloc (.cells #[.int .i64 0, .bool false, .bool false, .bool false, .slice none 0 0] 39) = wa at *
  with_reducible refine HCMD.out.mono ?_
  rintro e w1 ⟨rfl, hu, hg⟩
  have N1 := blk_g HN.out hg (by intro e; injection e with e; have := HC.out; omega)
  have HS := al_any w1 (.cells #[.int .i64 (cmd : Int), .bool false, .bool false, .bool false, .slice none 0 0] 39)
  have N2 := Lib.hid (blk N1 HS)
  have M2 := Lib.hid (heap_alloc_new w1 (.cells #[.int .i64 (cmd : Int), .bool false, .bool false, .bool false, .slice none 0 0] 39))
  have U2 := Lib.hid (hu.below HS)
  have G2 := Lib.hid (gtrans (gtrans HW0.out hg) (gbelow HS _))
  have HL := Lib.hid (show w.heap.size < w1.heap.size from there_lt N1)
  clear HCMD HTC N1 hu hg HS HN HW0
  go_wp2_with fail
  generalize w1.heap.size = L at *
  generalize w1.alloc (.cells #[.int .i64 (cmd : Int), .bool false, .bool false, .bool false, .slice none 0 0] 39) = w2 at *
  with_reducible refine (HWR.out w2).mono ?_
  rintro e w' ⟨rfl, rfl⟩
  go_wp2_with fail
  with_reducible refine (takeWcc_ok w2 U2.out (by have := HX.out; omega) (by omega) p n m hb).mono ?_
  rintro e w3 ⟨rfl, hu, hg⟩
  have N3 := Lib.hid (blk_g N2.out hg (by intro e; injection e with e; have := HC.out; omega))
  have M3 := Lib.hid (blk_g M2.out hg (by intro e; injection e with e; have := HC.out; have := HL.out; omega))
  have U3 := Lib.hid hu
  have G3 := Lib.hid (gtrans G2.out hg)
  clear hu hg N2 M2 U2 G2
  obtain ⟨c0, c1, c2, c3, c4⟩ := cells5 M3.out
  obtain ⟨f0, f1, f2, f3, f4⟩ := free5 M3.out
  have C1 := Lib.hid c1
  have SF := Lib.hid (set13g (.bool p) (.bool n) (.bool m) M3.out G3.out (Nat.le_of_lt HL.out))
  go_wp2_with fail
  clear c0 c1 c2 c3 c4 f0 f1 f2 f3 f4
  generalize ((w3.setCell ⟨L, 1, none⟩ (.bool p)).setCell ⟨L, 2, none⟩ (.bool n)).setCell ⟨L, 3, none⟩ (.bool m) = w4 at *
  have M4 := Lib.hid SF.out.1
  have N4 := Lib.hid (blk_g N3.out SF.out.2.1 (by intro e; injection e with e; have := HL.out; omega))
  have U4 := Lib.hid (U3.out.other SF.out.2.1 (by have := HC.out; have := HL.out; omega) (by have := HGL.out; have := HL.out; omega))
  have G4 := Lib.hid SF.out.2.2
  clear SF N3 M3 U3 G3 C1
  with_reducible refine (takeOrders_any z w4 U4.out h8 HX.out R hR).mono ?_
  rintro e w5 ⟨va, vn, vc, rfl, hg, hc⟩
  rcases hc with ⟨_, ho, hu⟩ | ⟨h0, _⟩
  rotate_left
  · exact absurd hE h0
  have N5 := Lib.hid (blk_g N4.out hg (by intro e; injection e with e; have := HC.out; omega))
  have M5 := Lib.hid (blk_g M4.out hg (by intro e; injection e with e; have := HC.out; have := HL.out; omega))
  have U5 := Lib.hid hu
  have G5 := Lib.hid (gtrans G4.out hg)
  have O5 := Lib.hid ho.to
  have HS4 := Lib.hid (show L < w4.heap.size from there_lt M4.out)
  clear hu hg ho N4 M4 U4 G4
  obtain ⟨c0, c1, c2, c3, c4⟩ := cells5 M5.out
  obtain ⟨f0, f1, f2, f3, f4⟩ := free5 M5.out
  have C1 := Lib.hid c1
  have SF := Lib.hid (set4w (.slice va vn vc) M5.out G5.out (Nat.le_of_lt HL.out))
  go_upto_region 7 with (fail)
  clear c0 c1 c2 c3 c4 f0 f1 f2 f3 f4
  generalize w5.setCell ⟨L, 4, none⟩ (.slice va vn vc) = w6 at *
  have M6 := Lib.hid SF.out.1
  have N6 := Lib.hid (blk_g N5.out SF.out.2.1 (by intro e; injection e with e; have := HL.out; omega))
  have U6 := Lib.hid (U5.out.other SF.out.2.1 (by have := HC.out; have := HL.out; omega) (by have := HGL.out; have := HL.out; omega))
  have G6 := Lib.hid SF.out.2.2
  have O6 := Lib.hid (O5.out.grown SF.out.2.1 HS4.out)
  clear SF N5 M5 U5 G5 C1 O5
  obtain ⟨c0, c1, c2, c3, c4⟩ := cells5 M6.out
  obtain ⟨d0, d1, d2, d3, d4⟩ := cells5 N6.out
  obtain ⟨f0, f1, f2, f3, f4⟩ := free5 N6.out
  have D1 := Lib.hid d1
  have SF := Lib.hid (set5g (.int .i64 (cmd : Int)) (.bool p) (.bool n) (.bool m) (.slice va vn vc) N6.out G6.out (Nat.le_refl _))
  go_wp2_with fail
  clear c0 c1 c2 c3 c4 d0 d1 d2 d3 d4 f0 f1 f2 f3 f4
  generalize ((((w6.setCell ⟨w.heap.size, 0, none⟩ (.int .i64 (cmd : Int))).setCell ⟨w.heap.size, 1, none⟩ (.bool p)).setCell ⟨w.heap.size, 2, none⟩ (.bool n)).setCell ⟨w.heap.size, 3, none⟩ (.bool m)).setCell ⟨w.heap.size, 4, none⟩ (.slice va vn vc) = wz at *
  refine bodyPost_ret (v := .agg #[.int .i64 (cmd : Int), .bool p, .bool n, .bool m, .slice va vn vc]) (results_cell_row rfl _ _ w.heap.size 39 _ (0, 0) _ rfl SF.out.1 Tryz.underlying39 rfl (by kernel_rfl)) rfl ?_
  exact ⟨_, _, _, rfl, SF.out.2.2, ((O6.out.grown SF.out.2.1 (Nat.lt_trans HL.out HS4.out)).mono (by have := HL.out; have := HS4.out; omega)), _, (U6.out.other SF.out.2.1 (by have := HC.out; omega) (by have := HGL.out; omega))⟩
set_option maxRecDepth 100000 in
set_option maxHeartbeats 8000000 in
theorem command_wrong {C g : Nat} {xs : List Nat} (z : Nat) (w : World) (h : Cur w C g xs 0 .nilIface) (hx : xs.length < 1000000) (hl : 0 < xs.length) (hb8 : xs.getD 0 0 < 256) (cmd : Nat) (hcm : xs.getD 0 0 = cmd) (hk : known (cmd : Int) = true) (hw : writes (cmd : Int) = true) (h1 : 1 < xs.length) (h8 : ∀ x ∈ xs, x < 256) (p n m : Bool) (hb : xs.getD 1 0 = put (wnum p n m)) (R : List O × Nat × Nat) (hR : R = ords z (xs.length - 2) 2 (xs.drop 2)) (hE : R.2.1 ≠ 0) :
    Calls Tryz.prog 42 #[.pointer (some ⟨C, 0, none⟩), .int .i64 (z : Int)] w fun e w' => ∃ (c : Int) (a u r : Bool) (ad : Option Addr) (n cp : Nat), e = .returned (.agg #[.int .i64 c, .bool a, .bool u, .bool r, .slice ad n cp]) ∧ w.grownBy w' (some C) ∧ ∃ ev at_, Cur w' C g xs at_ ev ∧ Byt.Met w' ev (R.2.1 : Int) R.2.2 := by
  have HC := Lib.hid h.clt
  have HGL := Lib.hid h.glt
  have HX := Lib.hid hx
  have HA := al_any w (.cells #[.int .i64 0, .bool false, .bool false, .bool false, .slice none 0 0] 39)
  have HN := Lib.hid (heap_alloc_new w (.cells #[.int .i64 0, .bool false, .bool false, .bool false, .slice none 0 0] 39))
  have HW0 := Lib.hid (gbelow HA (some C))
  have HU := h.below HA
  rw [hcm] at hb8
  have HWR := Lib.hid fun W => writes_any (cmd : Int) W
  rw [hw] at HWR
  have HTC := takeCmd_ok _ HU (by omega) hl (by rw [hcm]; exact hb8) (by rw [hcm]; exact hk)
  rw [hcm] at HTC
  clear hk hw hcm hb8
  have HCMD := Lib.hid (HTC)
  clear h HU HA hx
  go_enter Tryz.func42, Tryz.ntmps42
  go_wp2_with fail
  generalize w.alloc (.cells #[.int .i64 0, .bool false, .bool false, .bool false, .slice none 0 0] 39) = wa at *
  with_reducible refine HCMD.out.mono ?_
  rintro e w1 ⟨rfl, hu, hg⟩
  have N1 := blk_g HN.out hg (by intro e; injection e with e; have := HC.out; omega)
  have HS := al_any w1 (.cells #[.int .i64 (cmd : Int), .bool false, .bool false, .bool false, .slice none 0 0] 39)
  have N2 := Lib.hid (blk N1 HS)
  have M2 := Lib.hid (heap_alloc_new w1 (.cells #[.int .i64 (cmd : Int), .bool false, .bool false, .bool false, .slice none 0 0] 39))
  have U2 := Lib.hid (hu.below HS)
  have G2 := Lib.hid (gtrans (gtrans HW0.out hg) (gbelow HS _))
  have HL := Lib.hid (show w.heap.size < w1.heap.size from there_lt N1)
  clear HCMD HTC N1 hu hg HS HN HW0
  go_wp2_with fail
  generalize w1.heap.size = L at *
  generalize w1.alloc (.cells #[.int .i64 (cmd : Int), .bool false, .bool false, .bool false, .slice none 0 0] 39) = w2 at *
  with_reducible refine (HWR.out w2).mono ?_
  rintro e w' ⟨rfl, rfl⟩
  go_wp2_with fail
  with_reducible refine (takeWcc_ok w2 U2.out (by have := HX.out; omega) (by omega) p n m hb).mono ?_
  rintro e w3 ⟨rfl, hu, hg⟩
  have N3 := Lib.hid (blk_g N2.out hg (by intro e; injection e with e; have := HC.out; omega))
  have M3 := Lib.hid (blk_g M2.out hg (by intro e; injection e with e; have := HC.out; have := HL.out; omega))
  have U3 := Lib.hid hu
  have G3 := Lib.hid (gtrans G2.out hg)
  clear hu hg N2 M2 U2 G2
  obtain ⟨c0, c1, c2, c3, c4⟩ := cells5 M3.out
  obtain ⟨f0, f1, f2, f3, f4⟩ := free5 M3.out
  have C1 := Lib.hid c1
  have SF := Lib.hid (set13g (.bool p) (.bool n) (.bool m) M3.out G3.out (Nat.le_of_lt HL.out))
  go_wp2_with fail
  clear c0 c1 c2 c3 c4 f0 f1 f2 f3 f4
  generalize ((w3.setCell ⟨L, 1, none⟩ (.bool p)).setCell ⟨L, 2, none⟩ (.bool n)).setCell ⟨L, 3, none⟩ (.bool m) = w4 at *
  have M4 := Lib.hid SF.out.1
  have N4 := Lib.hid (blk_g N3.out SF.out.2.1 (by intro e; injection e with e; have := HL.out; omega))
  have U4 := Lib.hid (U3.out.other SF.out.2.1 (by have := HC.out; have := HL.out; omega) (by have := HGL.out; have := HL.out; omega))
  have G4 := Lib.hid SF.out.2.2
  clear SF N3 M3 U3 G3 C1
  with_reducible refine (takeOrders_any z w4 U4.out h8 HX.out R hR).mono ?_
  rintro e w5 ⟨va, vn, vc, rfl, hg, hc⟩
  rcases hc with ⟨h0, _⟩ | ⟨_, ev, at_, hu, hm⟩
  · exact absurd h0 hE
  have N5 := Lib.hid (blk_g N4.out hg (by intro e; injection e with e; have := HC.out; omega))
  have M5 := Lib.hid (blk_g M4.out hg (by intro e; injection e with e; have := HC.out; have := HL.out; omega))
  have U5 := Lib.hid hu
  have G5 := Lib.hid (gtrans G4.out hg)
  have E5 := Lib.hid hm
  clear hu hg hm N4 M4 U4 G4
  obtain ⟨c0, c1, c2, c3, c4⟩ := cells5 M5.out
  obtain ⟨f0, f1, f2, f3, f4⟩ := free5 M5.out
  have C1 := Lib.hid c1
  have SF := Lib.hid (set4w (.slice va vn vc) M5.out G5.out (Nat.le_of_lt HL.out))
  go_upto_region 7 with (fail)
  clear c0 c1 c2 c3 c4 f0 f1 f2 f3 f4
  generalize w5.setCell ⟨L, 4, none⟩ (.slice va vn vc) = w6 at *
  have M6 := Lib.hid SF.out.1
  have N6 := Lib.hid (blk_g N5.out SF.out.2.1 (by intro e; injection e with e; have := HL.out; omega))
  have U6 := Lib.hid (U5.out.other SF.out.2.1 (by have := HC.out; have := HL.out; omega) (by have := HGL.out; have := HL.out; omega))
  have G6 := Lib.hid SF.out.2.2
  have E6 := Lib.hid (E5.out.other SF.out.2.1 (fun t x h => by rw [C1.out] at h; cases h))
  clear SF N5 M5 U5 G5 C1 E5
  obtain ⟨c0, c1, c2, c3, c4⟩ := cells5 M6.out
  obtain ⟨d0, d1, d2, d3, d4⟩ := cells5 N6.out
  obtain ⟨f0, f1, f2, f3, f4⟩ := free5 N6.out
  have D1 := Lib.hid d1
  have SF := Lib.hid (set5g (.int .i64 (cmd : Int)) (.bool p) (.bool n) (.bool m) (.slice va vn vc) N6.out G6.out (Nat.le_refl _))
  go_wp2_with fail
  clear c0 c1 c2 c3 c4 d0 d1 d2 d3 d4 f0 f1 f2 f3 f4
  generalize ((((w6.setCell ⟨w.heap.size, 0, none⟩ (.int .i64 (cmd : Int))).setCell ⟨w.heap.size, 1, none⟩ (.bool p)).setCell ⟨w.heap.size, 2, none⟩ (.bool n)).setCell ⟨w.heap.size, 3, none⟩ (.bool m)).setCell ⟨w.heap.size, 4, none⟩ (.slice va vn vc) = wz at *
  refine bodyPost_ret (v := .agg #[.int .i64 (cmd : Int), .bool p, .bool n, .bool m, .slice va vn vc]) (results_cell_row rfl _ _ w.heap.size 39 _ (0, 0) _ rfl SF.out.1 Tryz.underlying39 rfl (by kernel_rfl)) rfl ?_
  exact ⟨_, _, _, _, _, _, _, rfl, SF.out.2.2, _, _, (U6.out.other SF.out.2.1 (by have := HC.out; omega) (by have := HGL.out; omega)), E6.out.other SF.out.2.1 (fun t x h => by rw [D1.out] at h; cases h)⟩
end Str
end Go.Proofs.YtpdlpmbjhopnnaaGreatDoor
/- takeCommand by the plain function; Read of package stream. Written by tools/gen_str_read.py. -/
namespace Go.Proofs.YtpdlpmbjhopnnaaGreatDoor
open Go.RowKit Sha Cut Err Six Att Byt Apd
namespace Str
open Go.Proofs.YtpdlpmbjhopnnaaGreatDoor.Ord
theorem cread_cons (c : Nat) (ys : List Nat) (z : Nat) (hl : (c :: ys).length ≤ 8192) : cread (c :: ys) z =
    if known (c : Int) = false then (noneC, 5, 0)
    else if writes (c : Int) = false then if ys ≠ [] then (noneC, 1, 1) else (⟨c, false, false, false, []⟩, 0, -1)
    else match ys with
    | [] => (noneC, 2, 1)
    | b :: r =>
      if noWrite b = true then (noneC, 3, 1)
      else if (ords z r.length 2 r).2.1 ≠ 0 then (noneC, (ords z r.length 2 r).2.1, ((ords z r.length 2 r).2.2 : Int))
      else (⟨c, b % 64 / 4 % 2 == 1, b % 64 / 2 % 2 == 1, b % 64 % 2 == 1, (ords z r.length 2 r).1⟩, 0, -1) := by
  unfold cread
  rw [if_neg (by omega)]
  cases ys <;> rfl
theorem command_any {C g : Nat} {xs : List Nat} (z : Nat) (w : World) (h : Cur w C g xs 0 .nilIface) (hx : xs.length ≤ 8192) (h8 : ∀ x ∈ xs, x < 256) :
    Calls Tryz.prog 42 #[.pointer (some ⟨C, 0, none⟩), .int .i64 (z : Int)] w fun e w' => ∃ (c : Int) (a u r : Bool) (ad : Option Addr) (n cp : Nat), e = .returned (.agg #[.int .i64 c, .bool a, .bool u, .bool r, .slice ad n cp]) ∧ w.grownBy w' (some C) ∧
      (((cread xs z).2.1 = 0 ∧ c = (cread xs z).1.cmd ∧ a = (cread xs z).1.a ∧ u = (cread xs z).1.u ∧ r = (cread xs z).1.r ∧ OrdsIn w' w.heap.size (.slice ad n cp) (cread xs z).1.os ∧ ∃ at_, Cur w' C g xs at_ .nilIface) ∨
       ((cread xs z).2.1 ≠ 0 ∧ ∃ ev at_ wh, Cur w' C g xs at_ ev ∧ Byt.Met w' ev ((cread xs z).2.1 : Int) wh ∧ (wh : Int) = (cread xs z).2.2)) := by
  have hx6 : xs.length < 1000000 := by omega
  cases xs with
  | nil =>
    refine (command_none z w h hx6 rfl).mono ?_
    rintro e w' ⟨c, a, u, r, ad, n, cp, he, hg, ev, at_, hu, hm⟩
    exact ⟨c, a, u, r, ad, n, cp, he, hg, .inr ⟨by show (2 : Nat) ≠ 0; decide, ev, at_, 0, hu, hm, rfl⟩⟩
  | cons c ys =>
    have hc8 := h8 c (by simp)
    have hcg : (c :: ys).getD 0 0 = c := rfl
    rw [cread_cons c ys z hx]
    cases hk : known (c : Int) with
    | false =>
      rw [if_pos rfl]
      refine (command_strange z w h hx6 (by simp) hc8 hk).mono ?_
      rintro e w' ⟨c, a, u, r, ad, n, cp, he, hg, ev, at_, hu, hm⟩
      exact ⟨c, a, u, r, ad, n, cp, he, hg, .inr ⟨by show (5 : Nat) ≠ 0; decide, ev, at_, 0, hu, hm, rfl⟩⟩
    | true =>
      rw [if_neg (by decide)]
      cases hw : writes (c : Int) with
      | false =>
        rw [if_pos rfl]
        by_cases hys : ys = []
        · subst hys
          rw [if_neg (by simp)]
          refine (command_bare z w h hx6 (by simp) hc8 c hcg hk hw rfl).mono ?_
          rintro e w' ⟨ad, n, cp, he, hg, ho, hu⟩
          exact ⟨_, _, _, _, ad, n, cp, he, hg, .inl ⟨rfl, rfl, rfl, rfl, rfl, ho, hu⟩⟩
        · rw [if_pos hys]
          have hpos : 0 < ys.length := List.length_pos_iff.2 hys
          refine (command_more z w h hx6 (by simp) hc8 c hcg hk hw (by simp; omega)).mono ?_
          rintro e w' ⟨c, a, u, r, ad, n, cp, he, hg, ev, at_, hu, hm⟩
          exact ⟨c, a, u, r, ad, n, cp, he, hg, .inr ⟨by show (1 : Nat) ≠ 0; decide, ev, at_, 1, hu, hm, rfl⟩⟩
      | true =>
        rw [if_neg (by decide)]
        cases ys with
        | nil =>
          refine (command_cut z w h hx6 (by simp) hc8 c hcg hk hw rfl).mono ?_
          rintro e w' ⟨c, a, u, r, ad, n, cp, he, hg, ev, at_, hu, hm⟩
          exact ⟨c, a, u, r, ad, n, cp, he, hg, .inr ⟨by show (2 : Nat) ≠ 0; decide, ev, at_, 1, hu, hm, rfl⟩⟩
        | cons b r =>
          have hb8 := h8 b (by simp)
          simp only
          cases hn : noWrite b with
          | true =>
            rw [if_pos rfl]
            refine (command_wcc z w h hx6 (by simp) hc8 c hcg hk hw (by simp) hb8 hn).mono ?_
            rintro e w' ⟨c, a, u, r, ad, n, cp, he, hg, ev, at_, hu, hm⟩
            exact ⟨c, a, u, r, ad, n, cp, he, hg, .inr ⟨by show (3 : Nat) ≠ 0; decide, ev, at_, 1, hu, hm, rfl⟩⟩
          | false =>
            rw [if_neg (by decide)]
            obtain ⟨a, u, s, rfl⟩ := write_cases b hb8 hn
            have hn2 := wnum_lt a u s
            have hbit : (put (wnum a u s) % 64 / 4 % 2 == 1) = a ∧ (put (wnum a u s) % 64 / 2 % 2 == 1) = u ∧ (put (wnum a u s) % 64 % 2 == 1) = s := by
              rw [put_low _ (by omega)]
              cases a <;> cases u <;> cases s <;> decide
            rw [hbit.1, hbit.2.1, hbit.2.2]
            have hR : ords z r.length 2 r = ords z ((c :: put (wnum a u s) :: r).length - 2) 2 ((c :: put (wnum a u s) :: r).drop 2) := rfl
            by_cases hE : (ords z r.length 2 r).2.1 = 0
            · rw [if_neg (by rw [hE]; simp)]
              refine (command_orders z w h hx6 (by simp) hc8 c hcg hk hw (by simp) h8 a u s rfl _ hR hE).mono ?_
              rintro e w' ⟨ad, n, cp, he, hg, ho, hu⟩
              exact ⟨_, _, _, _, ad, n, cp, he, hg, .inl ⟨rfl, rfl, rfl, rfl, rfl, ho, hu⟩⟩
            · rw [if_pos hE]
              refine (command_wrong z w h hx6 (by simp) hc8 c hcg hk hw (by simp) h8 a u s rfl _ hR hE).mono ?_
              rintro e w' ⟨c, a, u, r, ad, n, cp, he, hg, ev, at_, hu, hm⟩
              exact ⟨c, a, u, r, ad, n, cp, he, hg, .inr ⟨hE, ev, at_, _, hu, hm, rfl⟩⟩
theorem set5b (a : World) (B : Nat) (t : TypeId) (a0 a1 a2 a3 a4 u0 u1 u2 u3 u4 : Value) {w : World} (h : a.heap[B]? = some (.cells #[a0, a1, a2, a3, a4] t (0, 0))) (hb : Below w.heap.size w a) (hB : w.heap.size ≤ B) :
    (((((a.setCell ⟨B, 0, none⟩ u0).setCell ⟨B, 1, none⟩ u1).setCell ⟨B, 2, none⟩ u2).setCell ⟨B, 3, none⟩ u3).setCell ⟨B, 4, none⟩ u4).heap[B]? = some (.cells #[u0, u1, u2, u3, u4] t (0, 0)) ∧
    a.grownBy (((((a.setCell ⟨B, 0, none⟩ u0).setCell ⟨B, 1, none⟩ u1).setCell ⟨B, 2, none⟩ u2).setCell ⟨B, 3, none⟩ u3).setCell ⟨B, 4, none⟩ u4) (some B) ∧
    Below w.heap.size w (((((a.setCell ⟨B, 0, none⟩ u0).setCell ⟨B, 1, none⟩ u1).setCell ⟨B, 2, none⟩ u2).setCell ⟨B, 3, none⟩ u3).setCell ⟨B, 4, none⟩ u4) := by
  obtain ⟨h1, h2, _⟩ := set5g u0 u1 u2 u3 u4 h (gbelow hb none) hB
  exact ⟨h1, h2, hb.grown h2 hb.size (by intro k hk; injection hk with hk; omega)⟩
set_option maxRecDepth 100000 in
set_option maxHeartbeats 4000000 in
theorem read_long {xs : List Nat} (ad : Option Addr) (cap z : Nat) (w : World) (_hB : BytesIn w (.slice ad xs.length cap) xs) (_h8 : ∀ x ∈ xs, x < 256) (_hn : ad = none → xs.length = 0 ∧ cap = 0) (hl : 8192 < xs.length) (hx : xs.length < 1000000) :
    Calls Tryz.prog 16 #[.slice ad xs.length cap, .int .i64 (z : Int)] w fun e w' => ∃ ev, e = .returned (.tuple #[.agg #[.int .i64 0, .bool false, .bool false, .bool false, .slice none 0 0], ev]) ∧ Err.Told w' ev ((cread xs z).2.1 : Int) (cread xs z).2.2 ∧ Below w.heap.size w w' := by
  have HA := Lib.hid (al_any w (.cells #[.int .i64 0, .bool false, .bool false, .bool false, .slice none 0 0] 39))
  have HN := Lib.hid (heap_alloc_new w (.cells #[.int .i64 0, .bool false, .bool false, .bool false, .slice none 0 0] 39))
  have e0 : cread xs z = (noneC, 6, 8192) := by unfold cread; rw [if_pos hl]
  rw [e0]
  have hg : decide ((8192 : Int) < (xs.length : Int)) = true := by simp; omega
  clear e0 hl
  go_enter Tryz.func16, Tryz.ntmps16
  go_upto_region 2 with (fail)
  generalize w.alloc (.cells #[.int .i64 0, .bool false, .bool false, .bool false, .slice none 0 0] 39) = w1 at *
  have l1 : w.heap.size < w1.heap.size := there_lt HN.out
  obtain ⟨d0, d1, d2, d3, d4⟩ := cells5 HN.out
  obtain ⟨f0, f1, f2, f3, f4⟩ := free5 HN.out
  have D1 := Lib.hid d1
  go_wp2_with fail
  clear d0 d1 d2 d3 d4 f0 f1 f2 f3 f4
  have SF := Lib.hid (set5b w1 w.heap.size 39 _ _ _ _ _ (.int .i64 0) (.bool false) (.bool false) (.bool false) (.slice none 0 0) HN.out HA.out (Nat.le_refl _))
  have hs : (((((w1.setCell ⟨w.heap.size, 0, none⟩ (.int .i64 0)).setCell ⟨w.heap.size, 1, none⟩ (.bool false)).setCell ⟨w.heap.size, 2, none⟩ (.bool false)).setCell ⟨w.heap.size, 3, none⟩ (.bool false)).setCell ⟨w.heap.size, 4, none⟩ (.slice none 0 0)).heap.size = w1.heap.size := by simp [World.setCell]
  generalize ((((w1.setCell ⟨w.heap.size, 0, none⟩ (.int .i64 0)).setCell ⟨w.heap.size, 1, none⟩ (.bool false)).setCell ⟨w.heap.size, 2, none⟩ (.bool false)).setCell ⟨w.heap.size, 3, none⟩ (.bool false)).setCell ⟨w.heap.size, 4, none⟩ (.slice none 0 0) = wz at *
  have HS := al_any wz (.cells #[.int .i64 8192, .iface 71 (.int .i64 6)] 86)
  have HL := heap_alloc_new wz (.cells #[.int .i64 8192, .iface 71 (.int .i64 6)] 86)
  rw [hs] at HL
  have HZ := blk SF.out.1 HS
  have HB2 := kept_trans SF.out.2.2 HS
  generalize wz.alloc _ = wy at *
  refine bodyPost_ret (v := .tuple #[.agg #[.int .i64 0, .bool false, .bool false, .bool false, .slice none 0 0], .iface 84 (.pointer (some ⟨w1.heap.size, 0, none⟩))]) (results_cell_row_tmp rfl _ _ _ w.heap.size _ rfl (run_loadVar_row wy w.heap.size 39 39 _ (0, 0) _ HZ Tryz.underlying39 rfl (by kernel_rfl)) (.iface 84 (.pointer (some ⟨w1.heap.size, 0, none⟩))) rfl) rfl ?_
  have c0 := cell_of_row wy w1.heap.size 0 _ _ (0, 0) HL
  have c1 := cell_of_row wy w1.heap.size 1 _ _ (0, 0) HL
  exact ⟨_, rfl, .inr (.inr ⟨0, w1.heap.size, rfl, c0, _, _, _, rfl, c0, c1, rfl⟩), HB2⟩
set_option maxRecDepth 100000 in
set_option maxHeartbeats 8000000 in
theorem read_bad {xs : List Nat} (ad : Option Addr) (cap z : Nat) (w : World) (hB : BytesIn w (.slice ad xs.length cap) xs) (h8 : ∀ x ∈ xs, x < 256) (hn : ad = none → xs.length = 0 ∧ cap = 0) (hl : xs.length ≤ 8192) (hE : (cread xs z).2.1 ≠ 0) :
    Calls Tryz.prog 16 #[.slice ad xs.length cap, .int .i64 (z : Int)] w fun e w' => ∃ ev, e = .returned (.tuple #[.agg #[.int .i64 0, .bool false, .bool false, .bool false, .slice none 0 0], ev]) ∧ Err.Told w' ev ((cread xs z).2.1 : Int) (cread xs z).2.2 ∧ Below w.heap.size w w' := by
  have HA := Lib.hid (al_any w (.cells #[.int .i64 0, .bool false, .bool false, .bool false, .slice none 0 0] 39))
  have HN := Lib.hid (heap_alloc_new w (.cells #[.int .i64 0, .bool false, .bool false, .bool false, .slice none 0 0] 39))
  have hg : decide ((8192 : Int) < (xs.length : Int)) = false := by simp; omega
  have HNEW := Lib.hid (fun W hb => new_any ad xs.length cap xs W (bytes_below hB hb) hn (by omega))
  have HCMD := Lib.hid (fun (W : World) (C g : Nat) (hu : Cur W C g xs 0 .nilIface) => command_any z W hu hl h8)
  have HE := Lib.hid hE
  clear hB h8 hn hE hl
  go_enter Tryz.func16, Tryz.ntmps16
  go_wp2_with fail
  generalize w.alloc (.cells #[.int .i64 0, .bool false, .bool false, .bool false, .slice none 0 0] 39) = w1 at *
  with_reducible refine (HNEW.out _ HA.out).mono ?_
  rintro e w2 ⟨C, g, rfl, hu, hC, hG, hb⟩
  have K2 := kept_hid HA hb
  have N2 := Lib.hid (blk HN.out hb)
  have U2 := Lib.hid hu
  have HRC := Lib.hid (show w.heap.size < C from Nat.lt_of_lt_of_le (there_lt HN.out) hC)
  have HRG := Lib.hid (show w.heap.size < g from Nat.lt_of_lt_of_le (there_lt HN.out) hG)
  clear hu hC hG hb HNEW HA HN
  go_wp2_with fail
  with_reducible refine (HCMD.out w2 C g U2.out).mono ?_
  rintro e w3 ⟨c, a, u, r, oa, n, cp, rfl, hg3, hc⟩
  rcases hc with ⟨h0, _⟩ | ⟨_, ev, at_, wh, hu, hm, hwh⟩
  · exact absurd h0 HE.out
  obtain ⟨b, rfl, hm⟩ := hm
  have M3 := Lib.hid hm
  have HWH := Lib.hid hwh
  have N3 := blk_g N2.out hg3 (by intro e; injection e with e; have := HRC.out; omega)
  have K3 := Lib.hid (K2.out.grown hg3 K2.out.size (by intro k hk; injection hk with hk; have := HRC.out; omega))
  have HS := al_any w3 (.cells #[.int .i64 c, .bool a, .bool u, .bool r, .slice oa n cp] 39)
  have N4 := Lib.hid (blk N3 HS)
  have L4 := Lib.hid (heap_alloc_new w3 (.cells #[.int .i64 c, .bool a, .bool u, .bool r, .slice oa n cp] 39))
  have U4 := Lib.hid (hu.below HS)
  have K4 := kept_hid K3 HS
  have M4 := Lib.hid (M3.out.below HS)
  clear HS N3 K3 hu hg3 M3 hm U2 HCMD N2
  go_wp2_with fail
  generalize w3.heap.size = L at *
  generalize w3.alloc (.cells #[.int .i64 c, .bool a, .bool u, .bool r, .slice oa n cp] 39) = w4 at *
  with_reducible refine (err_any w4 U4.out).mono ?_
  rintro e w' ⟨rfl, rfl⟩
  obtain ⟨c0, c1, c2, c3, c4⟩ := cells5 L4.out
  obtain ⟨d0, d1, d2, d3, d4⟩ := cells5 N4.out
  obtain ⟨f0, f1, f2, f3, f4⟩ := free5 N4.out
  have D1 := Lib.hid d1
  go_wp2_with fail
  clear c0 c1 c2 c3 c4 d0 d1 d2 d3 d4 f0 f1 f2 f3 f4
  have SF := Lib.hid (set5b w4 w.heap.size 39 _ _ _ _ _ (.int .i64 0) (.bool false) (.bool false) (.bool false) (.slice none 0 0) N4.out K4.out (Nat.le_refl _))
  generalize ((((w4.setCell ⟨w.heap.size, 0, none⟩ (.int .i64 0)).setCell ⟨w.heap.size, 1, none⟩ (.bool false)).setCell ⟨w.heap.size, 2, none⟩ (.bool false)).setCell ⟨w.heap.size, 3, none⟩ (.bool false)).setCell ⟨w.heap.size, 4, none⟩ (.slice none 0 0) = wz at *
  refine bodyPost_ret (v := .tuple #[.agg #[.int .i64 0, .bool false, .bool false, .bool false, .slice none 0 0], (.iface 84 (.pointer (some ⟨b, 0, none⟩)))]) (results_cell_row_tmp rfl _ _ _ w.heap.size _ rfl (run_loadVar_row wz w.heap.size 39 39 _ (0, 0) _ SF.out.1 Tryz.underlying39 rfl (by kernel_rfl)) (.iface 84 (.pointer (some ⟨b, 0, none⟩))) rfl) rfl ?_
  refine ⟨_, rfl, ?_, SF.out.2.2⟩
  have := Told.other M4.out SF.out.2.1 (fun t x h => by rw [D1.out] at h; cases h)
  rw [HWH.out] at this
  exact this
set_option maxRecDepth 100000 in
set_option maxHeartbeats 8000000 in
theorem read_ok {xs : List Nat} (ad : Option Addr) (cap z : Nat) (w : World) (hB : BytesIn w (.slice ad xs.length cap) xs) (h8 : ∀ x ∈ xs, x < 256) (hn : ad = none → xs.length = 0 ∧ cap = 0) (hl : xs.length ≤ 8192) (hE : (cread xs z).2.1 = 0) :
    Calls Tryz.prog 16 #[.slice ad xs.length cap, .int .i64 (z : Int)] w fun e w' => ∃ oa k oc, e = .returned (.tuple #[.agg #[.int .i64 (cread xs z).1.cmd, .bool (cread xs z).1.a, .bool (cread xs z).1.u, .bool (cread xs z).1.r, .slice oa k oc], .nilIface]) ∧ OrdsIn w' w.heap.size (.slice oa k oc) (cread xs z).1.os ∧ Below w.heap.size w w' := by
  have HA := Lib.hid (al_any w (.cells #[.int .i64 0, .bool false, .bool false, .bool false, .slice none 0 0] 39))
  have HN := Lib.hid (heap_alloc_new w (.cells #[.int .i64 0, .bool false, .bool false, .bool false, .slice none 0 0] 39))
  have hg : decide ((8192 : Int) < (xs.length : Int)) = false := by simp; omega
  have HNEW := Lib.hid (fun W hb => new_any ad xs.length cap xs W (bytes_below hB hb) hn (by omega))
  have HCMD := Lib.hid (fun (W : World) (C g : Nat) (hu : Cur W C g xs 0 .nilIface) => command_any z W hu hl h8)
  have HE := Lib.hid hE
  clear hB h8 hn hE hl
  generalize (cread xs z).1 = cm at *
  obtain ⟨cc, ca, cu, cr, cos⟩ := cm
  simp only at HCMD ⊢
  go_enter Tryz.func16, Tryz.ntmps16
  go_wp2_with fail
  generalize w.alloc (.cells #[.int .i64 0, .bool false, .bool false, .bool false, .slice none 0 0] 39) = w1 at *
  with_reducible refine (HNEW.out _ HA.out).mono ?_
  rintro e w2 ⟨C, g, rfl, hu, hC, hG, hb⟩
  have K2 := kept_hid HA hb
  have N2 := Lib.hid (blk HN.out hb)
  have U2 := Lib.hid hu
  have HRC := Lib.hid (show w.heap.size < C from Nat.lt_of_lt_of_le (there_lt HN.out) hC)
  have HRG := Lib.hid (show w.heap.size < g from Nat.lt_of_lt_of_le (there_lt HN.out) hG)
  clear hu hC hG hb HNEW HA HN
  go_wp2_with fail
  with_reducible refine (HCMD.out w2 C g U2.out).mono ?_
  rintro e w3 ⟨c, a, u, r, oa, n, cp, rfl, hg3, hc⟩
  rcases hc with ⟨_, rfl, rfl, rfl, rfl, ho, at_, hu⟩ | ⟨h0, _⟩
  rotate_left
  · exact absurd HE.out h0
  have O3 := Lib.hid (ho.mono K2.out.size)
  have OG := Lib.hid ho
  have N3 := blk_g N2.out hg3 (by intro e; injection e with e; have := HRC.out; omega)
  have K3 := Lib.hid (K2.out.grown hg3 K2.out.size (by intro k hk; injection hk with hk; have := HRC.out; omega))
  have HS := al_any w3 (.cells #[.int .i64 c, .bool a, .bool u, .bool r, .slice oa n cp] 39)
  have N4 := Lib.hid (blk N3 HS)
  have L4 := Lib.hid (heap_alloc_new w3 (.cells #[.int .i64 c, .bool a, .bool u, .bool r, .slice oa n cp] 39))
  have U4 := Lib.hid (hu.below HS)
  have K4 := kept_hid K3 HS
  have O4 := Lib.hid (O3.out.below HS)
  have OG4 := Lib.hid (OG.out.below HS)
  have HW2 := Lib.hid (there_lt N2.out)
  clear HS N3 K3 hu hg3 O3 OG ho U2 HCMD N2
  go_wp2_with fail
  generalize w3.heap.size = L at *
  generalize w3.alloc (.cells #[.int .i64 c, .bool a, .bool u, .bool r, .slice oa n cp] 39) = w4 at *
  with_reducible refine (err_any w4 U4.out).mono ?_
  rintro e w' ⟨rfl, rfl⟩
  obtain ⟨c0, c1, c2, c3, c4⟩ := cells5 L4.out
  obtain ⟨d0, d1, d2, d3, d4⟩ := cells5 N4.out
  obtain ⟨f0, f1, f2, f3, f4⟩ := free5 N4.out
  have D1 := Lib.hid d1
  go_wp2_with fail
  clear c0 c1 c2 c3 c4 d0 d1 d2 d3 d4 f0 f1 f2 f3 f4
  have SF := Lib.hid (set5b w4 w.heap.size 39 _ _ _ _ _ (.int .i64 c) (.bool a) (.bool u) (.bool r) (.slice oa n cp) N4.out K4.out (Nat.le_refl _))
  generalize ((((w4.setCell ⟨w.heap.size, 0, none⟩ (.int .i64 c)).setCell ⟨w.heap.size, 1, none⟩ (.bool a)).setCell ⟨w.heap.size, 2, none⟩ (.bool u)).setCell ⟨w.heap.size, 3, none⟩ (.bool r)).setCell ⟨w.heap.size, 4, none⟩ (.slice oa n cp) = wz at *
  refine bodyPost_ret (v := .tuple #[.agg #[.int .i64 c, .bool a, .bool u, .bool r, .slice oa n cp], .nilIface]) (results_cell_row_tmp rfl _ _ _ w.heap.size _ rfl (run_loadVar_row wz w.heap.size 39 39 _ (0, 0) _ SF.out.1 Tryz.underlying39 rfl (by kernel_rfl)) .nilIface rfl) rfl ?_
  exact ⟨_, _, _, rfl, (OG4.out.grown SF.out.2.1 HW2.out).mono (Nat.le_of_lt HW2.out), SF.out.2.2⟩
end Str
end Go.Proofs.YtpdlpmbjhopnnaaGreatDoor
/- Read of package stream, of whatever bytes: one contract; what is read are sound orders. -/
namespace Go.Proofs.YtpdlpmbjhopnnaaGreatDoor
open Go.RowKit Sha Cut Err Six Att Byt Apd
namespace Str
open Go.Proofs.YtpdlpmbjhopnnaaGreatDoor.Ord
theorem cread_cases (xs : List Nat) (z : Nat) : ((cread xs z).2.1 ≠ 0 ∧ (cread xs z).1 = noneC) ∨ ((cread xs z).2.1 = 0 ∧ (cread xs z).2.2 = -1 ∧ xs.length ≤ 8192 ∧ 0 < xs.length ∧ ∃ c, (cread xs z).1.cmd = (c : Nat) ∧ ((cread xs z).1.os = [] ∨ ∃ b r, xs = c :: b :: r ∧ writes (c : Int) = true ∧ (ords z r.length 2 r).2.1 = 0 ∧ (cread xs z).1.os = (ords z r.length 2 r).1)) := by
  by_cases hl : 8192 < xs.length
  · left; unfold cread; rw [if_pos hl]; exact ⟨by show (6 : Nat) ≠ 0; decide, rfl⟩
  cases xs with
  | nil => left; exact ⟨by show (2 : Nat) ≠ 0; decide, rfl⟩
  | cons c ys =>
    rw [cread_cons c ys z (by omega)]
    cases hk : known (c : Int) with
    | false => left; rw [if_pos rfl]; exact ⟨by show (5 : Nat) ≠ 0; decide, rfl⟩
    | true =>
      rw [if_neg (by decide)]
      cases hw : writes (c : Int) with
      | false =>
        rw [if_pos rfl]
        by_cases hys : ys = []
        · right; rw [if_neg (by simp [hys])]; exact ⟨rfl, rfl, by omega, by simp, c, rfl, .inl rfl⟩
        · left; rw [if_pos hys]; exact ⟨by show (1 : Nat) ≠ 0; decide, rfl⟩
      | true =>
        rw [if_neg (by decide)]
        cases ys with
        | nil => left; exact ⟨by show (2 : Nat) ≠ 0; decide, rfl⟩
        | cons b r =>
          simp only
          cases hn : noWrite b with
          | true => left; rw [if_pos rfl]; exact ⟨by show (3 : Nat) ≠ 0; decide, rfl⟩
          | false =>
            rw [if_neg (by decide)]
            by_cases hE : (ords z r.length 2 r).2.1 = 0
            · right; rw [if_neg (by rw [hE]; simp)]; exact ⟨rfl, rfl, by omega, by simp, c, rfl, .inr ⟨b, r, rfl, hw, hE, rfl⟩⟩
            · left; rw [if_pos hE]; exact ⟨hE, rfl⟩
theorem cread_sound {xs : List Nat} {z : Nat} (h8 : ∀ x ∈ xs, x < 256) (hx : xs.length < 1000000) : Sound (cread xs z).1.os ∧ (cread xs z).1.os.length ≤ xs.length := by
  rcases cread_cases xs z with ⟨_, h⟩ | ⟨_, _, _, _, c, _, h | ⟨b, r, rfl, _, _, h⟩⟩
  · rw [h]; exact ⟨nofun, Nat.zero_le _⟩
  · rw [h]; exact ⟨nofun, Nat.zero_le _⟩
  · rw [h]
    have h1 := ords_sound z r.length r 2 (fun y hy => h8 y (by simp [hy]))
    have h2 := ords_few z r.length r 2
    simp only [List.length_cons] at hx ⊢
    refine ⟨fun o ho => ?_, by omega⟩
    obtain ⟨k1, k2, k3⟩ := h1 o ho
    exact ⟨k1, by omega, k3⟩
/-- Where what is wrong is told: within the bytes. -/
theorem cread_where {xs : List Nat} {z : Nat} (h8 : ∀ x ∈ xs, x < 256) (hl : xs.length ≤ 8192) (h : (cread xs z).2.1 ≠ 0) : 0 ≤ (cread xs z).2.2 ∧ (cread xs z).2.2 ≤ (xs.length : Int) := by
  cases xs with
  | nil => exact ⟨by show (0 : Int) ≤ 0; decide, by show (0 : Int) ≤ 0; decide⟩
  | cons c ys =>
    rw [cread_cons c ys z hl] at h ⊢
    cases hk : known (c : Int) with
    | false => rw [if_pos rfl]; simp only [List.length_cons]; omega
    | true =>
      rw [hk, if_neg (by decide)] at h
      rw [if_neg (by decide)]
      cases hw : writes (c : Int) with
      | false =>
        rw [hw, if_pos rfl] at h
        rw [if_pos rfl]
        by_cases hys : ys = []
        · rw [if_neg (by simp [hys])] at h; exact absurd rfl h
        · rw [if_pos hys]; simp only [List.length_cons]; omega
      | true =>
        rw [hw, if_neg (by decide)] at h
        rw [if_neg (by decide)]
        cases ys with
        | nil => simp
        | cons b r =>
          simp only at h ⊢
          cases hn : noWrite b with
          | true => rw [if_pos rfl]; simp only [List.length_cons]; omega
          | false =>
            rw [hn, if_neg (by decide)] at h
            rw [if_neg (by decide)]
            by_cases hE : (ords z r.length 2 r).2.1 = 0
            · rw [if_neg (by rw [hE]; simp)] at h; exact absurd rfl h
            · rw [if_pos hE]
              have := ords_where z r.length r 2 (fun y hy => h8 y (by simp [hy]))
              simp only [List.length_cons]
              omega
/-- Read of whatever bytes. -/
theorem read_any {xs : List Nat} (ad : Option Addr) (cap z : Nat) (w : World) (hB : BytesIn w (.slice ad xs.length cap) xs) (h8 : ∀ x ∈ xs, x < 256) (hn : ad = none → xs.length = 0 ∧ cap = 0) (hx : xs.length < 1000000) :
    Calls Tryz.prog 16 #[.slice ad xs.length cap, .int .i64 (z : Int)] w fun e w' => ∃ oa k oc ev, e = .returned (.tuple #[.agg #[.int .i64 (cread xs z).1.cmd, .bool (cread xs z).1.a, .bool (cread xs z).1.u, .bool (cread xs z).1.r, .slice oa k oc], ev]) ∧ OrdsIn w' w.heap.size (.slice oa k oc) (cread xs z).1.os ∧ Below w.heap.size w w' ∧
      (((cread xs z).2.1 = 0 ∧ ev = .nilIface) ∨ ((cread xs z).2.1 ≠ 0 ∧ ∃ t u, ev = .iface t u)) ∧ Err.Told w' ev ((cread xs z).2.1 : Int) (cread xs z).2.2 := by
  rcases cread_cases xs z with ⟨h0, hc⟩ | ⟨h0, h1, hl, _⟩
  · have bad : ∀ (e : Ending) (w' : World), (∃ ev, e = .returned (.tuple #[.agg #[.int .i64 0, .bool false, .bool false, .bool false, .slice none 0 0], ev]) ∧ Err.Told w' ev ((cread xs z).2.1 : Int) (cread xs z).2.2 ∧ Below w.heap.size w w') → ∃ oa k oc ev, e = .returned (.tuple #[.agg #[.int .i64 (cread xs z).1.cmd, .bool (cread xs z).1.a, .bool (cread xs z).1.u, .bool (cread xs z).1.r, .slice oa k oc], ev]) ∧ OrdsIn w' w.heap.size (.slice oa k oc) (cread xs z).1.os ∧ Below w.heap.size w w' ∧
      (((cread xs z).2.1 = 0 ∧ ev = .nilIface) ∨ ((cread xs z).2.1 ≠ 0 ∧ ∃ t u, ev = .iface t u)) ∧ Err.Told w' ev ((cread xs z).2.1 : Int) (cread xs z).2.2 := by
      rintro e w' ⟨ev, rfl, ht, hb⟩
      refine ⟨none, 0, 0, ev, by rw [hc]; rfl, by rw [hc]; exact ordsIn_nil _ _, hb, .inr ⟨h0, ?_⟩, ht⟩
      rcases ht with ⟨_, h, _⟩ | ⟨rfl, _⟩ | ⟨d, b, rfl, _⟩
      · exact absurd (by omega) h0
      · exact ⟨_, _, rfl⟩
      · exact ⟨_, _, rfl⟩
    by_cases hl : 8192 < xs.length
    · exact (read_long ad cap z w hB h8 hn hl hx).mono bad
    · exact (read_bad ad cap z w hB h8 hn (by omega) h0).mono bad
  · refine (read_ok ad cap z w hB h8 hn hl h0).mono ?_
    rintro e w' ⟨oa, k, oc, rfl, ho, hb⟩
    exact ⟨oa, k, oc, _, rfl, ho, hb, .inl ⟨h0, rfl⟩, .inl ⟨rfl, by rw [h0]; rfl, h1⟩⟩
end Str
end Go.Proofs.YtpdlpmbjhopnnaaGreatDoor
