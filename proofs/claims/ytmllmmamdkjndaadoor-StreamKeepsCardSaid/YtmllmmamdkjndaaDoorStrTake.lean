/- takeCmd and takeWcc of package stream. Written by tools/gen_str_take.py. -/
import Derived.Test.YtmllmmamdkjndaaDoorBunByt
import Derived.Test.YtmllmmamdkjndaaDoorStrKind
namespace Go.Proofs.YtmllmmamdkjndaaDoor
open Go.RowKit Sha Cut Err Six Att Byt
namespace Str
theorem set3g {w a : World} {B : Nat} {r : Option Nat} {t : TypeId} {a0 a1 a2 : Value} (u0 u1 u2 : Value) (h : a.heap[B]? = some (.cells #[a0, a1, a2] t (0, 0))) (hg : w.grownBy a r) (hB : w.heap.size ≤ B) :
    (((a.setCell ⟨B, 0, none⟩ u0).setCell ⟨B, 1, none⟩ u1).setCell ⟨B, 2, none⟩ u2).heap[B]? = some (.cells #[u0, u1, u2] t (0, 0)) ∧
    a.grownBy (((a.setCell ⟨B, 0, none⟩ u0).setCell ⟨B, 1, none⟩ u1).setCell ⟨B, 2, none⟩ u2) (some B) ∧
    w.grownBy (((a.setCell ⟨B, 0, none⟩ u0).setCell ⟨B, 1, none⟩ u1).setCell ⟨B, 2, none⟩ u2) r := by
  have h := heap_setCell_same _ B 0 _ t u0 h
  have h := heap_setCell_same _ B 1 _ t u1 h
  have h := heap_setCell_same _ B 2 _ t u2 h
  have hs : a.grownBy (((a.setCell ⟨B, 0, none⟩ u0).setCell ⟨B, 1, none⟩ u1).setCell ⟨B, 2, none⟩ u2) (some B) :=
    gtrans (gsetCell _ _ _ _) (gtrans (gsetCell _ _ _ _) (gsetCell _ _ _ _))
  exact ⟨h, hs, gnew hg hs hB⟩
set_option maxHeartbeats 1000000 in
theorem takeCmd_none {C g at_ : Nat} {xs : List Nat} (w : World) (h : Byt.Cur w C g xs at_ .nilIface) (hl : xs.length ≤ at_) :
    Calls Tryd.prog 46 #[.pointer (some ⟨C, 0, none⟩)] w fun e w' => e = .returned (.int .i64 0) ∧ ∃ ev, Cur w' C g xs at_ ev ∧ Met w' ev 2 at_ ∧ w.grownBy w' (some C) := by
  have HP := Lib.hid (peek_none w h hl)
  have HF := Lib.hid (fun m => fail_new (d := 0) (.iface 55 (.int .i64 2)) 2 (w.drewN m) (h.drewN m) rfl)
  have HK := Lib.hid fun W => kind_any 0 W
  rw [show known 0 = false by decide, show writes 0 = false by decide] at HK
  clear h
  go_enter Tryd.func46, Tryd.ntmps46
  go_wp2_with fail
  with_reducible refine HP.out.mono ?_
  rintro e w1 ⟨rfl, m, rfl⟩
  go_wp2_with fail
  with_reducible refine (HK.out _).mono ?_
  rintro e w1 ⟨rfl, rfl⟩
  go_wp2_with fail
  with_reducible refine (HF.out m).mono ?_
  rintro e w2 ⟨rfl, ev, h1, h2, h3⟩
  have HR := Lib.hid (show ∃ ev, Cur w2 C g xs at_ ev ∧ Met w2 ev 2 at_ ∧ w.grownBy w2 (some C) from ⟨ev, h1, h2, gtrans (gdrewN w m _) h3⟩)
  clear h1 h2 h3 HF HP
  go_wp2_with fail
  go_ret
  exact ⟨rfl, HR.out⟩
set_option maxHeartbeats 1000000 in
theorem takeCmd_bad {C g at_ : Nat} {xs : List Nat} (w : World) (h : Byt.Cur w C g xs at_ .nilIface) (hl : at_ < xs.length) (hb8 : xs.getD at_ 0 < 256) (hk : known ((xs.getD at_ 0 : Nat) : Int) = false) :
    Calls Tryd.prog 46 #[.pointer (some ⟨C, 0, none⟩)] w fun e w' => e = .returned (.int .i64 0) ∧ ∃ ev, Cur w' C g xs at_ ev ∧ Met w' ev 5 at_ ∧ w.grownBy w' (some C) := by
  have HP := Lib.hid (peek_ok w h hl)
  have HF := Lib.hid (fun m => fail_new (d := 0) (.iface 55 (.int .i64 5)) 5 (w.drewN m) (h.drewN m) rfl)
  have HK := Lib.hid fun W => kind_any ((xs.getD at_ 0 : Nat) : Int) W
  rw [hk] at HK
  have ew : wrap64 ((xs.getD at_ 0 : Nat) : Int) = ((xs.getD at_ 0 : Nat) : Int) := by unfold wrap64; omega
  clear h hk hb8
  generalize xs.getD at_ 0 = x at *
  generalize writes (x : Int) = wr at *
  go_enter Tryd.func46, Tryd.ntmps46
  go_wp2_with fail
  with_reducible refine HP.out.mono ?_
  rintro e w1 ⟨rfl, m, rfl⟩
  go_wp2_with fail
  with_reducible refine (HK.out _).mono ?_
  rintro e w1 ⟨rfl, rfl⟩
  go_wp2_with fail
  with_reducible refine (HF.out m).mono ?_
  rintro e w2 ⟨rfl, ev, h1, h2, h3⟩
  have HR := Lib.hid (show ∃ ev, Cur w2 C g xs at_ ev ∧ Met w2 ev 5 at_ ∧ w.grownBy w2 (some C) from ⟨ev, h1, h2, gtrans (gdrewN w m _) h3⟩)
  clear h1 h2 h3 HF HP HK
  go_wp2_with fail
  go_ret
  exact ⟨rfl, HR.out⟩
set_option maxHeartbeats 1000000 in
theorem takeCmd_ok {C g at_ : Nat} {xs : List Nat} (w : World) (h : Byt.Cur w C g xs at_ .nilIface) (hx : xs.length < 1000000000) (hl : at_ < xs.length) (hb8 : xs.getD at_ 0 < 256) (hk : known ((xs.getD at_ 0 : Nat) : Int) = true) :
    Calls Tryd.prog 46 #[.pointer (some ⟨C, 0, none⟩)] w fun e w' => e = .returned (.int .i64 ((xs.getD at_ 0 : Nat) : Int)) ∧ Cur w' C g xs (at_ + 1) .nilIface ∧ w.grownBy w' (some C) := by
  have HP := Lib.hid (peek_ok w h hl)
  have HK := Lib.hid fun W => kind_any ((xs.getD at_ 0 : Nat) : Int) W
  have HB := Lib.hid (fun m => byte_ok (w.drewN m) (h.drewN m) hl hx)
  rw [hk] at HK
  have ew : wrap64 ((xs.getD at_ 0 : Nat) : Int) = ((xs.getD at_ 0 : Nat) : Int) := by unfold wrap64; omega
  clear h hk hb8
  generalize xs.getD at_ 0 = x at *
  generalize writes (x : Int) = wr at *
  go_enter Tryd.func46, Tryd.ntmps46
  go_wp2_with fail
  with_reducible refine HP.out.mono ?_
  rintro e w1 ⟨rfl, m, rfl⟩
  go_wp2_with fail
  with_reducible refine (HK.out _).mono ?_
  rintro e w1 ⟨rfl, rfl⟩
  go_wp2_with fail
  with_reducible refine (HB.out m).mono ?_
  rintro e w2 ⟨rfl, h1, h2⟩
  have H1 := Lib.hid h1
  have H2 := Lib.hid (gtrans (gdrewN w m _) h2)
  clear h1 h2 HB HP HK
  go_wp2_with fail
  go_ret
  refine ⟨?_, H1.out, H2.out⟩
  show Ending.returned (.int .i64 (wrap64 _)) = _
  rw [ew]
set_option maxRecDepth 100000 in
set_option maxHeartbeats 2000000 in
theorem takeWcc_ok {C g at_ : Nat} {xs : List Nat} (w : World) (h : Byt.Cur w C g xs at_ .nilIface) (hx : xs.length < 1000000000) (hl : at_ < xs.length) (p n m : Bool) (hb : xs.getD at_ 0 = put (wnum p n m)) :
    Calls Tryd.prog 47 #[.pointer (some ⟨C, 0, none⟩)] w fun e w' => e = .returned (.agg #[.bool p, .bool n, .bool m]) ∧ Cur w' C g xs (at_ + 1) .nilIface ∧ w.grownBy w' (some C) := by
  have HA := al_any w (.cells #[.bool false, .bool false, .bool false] 23)
  have HN := Lib.hid (heap_alloc_new w (.cells #[.bool false, .bool false, .bool false] 23))
  have hP := peek_ok _ (h.below HA) hl
  rw [hb] at hP
  have HP := Lib.hid hP
  have HU := Lib.hid (h.below HA)
  have HG := Lib.hid fun W => getWcc_ok p n m W
  have HC := Lib.hid h.clt
  have HGL := Lib.hid h.glt
  have HA := Lib.hid HA
  clear h hb hP
  go_enter Tryd.func47, Tryd.ntmps47
  go_wp2_with fail
  generalize w.alloc (.cells #[.bool false, .bool false, .bool false] 23) = wa at *
  with_reducible refine HP.out.mono ?_
  rintro e w1 ⟨rfl, j, rfl⟩
  clear HP
  go_wp2_with fail
  with_reducible refine (HG.out _).mono ?_
  rintro e w1 ⟨rfl, hb⟩
  have H1 := kept_hid (kept_draw HA j) hb
  have N1 := blk HN.out (kept_trans (drewN_below _ j wa) hb)
  have U1 := (HU.out.drewN j).below hb
  have H2 := kept_alloc H1 (.cells #[.bool p, .bool n, .bool m] 23)
  have N2 := Lib.hid (blk N1 (al_any w1 (.cells #[.bool p, .bool n, .bool m] 23)))
  have M2 := Lib.hid (heap_alloc_new w1 (.cells #[.bool p, .bool n, .bool m] 23))
  have U2 := Lib.hid (U1.below (al_any w1 (.cells #[.bool p, .bool n, .bool m] 23)))
  have HL := Lib.hid (Nat.lt_of_lt_of_le HC.out H1.out.size)
  have HK := Lib.hid (Nat.lt_of_lt_of_le HGL.out H1.out.size)
  have HB := Lib.hid H1.out.size
  clear hb HU HN HA HG N1 U1 H1
  go_wp2_with fail
  generalize w1.heap.size = L at *
  generalize w1.alloc (.cells #[.bool p, .bool n, .bool m] 23) = w2 at *
  with_reducible refine (fail_nil w2 U2.out).mono ?_
  rintro e w3 ⟨rfl, rfl⟩
  go_wp2_with fail
  with_reducible refine (byte_ok w2 U2.out hl hx).mono ?_
  rintro e w3 ⟨rfl, hu, hgr⟩
  have U3 := Lib.hid hu
  clear hu
  have N3 := Lib.hid (blk_g N2.out hgr (by intro e; injection e with e; have := HC.out; omega))
  have L3 := blk_g M2.out hgr (by intro e; injection e with e; have := HL.out; omega)
  have G3 := Lib.hid (gtrans (gbelow H2.out (some C)) hgr)
  obtain ⟨c0, c1, c2⟩ := cells3 L3
  obtain ⟨d0, d1, d2⟩ := cells3 N3.out
  obtain ⟨f0, f1, f2⟩ := free3 N3.out
  have S3 := Lib.hid (fun u0 u1 u2 => set3g u0 u1 u2 N3.out G3.out (Nat.le_refl _))
  have D3 := Lib.hid d1
  clear hgr L3 N2 M2 H2
  go_wp2_with fail
  have S4 := Lib.hid (S3.out (.bool p) (.bool n) (.bool m))
  clear c0 c1 c2 d0 d1 d2 f0 f1 f2 S3 N3
  generalize ((w3.setCell ⟨w.heap.size, 0, none⟩ (.bool p)).setCell ⟨w.heap.size, 1, none⟩ (.bool n)).setCell ⟨w.heap.size, 2, none⟩ (.bool m) = wz at *
  refine bodyPost_ret (v := .agg #[.bool p, .bool n, .bool m]) (results_cell_row rfl _ _ w.heap.size 23 _ (0, 0) _ rfl S4.out.1 Tryd.underlying23 rfl (by kernel_rfl)) rfl ⟨rfl, ?_⟩
  exact ⟨U3.out.other S4.out.2.1 (by have := HC.out; omega) (by have := HGL.out; omega), S4.out.2.2⟩
set_option maxRecDepth 100000 in
set_option maxHeartbeats 2000000 in
theorem takeWcc_bad {C g at_ : Nat} {xs : List Nat} (w : World) (h : Byt.Cur w C g xs at_ .nilIface) (hl : at_ < xs.length) (hb8 : xs.getD at_ 0 < 256) (hb : noWrite (xs.getD at_ 0) = true) :
    Calls Tryd.prog 47 #[.pointer (some ⟨C, 0, none⟩)] w fun e w' => e = .returned (.agg #[.bool false, .bool false, .bool false]) ∧ ∃ ev, Cur w' C g xs at_ ev ∧ Met w' ev 3 at_ ∧ w.grownBy w' (some C) := by
  have HA := al_any w (.cells #[.bool false, .bool false, .bool false] 23)
  have HN := Lib.hid (heap_alloc_new w (.cells #[.bool false, .bool false, .bool false] 23))
  have hP := peek_ok _ (h.below HA) hl
  have HP := Lib.hid hP
  have HU := Lib.hid (h.below HA)
  have HG := Lib.hid fun W => getWcc_bad (xs.getD at_ 0) W hb8 hb
  have HC := Lib.hid h.clt
  have HGL := Lib.hid h.glt
  have HA := Lib.hid HA
  clear h hb hP hb8
  generalize xs.getD at_ 0 = x at *
  go_enter Tryd.func47, Tryd.ntmps47
  go_wp2_with fail
  generalize w.alloc (.cells #[.bool false, .bool false, .bool false] 23) = wa at *
  with_reducible refine HP.out.mono ?_
  rintro e w1 ⟨rfl, j, rfl⟩
  clear HP
  go_wp2_with fail
  with_reducible refine (HG.out _).mono ?_
  rintro e w1 ⟨rfl, hb⟩
  have H1 := kept_hid (kept_draw HA j) hb
  have N1 := blk HN.out (kept_trans (drewN_below _ j wa) hb)
  have U1 := (HU.out.drewN j).below hb
  have H2 := kept_alloc H1 (.cells #[.bool false, .bool false, .bool false] 23)
  have N2 := Lib.hid (blk N1 (al_any w1 (.cells #[.bool false, .bool false, .bool false] 23)))
  have M2 := Lib.hid (heap_alloc_new w1 (.cells #[.bool false, .bool false, .bool false] 23))
  have U2 := Lib.hid (U1.below (al_any w1 (.cells #[.bool false, .bool false, .bool false] 23)))
  have HL := Lib.hid (Nat.lt_of_lt_of_le HC.out H1.out.size)
  have HK := Lib.hid (Nat.lt_of_lt_of_le HGL.out H1.out.size)
  have HB := Lib.hid H1.out.size
  clear hb HU HN HA HG N1 U1 H1
  go_wp2_with fail
  generalize w1.heap.size = L at *
  generalize w1.alloc (.cells #[.bool false, .bool false, .bool false] 23) = w2 at *
  have HF := Lib.hid (fail_new (d := 0) (.iface 55 (.int .i64 3)) 3 w2 U2.out rfl)
  with_reducible refine HF.out.mono ?_
  rintro e w3 ⟨rfl, ev, hu, hm, hgr⟩
  obtain ⟨b, rfl, hm⟩ := hm
  have U3 := Lib.hid hu
  have M3 := Lib.hid (show Met w3 _ 3 at_ from ⟨b, rfl, hm⟩)
  clear hu hm HF
  go_wp2_with fail
  with_reducible refine (byte_met w3 U3.out).mono ?_
  rintro e w4 ⟨rfl, rfl⟩
  have N3 := Lib.hid (blk_g N2.out hgr (by intro e; injection e with e; have := HC.out; omega))
  have L3 := blk_g M2.out hgr (by intro e; injection e with e; have := HL.out; omega)
  have G3 := Lib.hid (gtrans (gbelow H2.out (some C)) hgr)
  obtain ⟨c0, c1, c2⟩ := cells3 L3
  obtain ⟨d0, d1, d2⟩ := cells3 N3.out
  obtain ⟨f0, f1, f2⟩ := free3 N3.out
  have S3 := Lib.hid (fun u0 u1 u2 => set3g u0 u1 u2 N3.out G3.out (Nat.le_refl _))
  have D3 := Lib.hid d1
  clear hgr L3 N2 M2 H2
  go_wp2_with fail
  have S4 := Lib.hid (S3.out (.bool false) (.bool false) (.bool false))
  clear c0 c1 c2 d0 d1 d2 f0 f1 f2 S3 N3
  generalize ((w3.setCell ⟨w.heap.size, 0, none⟩ (.bool false)).setCell ⟨w.heap.size, 1, none⟩ (.bool false)).setCell ⟨w.heap.size, 2, none⟩ (.bool false) = wz at *
  refine bodyPost_ret (v := .agg #[.bool false, .bool false, .bool false]) (results_cell_row rfl _ _ w.heap.size 23 _ (0, 0) _ rfl S4.out.1 Tryd.underlying23 rfl (by kernel_rfl)) rfl ⟨rfl, ?_⟩
  exact ⟨_, U3.out.other S4.out.2.1 (by have := HC.out; omega) (by have := HGL.out; omega), M3.out.other S4.out.2.1 (fun t x h => by rw [D3.out] at h; cases h), S4.out.2.2⟩
set_option maxRecDepth 100000 in
set_option maxHeartbeats 2000000 in
theorem takeWcc_none {C g at_ : Nat} {xs : List Nat} (w : World) (h : Byt.Cur w C g xs at_ .nilIface) (hl : xs.length ≤ at_) :
    Calls Tryd.prog 47 #[.pointer (some ⟨C, 0, none⟩)] w fun e w' => e = .returned (.agg #[.bool false, .bool false, .bool false]) ∧ ∃ ev, Cur w' C g xs at_ ev ∧ Met w' ev 2 at_ ∧ w.grownBy w' (some C) := by
  have HA := al_any w (.cells #[.bool false, .bool false, .bool false] 23)
  have HN := Lib.hid (heap_alloc_new w (.cells #[.bool false, .bool false, .bool false] 23))
  have hP := peek_none _ (h.below HA) hl
  have HP := Lib.hid hP
  have HU := Lib.hid (h.below HA)
  have HG := Lib.hid fun W => getWcc_bad 0 W (by decide) (by decide)
  have HC := Lib.hid h.clt
  have HGL := Lib.hid h.glt
  have HA := Lib.hid HA
  clear h hP
  simp only [show ((0 : Nat) : Int) = 0 from rfl] at HG
  go_enter Tryd.func47, Tryd.ntmps47
  go_wp2_with fail
  generalize w.alloc (.cells #[.bool false, .bool false, .bool false] 23) = wa at *
  with_reducible refine HP.out.mono ?_
  rintro e w1 ⟨rfl, j, rfl⟩
  clear HP
  go_wp2_with fail
  with_reducible refine (HG.out _).mono ?_
  rintro e w1 ⟨rfl, hb⟩
  have H1 := kept_hid (kept_draw HA j) hb
  have N1 := blk HN.out (kept_trans (drewN_below _ j wa) hb)
  have U1 := (HU.out.drewN j).below hb
  have H2 := kept_alloc H1 (.cells #[.bool false, .bool false, .bool false] 23)
  have N2 := Lib.hid (blk N1 (al_any w1 (.cells #[.bool false, .bool false, .bool false] 23)))
  have M2 := Lib.hid (heap_alloc_new w1 (.cells #[.bool false, .bool false, .bool false] 23))
  have U2 := Lib.hid (U1.below (al_any w1 (.cells #[.bool false, .bool false, .bool false] 23)))
  have HL := Lib.hid (Nat.lt_of_lt_of_le HC.out H1.out.size)
  have HK := Lib.hid (Nat.lt_of_lt_of_le HGL.out H1.out.size)
  have HB := Lib.hid H1.out.size
  clear hb HU HN HA HG N1 U1 H1
  go_wp2_with fail
  generalize w1.heap.size = L at *
  generalize w1.alloc (.cells #[.bool false, .bool false, .bool false] 23) = w2 at *
  with_reducible refine (byte_none w2 U2.out hl).mono ?_
  rintro e w3 ⟨rfl, ev, hu, hm, hgr⟩
  have U3 := Lib.hid hu
  have M3 := Lib.hid hm
  clear hu hm
  have N3 := Lib.hid (blk_g N2.out hgr (by intro e; injection e with e; have := HC.out; omega))
  have L3 := blk_g M2.out hgr (by intro e; injection e with e; have := HL.out; omega)
  have G3 := Lib.hid (gtrans (gbelow H2.out (some C)) hgr)
  obtain ⟨c0, c1, c2⟩ := cells3 L3
  obtain ⟨d0, d1, d2⟩ := cells3 N3.out
  obtain ⟨f0, f1, f2⟩ := free3 N3.out
  have S3 := Lib.hid (fun u0 u1 u2 => set3g u0 u1 u2 N3.out G3.out (Nat.le_refl _))
  have D3 := Lib.hid d1
  clear hgr L3 N2 M2 H2
  go_wp2_with fail
  have S4 := Lib.hid (S3.out (.bool false) (.bool false) (.bool false))
  clear c0 c1 c2 d0 d1 d2 f0 f1 f2 S3 N3
  generalize ((w3.setCell ⟨w.heap.size, 0, none⟩ (.bool false)).setCell ⟨w.heap.size, 1, none⟩ (.bool false)).setCell ⟨w.heap.size, 2, none⟩ (.bool false) = wz at *
  refine bodyPost_ret (v := .agg #[.bool false, .bool false, .bool false]) (results_cell_row rfl _ _ w.heap.size 23 _ (0, 0) _ rfl S4.out.1 Tryd.underlying23 rfl (by kernel_rfl)) rfl ⟨rfl, ?_⟩
  exact ⟨_, U3.out.other S4.out.2.1 (by have := HC.out; omega) (by have := HGL.out; omega), M3.out.other S4.out.2.1 (fun t x h => by rw [D3.out] at h; cases h), S4.out.2.2⟩
end Str
end Go.Proofs.YtmllmmamdkjndaaDoor
