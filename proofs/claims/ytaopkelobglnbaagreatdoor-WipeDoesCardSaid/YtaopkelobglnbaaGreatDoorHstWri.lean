/- The landed code of package host: write. Written by tools/gen_hst_do.py. -/
import Derived.Test.YtaopkelobglnbaaGreatDoorHstLow
import Derived.Test.YtaopkelobglnbaaGreatDoorBunPnc
import Derived.Deep.Cut
import Derived.Deep.RegionHeld3
namespace Go.Proofs.YtaopkelobglnbaaGreatDoor
open Go.RowKit Sha Six Apd Cut Err Att Grd Fld Pnt Scr
set_option linter.unusedVariables false
namespace Hst
set_option maxRecDepth 100000 in
set_option maxHeartbeats 8000000 in
theorem write_f (s : S) (ad : Option Addr) (k : Nat) (cmd : Int) (fa fu : Bool) (al : Option Addr) (nl cl : Nat) (os : List Go.Proofs.YtaopkelobglnbaaGreatDoor.Ord.O) (w : World) (h : CelsIn w (.slice ad s.cs.length k) s.cs) (hr : sright s = true) (h8 : Sound s.cs) (hl : s.cs.length < 10000) (hO : Str.OrdsIn w 0 (.slice al nl cl) os) (ho8 : Str.Sound os) (hol : os.length < 10000) (hw : pwrong s.cs.length os = none) :
    Calls Tryz.prog 46 #[.agg #[.int .i64 s.rows, .int .i64 s.cols, .slice ad s.cs.length k, .int .i64 s.cur, .bool s.lk, .bool s.ins], .agg #[.int .i64 cmd, .bool fa, .bool fu, .bool false, .slice al nl cl]] w fun e w' => GaveA w w' (hwrite s false fu os) e := by
  obtain ⟨a, ha⟩ := Int.eq_ofNat_of_zero_le (sright_parts hr).2.2.1
  have hal : a < s.cs.length := by have := (sright_parts hr).2.2.2.1; omega
  rw [ha]
  have HA3 := Lib.hid (heap_alloc3 w (.cells #[.int .i64 s.rows, .int .i64 s.cols, .slice ad s.cs.length k, .int .i64 (a : Int), .bool s.lk, .bool s.ins] 24) (.cells #[.int .i64 cmd, .bool fa, .bool fu, .bool false, .slice al nl cl] 52) (.cells #[.int .i64 0, .int .i64 0, .slice none 0 0, .int .i64 0, .bool false, .bool false] 24))
  have HB := Lib.hid (kept_trans (kept_trans (al_any w (.cells #[.int .i64 s.rows, .int .i64 s.cols, .slice ad s.cs.length k, .int .i64 (a : Int), .bool s.lk, .bool s.ins] 24)) (al_any _ (.cells #[.int .i64 cmd, .bool fa, .bool fu, .bool false, .slice al nl cl] 52))) (al_any _ (.cells #[.int .i64 0, .int .i64 0, .slice none 0 0, .int .i64 0, .bool false, .bool false] 24)))
  have HX := Lib.hid HA3.out.1
  have HY := Lib.hid HA3.out.2.1
  have HZ := Lib.hid HA3.out.2.2
  have HP := Lib.hid (show 0 < s.cs.length from by omega)
  have HOS := Lib.hid hO
  have HAL := Lib.hid fun (W : World) (hc : CelsIn W (.slice ad s.cs.length k) s.cs) (ho : Str.OrdsIn W 0 (.slice al nl cl) os) => all_ok s ad k a al nl cl os W hc hr h8 hl hal ho ho8 hol hw
  simp only [ha] at HAL
  have HI := Lib.hid (h.below HB.out)
  have HPL := Lib.hid (show (pall (s, a) os).1.cs.length = s.cs.length from pall_length _ _)
  have HWR := Lib.hid (show hwrite s false fu os = unlocked fu (pall (s, a) os).1 from by
    unfold hwrite
    rw [show (after false s) = s from rfl, ha]; rfl)
  have HL := Lib.hid hl
  clear h hr h8 hl hO ho8 hol hw HA3 ha hal
  go_enter Tryz.func46, Tryz.ntmps46
  go_upto_region 1 with (fail)
  generalize ((w.alloc _).alloc _).alloc _ = w1 at *
  have hzx := there_lt HZ.out
  obtain ⟨c0, c1, c2, c3, c4, c5⟩ := cells6 HX.out
  obtain ⟨y0, y1, y2, y3, y4⟩ := cells5s HY.out
  have HO := Lib.hid (HAL.out w1 HI.out (HOS.out.below HB.out))
  have hx3 := there_lt HX.out
  have KK := HB
  have X3 := HX
  have Y3 := HY
  have Z3 := HZ
  clear HX HY HZ HB HI
  obtain ⟨w3, rfl⟩ : ∃ w3 : World, w3 = w1 := ⟨_, rfl⟩
  generalize pall (s, a) os = rr at *
  obtain ⟨s2, p2⟩ := rr
  simp only at HO HPL HWR
  clear HAL HOS
  go_wp2_with fail
  with_reducible refine (HO.out).mono ?_
  rintro e w4 ⟨va4, vd, rfl, ho, hb⟩
  simp only at ho
  clear c0 c1 c2 c3 c4 c5 y0 y1 y2 y3 y4 HO
  have X4 := Lib.hid (blk X3.out hb)
  have Y4 := Lib.hid (blk Y3.out hb)
  have Z4 := Lib.hid (blk Z3.out hb)
  have hz3 := there_lt Z3.out
  obtain ⟨g4, e1, hg4, B5⟩ := Box.over (w0 := w) (t := s2) X4.out ho (by rw [HPL.out]; exact HP.out) hx3 (Nat.le_refl _) (kept_trans KK.out hb)
  subst e1
  have H5 := Lib.hid B5
  have SF := over6 w4 w.heap.size _ _ _ _ _ _ _ (.int .i64 s2.rows) (.int .i64 s2.cols) (.slice (some ⟨g4, 0, none⟩) s2.cs.length vd) (.int .i64 s2.cur) (.bool s2.lk) (.bool s2.ins) X4.out
  have Y5 := Lib.hid (blk_g Y4.out SF.2 (by intro e; injection e with e; omega))
  have Z5 := Lib.hid (blk_g Z4.out SF.2 (by intro e; injection e with e; omega))
  have HG4 := Lib.hid (show w.heap.size + 2 < g4 from by omega)
  obtain ⟨c0, c1, c2, c3, c4, c5⟩ := cells6 X4.out
  obtain ⟨f0, f1, f2, f3, f4, f5⟩ := free6 X4.out
  clear ho hb hz3 hx3 Z4 Z3 Y4 Y3 X3 KK SF B5
  go_upto_region 4 with (fail)
  clear c0 c1 c2 c3 c4 c5 f0 f1 f2 f3 f4 f5 X4
  generalize (((((w4.setCell _ _).setCell _ _).setCell _ _).setCell _ _).setCell _ _).setCell _ _ = w5 at *
  obtain ⟨c0, c1, c2, c3, c4, c5⟩ := H5.out.cells
  obtain ⟨y0, y1, y2, y3, y4⟩ := cells5s Y5.out
  cases fu with
  | false =>
    obtain ⟨z0, z1, z2, z3, z4, z5⟩ := cells6 Z5.out
    obtain ⟨f0, f1, f2, f3, f4, f5⟩ := free6 Z5.out
    have SF := Lib.hid (H5.out.gave Z5.out (by have := HG4.out; omega) (by omega))
    go_wp2_with fail
    clear z0 z1 z2 z3 z4 z5 c0 c1 c2 c3 c4 c5 f0 f1 f2 f3 f4 f5 y0 y1 y2 y3 y4
    generalize (((((w5.setCell _ _).setCell _ _).setCell _ _).setCell _ _).setCell _ _).setCell _ _ = w9 at *
    exact bodyPost_ret (v := .agg #[.int .i64 s2.rows, .int .i64 s2.cols, .slice (some ⟨g4, 0, none⟩) s2.cs.length vd, .int .i64 s2.cur, .bool s2.lk, .bool s2.ins]) (results_cell_row rfl _ _ (w.heap.size + 2) 24 _ (0, 0) _ rfl SF.out.1 Tryz.underlying24 rfl (by kernel_rfl)) rfl ⟨some ⟨g4, 0, none⟩, vd, by rw [HWR.out]; rfl, by rw [HWR.out]; exact SF.out.2.1, SF.out.2.2⟩
  | true =>
    have HU := Lib.hid fun W => unlock_any s2.rows s2.cols s2.cur (some ⟨g4, 0, none⟩) s2.cs.length vd s2.lk s2.ins W
    go_wp2_with fail
    with_reducible refine (HU.out _).mono ?_
    rintro e w6 ⟨rfl, hb⟩
    clear c0 c1 c2 c3 c4 c5 HU y0 y1 y2 y3 y4
    have H6 := Lib.hid (H5.out.below hb)
    have Z6 := Lib.hid (blk Z5.out hb)
    obtain ⟨c0, c1, c2, c3, c4, c5⟩ := H6.out.cells
    obtain ⟨f0, f1, f2, f3, f4, f5⟩ := H6.out.free
    have SF := over6 w6 w.heap.size _ _ _ _ _ _ _ (.int .i64 s2.rows) (.int .i64 s2.cols) (.slice (some ⟨g4, 0, none⟩) s2.cs.length vd) (.int .i64 s2.cur) (.bool false) (.bool false) H6.out.box
    have H7 := Lib.hid (show Box w _ w.heap.size g4 vd { s2 with lk := false, ins := false } from ⟨SF.1, H6.out.own.away SF.2 (by intro e; injection e with e; exact H6.out.ne e), H6.out.ne, Nat.le_refl _, below_grown H6.out.kept SF.2 (Nat.le_refl _)⟩)
    have Z7 := Lib.hid (blk_g Z6.out SF.2 (by intro e; injection e with e; omega))
    clear hb H5 Y5 Z5 Z6 SF
    go_upto_region 6 with (fail)
    clear c0 c1 c2 c3 c4 c5 f0 f1 f2 f3 f4 f5 H6
    generalize (((((w6.setCell _ _).setCell _ _).setCell _ _).setCell _ _).setCell _ _).setCell _ _ = w7 at *
    obtain ⟨c0, c1, c2, c3, c4, c5⟩ := H7.out.cells
    obtain ⟨z0, z1, z2, z3, z4, z5⟩ := cells6 Z7.out
    obtain ⟨f0, f1, f2, f3, f4, f5⟩ := free6 Z7.out
    have SF := Lib.hid (H7.out.gave Z7.out (by have := HG4.out; omega) (by omega))
    simp only at c0 c1 c2 c3 c4 c5 SF
    go_wp2_with fail
    clear z0 z1 z2 z3 z4 z5 c0 c1 c2 c3 c4 c5 f0 f1 f2 f3 f4 f5
    generalize (((((w7.setCell _ _).setCell _ _).setCell _ _).setCell _ _).setCell _ _).setCell _ _ = w9 at *
    exact bodyPost_ret (v := .agg #[.int .i64 s2.rows, .int .i64 s2.cols, .slice (some ⟨g4, 0, none⟩) s2.cs.length vd, .int .i64 s2.cur, .bool false, .bool false]) (results_cell_row rfl _ _ (w.heap.size + 2) 24 _ (0, 0) _ rfl SF.out.1 Tryz.underlying24 rfl (by kernel_rfl)) rfl ⟨some ⟨g4, 0, none⟩, vd, by rw [HWR.out]; rfl, by rw [HWR.out]; exact SF.out.2.1, SF.out.2.2⟩
set_option maxRecDepth 100000 in
set_option maxHeartbeats 8000000 in
theorem write_t (s : S) (ad : Option Addr) (k : Nat) (cmd : Int) (fa fu : Bool) (al : Option Addr) (nl cl : Nat) (os : List Go.Proofs.YtaopkelobglnbaaGreatDoor.Ord.O) (w : World) (h : CelsIn w (.slice ad s.cs.length k) s.cs) (hr : sright s = true) (h8 : Sound s.cs) (hl : s.cs.length < 10000) (hO : Str.OrdsIn w 0 (.slice al nl cl) os) (ho8 : Str.Sound os) (hol : os.length < 10000) (hw : pwrong s.cs.length os = none) :
    Calls Tryz.prog 46 #[.agg #[.int .i64 s.rows, .int .i64 s.cols, .slice ad s.cs.length k, .int .i64 s.cur, .bool s.lk, .bool s.ins], .agg #[.int .i64 cmd, .bool fa, .bool fu, .bool true, .slice al nl cl]] w fun e w' => GaveA w w' (hwrite s true fu os) e := by
  obtain ⟨a, ha⟩ := Int.eq_ofNat_of_zero_le (sright_parts hr).2.2.1
  have hal : a < s.cs.length := by have := (sright_parts hr).2.2.2.1; omega
  rw [ha]
  have HA3 := Lib.hid (heap_alloc3 w (.cells #[.int .i64 s.rows, .int .i64 s.cols, .slice ad s.cs.length k, .int .i64 (a : Int), .bool s.lk, .bool s.ins] 24) (.cells #[.int .i64 cmd, .bool fa, .bool fu, .bool true, .slice al nl cl] 52) (.cells #[.int .i64 0, .int .i64 0, .slice none 0 0, .int .i64 0, .bool false, .bool false] 24))
  have HB := Lib.hid (kept_trans (kept_trans (al_any w (.cells #[.int .i64 s.rows, .int .i64 s.cols, .slice ad s.cs.length k, .int .i64 (a : Int), .bool s.lk, .bool s.ins] 24)) (al_any _ (.cells #[.int .i64 cmd, .bool fa, .bool fu, .bool true, .slice al nl cl] 52))) (al_any _ (.cells #[.int .i64 0, .int .i64 0, .slice none 0 0, .int .i64 0, .bool false, .bool false] 24)))
  have HX := Lib.hid HA3.out.1
  have HY := Lib.hid HA3.out.2.1
  have HZ := Lib.hid HA3.out.2.2
  have HP := Lib.hid (show 0 < s.cs.length from by omega)
  have HOS := Lib.hid hO
  have HC := Lib.hid fun W hb => reset_any s ad k true W ((h.below HB.out).below hb) hr h8 hl
  simp only [ha] at HC
  have HLE := Lib.hid (hreset_rest s true).2.2.1
  have HAL := Lib.hid fun (W : World) (g : Option Addr) (vc : Nat) (hc : CelsIn W (.slice g (hreset s true).cs.length vc) (hreset s true).cs) (ho : Str.OrdsIn W 0 (.slice al nl cl) os) => all_ok (hreset s true) g vc a al nl cl os W hc (hreset_right hr) (resetC_sound h8) (by rw [HLE.out]; exact hl) (by rw [HLE.out]; exact hal) ho ho8 hol (by rw [HLE.out]; exact hw)
  have HCA := Lib.hid (show (hreset s true).cur = (a : Int) from ha)
  have HPL := Lib.hid (show (pall (hreset s true, a) os).1.cs.length = s.cs.length from (pall_length _ _).trans HLE.out)
  have HWR := Lib.hid (show hwrite s true fu os = unlocked fu (pall (hreset s true, a) os).1 from by
    unfold hwrite
    rw [show (after true s) = hreset s true from rfl, HCA.out]; rfl)
  have HL := Lib.hid hl
  clear h hr h8 hl hO ho8 hol hw HA3 ha hal
  go_enter Tryz.func46, Tryz.ntmps46
  go_upto_region 1 with (fail)
  generalize ((w.alloc _).alloc _).alloc _ = w1 at *
  have hzx := there_lt HZ.out
  obtain ⟨c0, c1, c2, c3, c4, c5⟩ := cells6 HX.out
  obtain ⟨y0, y1, y2, y3, y4⟩ := cells5s HY.out
  go_wp2_with fail
  with_reducible refine (HC.out _ (Below.refl _ _)).mono ?_
  rintro e w2 ⟨va, vc, rfl, ho, hb⟩
  clear c0 c1 c2 c3 c4 c5 y0 y1 y2 y3 y4
  generalize hreset s true = s1 at *
  have X2 := Lib.hid (blk HX.out hb)
  have Y2 := Lib.hid (blk HY.out hb)
  have Z2 := Lib.hid (blk HZ.out hb)
  obtain ⟨g, e1, hg1, B3⟩ := Box.over (w0 := w) X2.out ho (by rw [HLE.out]; exact HP.out) (show w.heap.size < w1.heap.size by omega) (Nat.le_refl _) (kept_trans HB.out hb)
  subst e1
  rw [HCA.out] at B3
  have H3 := Lib.hid B3
  have SF := over6 w2 w.heap.size _ _ _ _ _ _ _ (.int .i64 s1.rows) (.int .i64 s1.cols) (.slice (some ⟨g, 0, none⟩) s1.cs.length vc) (.int .i64 (a : Int)) (.bool s1.lk) (.bool s1.ins) X2.out
  have Y3 := Lib.hid (blk_g Y2.out SF.2 (by intro e; injection e with e; omega))
  have Z3 := Lib.hid (blk_g Z2.out SF.2 (by intro e; injection e with e; omega))
  obtain ⟨c0, c1, c2, c3, c4, c5⟩ := cells6 X2.out
  obtain ⟨f0, f1, f2, f3, f4, f5⟩ := free6 X2.out
  rw [HCA.out]
  clear ho hb Y2 Z2 HX HY HZ HB HC SF B3
  go_upto_region 3 with (fail)
  clear c0 c1 c2 c3 c4 c5 f0 f1 f2 f3 f4 f5 X2
  generalize (((((w2.setCell _ _).setCell _ _).setCell _ _).setCell _ _).setCell _ _).setCell _ _ = w3 at *
  obtain ⟨c0, c1, c2, c3, c4, c5⟩ := H3.out.cells
  rw [HCA.out] at c3
  obtain ⟨y0, y1, y2, y3, y4⟩ := cells5s Y3.out
  have HO := Lib.hid (HAL.out w3 _ _ H3.out.own.to (HOS.out.below H3.out.kept))
  have hx3 := H3.out.lt
  have KK := Lib.hid H3.out.kept
  have X3 := Lib.hid H3.out.box
  rw [HCA.out] at HO
  clear H3
  generalize pall (s1, a) os = rr at *
  obtain ⟨s2, p2⟩ := rr
  simp only at HO HPL HWR
  clear HAL HOS
  go_wp2_with fail
  with_reducible refine (HO.out).mono ?_
  rintro e w4 ⟨va4, vd, rfl, ho, hb⟩
  simp only at ho
  clear c0 c1 c2 c3 c4 c5 y0 y1 y2 y3 y4 HO
  have X4 := Lib.hid (blk X3.out hb)
  have Y4 := Lib.hid (blk Y3.out hb)
  have Z4 := Lib.hid (blk Z3.out hb)
  have hz3 := there_lt Z3.out
  obtain ⟨g4, e1, hg4, B5⟩ := Box.over (w0 := w) (t := s2) X4.out ho (by rw [HPL.out]; exact HP.out) hx3 (Nat.le_refl _) (kept_trans KK.out hb)
  subst e1
  have H5 := Lib.hid B5
  have SF := over6 w4 w.heap.size _ _ _ _ _ _ _ (.int .i64 s2.rows) (.int .i64 s2.cols) (.slice (some ⟨g4, 0, none⟩) s2.cs.length vd) (.int .i64 s2.cur) (.bool s2.lk) (.bool s2.ins) X4.out
  have Y5 := Lib.hid (blk_g Y4.out SF.2 (by intro e; injection e with e; omega))
  have Z5 := Lib.hid (blk_g Z4.out SF.2 (by intro e; injection e with e; omega))
  have HG4 := Lib.hid (show w.heap.size + 2 < g4 from by omega)
  obtain ⟨c0, c1, c2, c3, c4, c5⟩ := cells6 X4.out
  obtain ⟨f0, f1, f2, f3, f4, f5⟩ := free6 X4.out
  clear ho hb hz3 hx3 Z4 Z3 Y4 Y3 X3 KK SF B5
  go_upto_region 4 with (fail)
  clear c0 c1 c2 c3 c4 c5 f0 f1 f2 f3 f4 f5 X4
  generalize (((((w4.setCell _ _).setCell _ _).setCell _ _).setCell _ _).setCell _ _).setCell _ _ = w5 at *
  obtain ⟨c0, c1, c2, c3, c4, c5⟩ := H5.out.cells
  obtain ⟨y0, y1, y2, y3, y4⟩ := cells5s Y5.out
  cases fu with
  | false =>
    obtain ⟨z0, z1, z2, z3, z4, z5⟩ := cells6 Z5.out
    obtain ⟨f0, f1, f2, f3, f4, f5⟩ := free6 Z5.out
    have SF := Lib.hid (H5.out.gave Z5.out (by have := HG4.out; omega) (by omega))
    go_wp2_with fail
    clear z0 z1 z2 z3 z4 z5 c0 c1 c2 c3 c4 c5 f0 f1 f2 f3 f4 f5 y0 y1 y2 y3 y4
    generalize (((((w5.setCell _ _).setCell _ _).setCell _ _).setCell _ _).setCell _ _).setCell _ _ = w9 at *
    exact bodyPost_ret (v := .agg #[.int .i64 s2.rows, .int .i64 s2.cols, .slice (some ⟨g4, 0, none⟩) s2.cs.length vd, .int .i64 s2.cur, .bool s2.lk, .bool s2.ins]) (results_cell_row rfl _ _ (w.heap.size + 2) 24 _ (0, 0) _ rfl SF.out.1 Tryz.underlying24 rfl (by kernel_rfl)) rfl ⟨some ⟨g4, 0, none⟩, vd, by rw [HWR.out]; rfl, by rw [HWR.out]; exact SF.out.2.1, SF.out.2.2⟩
  | true =>
    have HU := Lib.hid fun W => unlock_any s2.rows s2.cols s2.cur (some ⟨g4, 0, none⟩) s2.cs.length vd s2.lk s2.ins W
    go_wp2_with fail
    with_reducible refine (HU.out _).mono ?_
    rintro e w6 ⟨rfl, hb⟩
    clear c0 c1 c2 c3 c4 c5 HU y0 y1 y2 y3 y4
    have H6 := Lib.hid (H5.out.below hb)
    have Z6 := Lib.hid (blk Z5.out hb)
    obtain ⟨c0, c1, c2, c3, c4, c5⟩ := H6.out.cells
    obtain ⟨f0, f1, f2, f3, f4, f5⟩ := H6.out.free
    have SF := over6 w6 w.heap.size _ _ _ _ _ _ _ (.int .i64 s2.rows) (.int .i64 s2.cols) (.slice (some ⟨g4, 0, none⟩) s2.cs.length vd) (.int .i64 s2.cur) (.bool false) (.bool false) H6.out.box
    have H7 := Lib.hid (show Box w _ w.heap.size g4 vd { s2 with lk := false, ins := false } from ⟨SF.1, H6.out.own.away SF.2 (by intro e; injection e with e; exact H6.out.ne e), H6.out.ne, Nat.le_refl _, below_grown H6.out.kept SF.2 (Nat.le_refl _)⟩)
    have Z7 := Lib.hid (blk_g Z6.out SF.2 (by intro e; injection e with e; omega))
    clear hb H5 Y5 Z5 Z6 SF
    go_upto_region 6 with (fail)
    clear c0 c1 c2 c3 c4 c5 f0 f1 f2 f3 f4 f5 H6
    generalize (((((w6.setCell _ _).setCell _ _).setCell _ _).setCell _ _).setCell _ _).setCell _ _ = w7 at *
    obtain ⟨c0, c1, c2, c3, c4, c5⟩ := H7.out.cells
    obtain ⟨z0, z1, z2, z3, z4, z5⟩ := cells6 Z7.out
    obtain ⟨f0, f1, f2, f3, f4, f5⟩ := free6 Z7.out
    have SF := Lib.hid (H7.out.gave Z7.out (by have := HG4.out; omega) (by omega))
    simp only at c0 c1 c2 c3 c4 c5 SF
    go_wp2_with fail
    clear z0 z1 z2 z3 z4 z5 c0 c1 c2 c3 c4 c5 f0 f1 f2 f3 f4 f5
    generalize (((((w7.setCell _ _).setCell _ _).setCell _ _).setCell _ _).setCell _ _).setCell _ _ = w9 at *
    exact bodyPost_ret (v := .agg #[.int .i64 s2.rows, .int .i64 s2.cols, .slice (some ⟨g4, 0, none⟩) s2.cs.length vd, .int .i64 s2.cur, .bool false, .bool false]) (results_cell_row rfl _ _ (w.heap.size + 2) 24 _ (0, 0) _ rfl SF.out.1 Tryz.underlying24 rfl (by kernel_rfl)) rfl ⟨some ⟨g4, 0, none⟩, vd, by rw [HWR.out]; rfl, by rw [HWR.out]; exact SF.out.2.1, SF.out.2.2⟩
theorem write_any (s : S) (ad : Option Addr) (k : Nat) (cmd : Int) (fa fu fr : Bool) (al : Option Addr) (nl cl : Nat) (os : List Go.Proofs.YtaopkelobglnbaaGreatDoor.Ord.O) (w : World) (h : CelsIn w (.slice ad s.cs.length k) s.cs) (hr : sright s = true) (h8 : Sound s.cs) (hl : s.cs.length < 10000) (hO : Str.OrdsIn w 0 (.slice al nl cl) os) (ho8 : Str.Sound os) (hol : os.length < 10000) (hw : pwrong s.cs.length os = none) :
    Calls Tryz.prog 46 #[.agg #[.int .i64 s.rows, .int .i64 s.cols, .slice ad s.cs.length k, .int .i64 s.cur, .bool s.lk, .bool s.ins], .agg #[.int .i64 cmd, .bool fa, .bool fu, .bool fr, .slice al nl cl]] w fun e w' => GaveA w w' (hwrite s fr fu os) e := by
  cases fr
  · exact write_f s ad k cmd fa fu al nl cl os w h hr h8 hl hO ho8 hol hw
  · exact write_t s ad k cmd fa fu al nl cl os w h hr h8 hl hO ho8 hol hw
end Hst
end Go.Proofs.YtaopkelobglnbaaGreatDoor
