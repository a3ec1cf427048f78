/- turn of package keys. Written by tools/gen_kyb_code.py. -/
import Derived.Test.YtpgbnnnfeaodmaaGreatDoorSKybBox
import Derived.Test.YtpgbnnnfeaodmaaGreatDoorSBunGrd
import Derived.Deep.Cut
import Derived.IntWalk
namespace Go.Proofs.YtpgbnnnfeaodmaaGreatDoor
open Go.RowKit Sha Six Apd Cut Err Att Grd Fld Scr
set_option linter.unusedVariables false
namespace Kyb
open Edt
set_option maxRecDepth 100000 in
set_option maxHeartbeats 8000000 in
theorem turn_15 (s : S) (ad : Option Addr) (k c : Nat) (w : World) (h : CelsIn w (.slice ad s.cs.length k) s.cs) (hz : 0 < s.cs.length) (hl : s.cs.length < 10000) :
    Calls Tryz.prog 21 #[.agg #[.int .i64 s.rows, .int .i64 s.cols, .slice ad s.cs.length k, .int .i64 s.cur, .bool s.lk, .bool s.ins], .agg #[.int .i64 15, .int .u8 (c : Int)]] w fun e w' => GaveA w w' ⟨s.rows, s.cols, s.cs, s.cur, false, true⟩ e := by
  obtain ⟨r, cc, cs, cur, lk, ins⟩ := s
  simp only at *
  have HP := Lib.hid hz
  have HA3 := heap_alloc3 w (.cells #[.int .i64 r, .int .i64 cc, .slice ad cs.length k, .int .i64 cur, .bool lk, .bool ins] 24) (.cells #[.int .i64 15, .int .u8 (c : Int)] 26) (.cells #[.int .i64 0, .int .i64 0, .slice none 0 0, .int .i64 0, .bool false, .bool false] 24)
  have HB := Lib.hid (kept_trans (kept_trans (al_any w (.cells #[.int .i64 r, .int .i64 cc, .slice ad cs.length k, .int .i64 cur, .bool lk, .bool ins] 24)) (al_any _ (.cells #[.int .i64 15, .int .u8 (c : Int)] 26))) (al_any _ (.cells #[.int .i64 0, .int .i64 0, .slice none 0 0, .int .i64 0, .bool false, .bool false] 24)))
  have HX := Lib.hid HA3.1
  have HY := Lib.hid HA3.2.1
  have HZ := Lib.hid HA3.2.2
  have HI := Lib.hid (h.below HB.out)
  have HC := Lib.hid fun W hb => copy_any (⟨r, cc, cs, cur, lk, ins⟩ : S) ad k W (HI.out.below hb) (by simp only; omega)
  simp only [Copied] at HC
  clear h hl hz HA3
  go_enter Tryz.func21, Tryz.ntmps21
  go_upto_region 1 with (fail)
  generalize ((w.alloc _).alloc _).alloc _ = w1 at *
  have hzx := there_lt HZ.out
  obtain ⟨c0, c1, c2, c3, c4, c5⟩ := cells6 HX.out
  go_wp2_with fail
  with_reducible refine (HC.out _ (Below.refl _ _)).mono ?_
  rintro e w2 ⟨va, vc, rfl, ho, hb⟩
  clear c0 c1 c2 c3 c4 c5
  have X2 := Lib.hid (blk HX.out hb)
  have Y2 := Lib.hid (blk HY.out hb)
  have Z2 := Lib.hid (blk HZ.out hb)
  obtain ⟨g, e1, hg1, B3⟩ := Box.over (w0 := w) (t := (⟨r, cc, cs, cur, lk, ins⟩ : S)) X2.out ho HP.out (show w.heap.size < w1.heap.size by omega) (Nat.le_refl _) (kept_trans HB.out hb)
  subst e1
  have H3 := Lib.hid B3
  have SF := over6 w2 w.heap.size _ _ _ _ _ _ _ (.int .i64 r) (.int .i64 cc) (.slice (some ⟨g, 0, none⟩) cs.length vc) (.int .i64 cur) (.bool lk) (.bool ins) X2.out
  have Y3 := Lib.hid (blk_g Y2.out SF.2 (by intro e; injection e with e; omega))
  have Z3 := Lib.hid (blk_g Z2.out SF.2 (by intro e; injection e with e; omega))
  have HG := Lib.hid (show w.heap.size + 2 < g from by omega)
  simp only at H3
  clear hzx ho hb Z2 Y2 HX HY HZ HB HI HC SF B3
  obtain ⟨c0, c1, c2, c3, c4, c5⟩ := cells6 X2.out
  obtain ⟨f0, f1, f2, f3, f4, f5⟩ := free6 X2.out
  go_upto_region 2 with (fail)
  clear c0 c1 c2 c3 c4 c5 f0 f1 f2 f3 f4 f5 X2
  generalize (((((w2.setCell _ _).setCell _ _).setCell _ _).setCell _ _).setCell _ _).setCell _ _ = w3 at *
  have H4 := Lib.hid (H3.out.ins true)
  have SO := gsetCell w3 w.heap.size 5 (.bool true)
  have Y4 := Lib.hid (blk_g Y3.out SO (by intro e; injection e with e; omega))
  have Z4 := Lib.hid (blk_g Z3.out SO (by intro e; injection e with e; omega))
  simp only at H4
  clear SO
  obtain ⟨y0, y1⟩ := cells2 Y3.out
  obtain ⟨c0, c1, c2, c3, c4, c5⟩ := H3.out.cells
  obtain ⟨f0, f1, f2, f3, f4, f5⟩ := H3.out.free
  go_upto_region 3 with (fail)
  clear y0 y1 c0 c1 c2 c3 c4 c5 f0 f1 f2 f3 f4 f5 H3 Y3 Z3
  generalize w3.setCell _ _ = w4 at *
  have H5 := Lib.hid (H4.out.lk false)
  have SO := gsetCell w4 w.heap.size 4 (.bool false)
  have Y5 := Lib.hid (blk_g Y4.out SO (by intro e; injection e with e; omega))
  have Z5 := Lib.hid (blk_g Z4.out SO (by intro e; injection e with e; omega))
  simp only at H5
  clear SO
  obtain ⟨y0, y1⟩ := cells2 Y4.out
  obtain ⟨c0, c1, c2, c3, c4, c5⟩ := H4.out.cells
  obtain ⟨f0, f1, f2, f3, f4, f5⟩ := H4.out.free
  go_upto_region 4 with (fail)
  clear y0 y1 c0 c1 c2 c3 c4 c5 f0 f1 f2 f3 f4 f5 H4 Y4 Z4
  generalize w4.setCell _ _ = w5 at *
  obtain ⟨c0, c1, c2, c3, c4, c5⟩ := H5.out.cells
  obtain ⟨y0, y1⟩ := cells2 Y5.out
  obtain ⟨z0, z1, z2, z3, z4, z5⟩ := cells6 Z5.out
  obtain ⟨f0, f1, f2, f3, f4, f5⟩ := free6 Z5.out
  have SF := Lib.hid (H5.out.gave Z5.out (by have := HG.out; omega) (by omega))
  simp only at c0 c1 c2 c3 c4 c5 SF
  go_wp2_with fail
  clear z0 z1 z2 z3 z4 z5 c0 c1 c2 c3 c4 c5 f0 f1 f2 f3 f4 f5
  generalize (((((w5.setCell _ _).setCell _ _).setCell _ _).setCell _ _).setCell _ _).setCell _ _ = w9 at *
  exact bodyPost_ret (v := .agg #[.int .i64 r, .int .i64 cc, .slice (some ⟨g, 0, none⟩) cs.length vc, .int .i64 cur, .bool false, .bool true]) (results_cell_row rfl _ _ (w.heap.size + 2) 24 _ (0, 0) _ rfl (by simpa [six] using SF.out.1) Tryz.underlying24 rfl (by kernel_rfl)) rfl ⟨some ⟨g, 0, none⟩, vc, by rfl, by exact SF.out.2.1, SF.out.2.2⟩
set_option maxRecDepth 100000 in
set_option maxHeartbeats 8000000 in
theorem turn_16 (s : S) (ad : Option Addr) (k c : Nat) (w : World) (h : CelsIn w (.slice ad s.cs.length k) s.cs) (hz : 0 < s.cs.length) (hl : s.cs.length < 10000) :
    Calls Tryz.prog 21 #[.agg #[.int .i64 s.rows, .int .i64 s.cols, .slice ad s.cs.length k, .int .i64 s.cur, .bool s.lk, .bool s.ins], .agg #[.int .i64 16, .int .u8 (c : Int)]] w fun e w' => GaveA w w' ⟨s.rows, s.cols, s.cs, s.cur, false, false⟩ e := by
  obtain ⟨r, cc, cs, cur, lk, ins⟩ := s
  simp only at *
  have HP := Lib.hid hz
  have HA3 := heap_alloc3 w (.cells #[.int .i64 r, .int .i64 cc, .slice ad cs.length k, .int .i64 cur, .bool lk, .bool ins] 24) (.cells #[.int .i64 16, .int .u8 (c : Int)] 26) (.cells #[.int .i64 0, .int .i64 0, .slice none 0 0, .int .i64 0, .bool false, .bool false] 24)
  have HB := Lib.hid (kept_trans (kept_trans (al_any w (.cells #[.int .i64 r, .int .i64 cc, .slice ad cs.length k, .int .i64 cur, .bool lk, .bool ins] 24)) (al_any _ (.cells #[.int .i64 16, .int .u8 (c : Int)] 26))) (al_any _ (.cells #[.int .i64 0, .int .i64 0, .slice none 0 0, .int .i64 0, .bool false, .bool false] 24)))
  have HX := Lib.hid HA3.1
  have HY := Lib.hid HA3.2.1
  have HZ := Lib.hid HA3.2.2
  have HI := Lib.hid (h.below HB.out)
  have HC := Lib.hid fun W hb => copy_any (⟨r, cc, cs, cur, lk, ins⟩ : S) ad k W (HI.out.below hb) (by simp only; omega)
  simp only [Copied] at HC
  clear h hl hz HA3
  go_enter Tryz.func21, Tryz.ntmps21
  go_upto_region 1 with (fail)
  generalize ((w.alloc _).alloc _).alloc _ = w1 at *
  have hzx := there_lt HZ.out
  obtain ⟨c0, c1, c2, c3, c4, c5⟩ := cells6 HX.out
  go_wp2_with fail
  with_reducible refine (HC.out _ (Below.refl _ _)).mono ?_
  rintro e w2 ⟨va, vc, rfl, ho, hb⟩
  clear c0 c1 c2 c3 c4 c5
  have X2 := Lib.hid (blk HX.out hb)
  have Y2 := Lib.hid (blk HY.out hb)
  have Z2 := Lib.hid (blk HZ.out hb)
  obtain ⟨g, e1, hg1, B3⟩ := Box.over (w0 := w) (t := (⟨r, cc, cs, cur, lk, ins⟩ : S)) X2.out ho HP.out (show w.heap.size < w1.heap.size by omega) (Nat.le_refl _) (kept_trans HB.out hb)
  subst e1
  have H3 := Lib.hid B3
  have SF := over6 w2 w.heap.size _ _ _ _ _ _ _ (.int .i64 r) (.int .i64 cc) (.slice (some ⟨g, 0, none⟩) cs.length vc) (.int .i64 cur) (.bool lk) (.bool ins) X2.out
  have Y3 := Lib.hid (blk_g Y2.out SF.2 (by intro e; injection e with e; omega))
  have Z3 := Lib.hid (blk_g Z2.out SF.2 (by intro e; injection e with e; omega))
  have HG := Lib.hid (show w.heap.size + 2 < g from by omega)
  simp only at H3
  clear hzx ho hb Z2 Y2 HX HY HZ HB HI HC SF B3
  obtain ⟨c0, c1, c2, c3, c4, c5⟩ := cells6 X2.out
  obtain ⟨f0, f1, f2, f3, f4, f5⟩ := free6 X2.out
  go_upto_region 2 with (fail)
  clear c0 c1 c2 c3 c4 c5 f0 f1 f2 f3 f4 f5 X2
  generalize (((((w2.setCell _ _).setCell _ _).setCell _ _).setCell _ _).setCell _ _).setCell _ _ = w3 at *
  have H4 := Lib.hid (H3.out.ins false)
  have SO := gsetCell w3 w.heap.size 5 (.bool false)
  have Y4 := Lib.hid (blk_g Y3.out SO (by intro e; injection e with e; omega))
  have Z4 := Lib.hid (blk_g Z3.out SO (by intro e; injection e with e; omega))
  simp only at H4
  clear SO
  obtain ⟨y0, y1⟩ := cells2 Y3.out
  obtain ⟨c0, c1, c2, c3, c4, c5⟩ := H3.out.cells
  obtain ⟨f0, f1, f2, f3, f4, f5⟩ := H3.out.free
  go_upto_region 3 with (fail)
  clear y0 y1 c0 c1 c2 c3 c4 c5 f0 f1 f2 f3 f4 f5 H3 Y3 Z3
  generalize w3.setCell _ _ = w4 at *
  have H5 := Lib.hid (H4.out.lk false)
  have SO := gsetCell w4 w.heap.size 4 (.bool false)
  have Y5 := Lib.hid (blk_g Y4.out SO (by intro e; injection e with e; omega))
  have Z5 := Lib.hid (blk_g Z4.out SO (by intro e; injection e with e; omega))
  simp only at H5
  clear SO
  obtain ⟨y0, y1⟩ := cells2 Y4.out
  obtain ⟨c0, c1, c2, c3, c4, c5⟩ := H4.out.cells
  obtain ⟨f0, f1, f2, f3, f4, f5⟩ := H4.out.free
  go_upto_region 4 with (fail)
  clear y0 y1 c0 c1 c2 c3 c4 c5 f0 f1 f2 f3 f4 f5 H4 Y4 Z4
  generalize w4.setCell _ _ = w5 at *
  obtain ⟨c0, c1, c2, c3, c4, c5⟩ := H5.out.cells
  obtain ⟨y0, y1⟩ := cells2 Y5.out
  obtain ⟨z0, z1, z2, z3, z4, z5⟩ := cells6 Z5.out
  obtain ⟨f0, f1, f2, f3, f4, f5⟩ := free6 Z5.out
  have SF := Lib.hid (H5.out.gave Z5.out (by have := HG.out; omega) (by omega))
  simp only at c0 c1 c2 c3 c4 c5 SF
  go_wp2_with fail
  clear z0 z1 z2 z3 z4 z5 c0 c1 c2 c3 c4 c5 f0 f1 f2 f3 f4 f5
  generalize (((((w5.setCell _ _).setCell _ _).setCell _ _).setCell _ _).setCell _ _).setCell _ _ = w9 at *
  exact bodyPost_ret (v := .agg #[.int .i64 r, .int .i64 cc, .slice (some ⟨g, 0, none⟩) cs.length vc, .int .i64 cur, .bool false, .bool false]) (results_cell_row rfl _ _ (w.heap.size + 2) 24 _ (0, 0) _ rfl (by simpa [six] using SF.out.1) Tryz.underlying24 rfl (by kernel_rfl)) rfl ⟨some ⟨g, 0, none⟩, vc, by rfl, by exact SF.out.2.1, SF.out.2.2⟩
set_option maxRecDepth 100000 in
set_option maxHeartbeats 8000000 in
theorem turn_17n (s : S) (ad : Option Addr) (k c : Nat) (w : World) (h : CelsIn w (.slice ad s.cs.length k) s.cs) (hz : 0 < s.cs.length) (hl : s.cs.length < 10000) (hc : c ≠ 109) :
    Calls Tryz.prog 21 #[.agg #[.int .i64 s.rows, .int .i64 s.cols, .slice ad s.cs.length k, .int .i64 s.cur, .bool s.lk, .bool s.ins], .agg #[.int .i64 17, .int .u8 (c : Int)]] w fun e w' => GaveA w w' ⟨s.rows, s.cols, s.cs, s.cur, true, false⟩ e := by
  have e109 : ((c : Int) == 109) = false := by simp; omega
  clear hc
  obtain ⟨r, cc, cs, cur, lk, ins⟩ := s
  simp only at *
  have HP := Lib.hid hz
  have HA3 := heap_alloc3 w (.cells #[.int .i64 r, .int .i64 cc, .slice ad cs.length k, .int .i64 cur, .bool lk, .bool ins] 24) (.cells #[.int .i64 17, .int .u8 (c : Int)] 26) (.cells #[.int .i64 0, .int .i64 0, .slice none 0 0, .int .i64 0, .bool false, .bool false] 24)
  have HB := Lib.hid (kept_trans (kept_trans (al_any w (.cells #[.int .i64 r, .int .i64 cc, .slice ad cs.length k, .int .i64 cur, .bool lk, .bool ins] 24)) (al_any _ (.cells #[.int .i64 17, .int .u8 (c : Int)] 26))) (al_any _ (.cells #[.int .i64 0, .int .i64 0, .slice none 0 0, .int .i64 0, .bool false, .bool false] 24)))
  have HX := Lib.hid HA3.1
  have HY := Lib.hid HA3.2.1
  have HZ := Lib.hid HA3.2.2
  have HI := Lib.hid (h.below HB.out)
  have HC := Lib.hid fun W hb => copy_any (⟨r, cc, cs, cur, lk, ins⟩ : S) ad k W (HI.out.below hb) (by simp only; omega)
  simp only [Copied] at HC
  clear h hl hz HA3
  go_enter Tryz.func21, Tryz.ntmps21
  go_upto_region 1 with (fail)
  generalize ((w.alloc _).alloc _).alloc _ = w1 at *
  have hzx := there_lt HZ.out
  obtain ⟨c0, c1, c2, c3, c4, c5⟩ := cells6 HX.out
  go_wp2_with fail
  with_reducible refine (HC.out _ (Below.refl _ _)).mono ?_
  rintro e w2 ⟨va, vc, rfl, ho, hb⟩
  clear c0 c1 c2 c3 c4 c5
  have X2 := Lib.hid (blk HX.out hb)
  have Y2 := Lib.hid (blk HY.out hb)
  have Z2 := Lib.hid (blk HZ.out hb)
  obtain ⟨g, e1, hg1, B3⟩ := Box.over (w0 := w) (t := (⟨r, cc, cs, cur, lk, ins⟩ : S)) X2.out ho HP.out (show w.heap.size < w1.heap.size by omega) (Nat.le_refl _) (kept_trans HB.out hb)
  subst e1
  have H3 := Lib.hid B3
  have SF := over6 w2 w.heap.size _ _ _ _ _ _ _ (.int .i64 r) (.int .i64 cc) (.slice (some ⟨g, 0, none⟩) cs.length vc) (.int .i64 cur) (.bool lk) (.bool ins) X2.out
  have Y3 := Lib.hid (blk_g Y2.out SF.2 (by intro e; injection e with e; omega))
  have Z3 := Lib.hid (blk_g Z2.out SF.2 (by intro e; injection e with e; omega))
  have HG := Lib.hid (show w.heap.size + 2 < g from by omega)
  simp only at H3
  clear hzx ho hb Z2 Y2 HX HY HZ HB HI HC SF B3
  obtain ⟨c0, c1, c2, c3, c4, c5⟩ := cells6 X2.out
  obtain ⟨f0, f1, f2, f3, f4, f5⟩ := free6 X2.out
  go_upto_region 2 with (fail)
  clear c0 c1 c2 c3 c4 c5 f0 f1 f2 f3 f4 f5 X2
  generalize (((((w2.setCell _ _).setCell _ _).setCell _ _).setCell _ _).setCell _ _).setCell _ _ = w3 at *
  have H4 := Lib.hid (H3.out.ins false)
  have SO := gsetCell w3 w.heap.size 5 (.bool false)
  have Y4 := Lib.hid (blk_g Y3.out SO (by intro e; injection e with e; omega))
  have Z4 := Lib.hid (blk_g Z3.out SO (by intro e; injection e with e; omega))
  simp only at H4
  clear SO
  obtain ⟨y0, y1⟩ := cells2 Y3.out
  obtain ⟨c0, c1, c2, c3, c4, c5⟩ := H3.out.cells
  obtain ⟨f0, f1, f2, f3, f4, f5⟩ := H3.out.free
  go_upto_region 3 with (fail)
  clear y0 y1 c0 c1 c2 c3 c4 c5 f0 f1 f2 f3 f4 f5 H3 Y3 Z3
  generalize w3.setCell _ _ = w4 at *
  have H5 := Lib.hid (H4.out.lk true)
  have SO := gsetCell w4 w.heap.size 4 (.bool true)
  have Y5 := Lib.hid (blk_g Y4.out SO (by intro e; injection e with e; omega))
  have Z5 := Lib.hid (blk_g Z4.out SO (by intro e; injection e with e; omega))
  simp only at H5
  clear SO
  obtain ⟨y0, y1⟩ := cells2 Y4.out
  obtain ⟨c0, c1, c2, c3, c4, c5⟩ := H4.out.cells
  obtain ⟨f0, f1, f2, f3, f4, f5⟩ := H4.out.free
  go_upto_region 4 with (fail)
  clear y0 y1 c0 c1 c2 c3 c4 c5 f0 f1 f2 f3 f4 f5 H4 Y4 Z4
  generalize w4.setCell _ _ = w5 at *
  obtain ⟨c0, c1, c2, c3, c4, c5⟩ := H5.out.cells
  obtain ⟨y0, y1⟩ := cells2 Y5.out
  obtain ⟨z0, z1, z2, z3, z4, z5⟩ := cells6 Z5.out
  obtain ⟨f0, f1, f2, f3, f4, f5⟩ := free6 Z5.out
  have SF := Lib.hid (H5.out.gave Z5.out (by have := HG.out; omega) (by omega))
  simp only at c0 c1 c2 c3 c4 c5 SF
  go_wp2_with fail
  clear z0 z1 z2 z3 z4 z5 c0 c1 c2 c3 c4 c5 f0 f1 f2 f3 f4 f5
  generalize (((((w5.setCell _ _).setCell _ _).setCell _ _).setCell _ _).setCell _ _).setCell _ _ = w9 at *
  exact bodyPost_ret (v := .agg #[.int .i64 r, .int .i64 cc, .slice (some ⟨g, 0, none⟩) cs.length vc, .int .i64 cur, .bool true, .bool false]) (results_cell_row rfl _ _ (w.heap.size + 2) 24 _ (0, 0) _ rfl (by simpa [six] using SF.out.1) Tryz.underlying24 rfl (by kernel_rfl)) rfl ⟨some ⟨g, 0, none⟩, vc, by rfl, by exact SF.out.2.1, SF.out.2.2⟩
set_option maxRecDepth 100000 in
set_option maxHeartbeats 8000000 in
theorem turn_17c (s : S) (ad : Option Addr) (k c : Nat) (w : World) (h : CelsIn w (.slice ad s.cs.length k) s.cs) (hz : 0 < s.cs.length) (hl : s.cs.length < 10000) (hc : c = 109) :
    Calls Tryz.prog 21 #[.agg #[.int .i64 s.rows, .int .i64 s.cols, .slice ad s.cs.length k, .int .i64 s.cur, .bool s.lk, .bool s.ins], .agg #[.int .i64 17, .int .u8 (c : Int)]] w fun e w' => GaveA w w' ⟨s.rows, s.cols, List.replicate s.cs.length noC, 0, true, false⟩ e := by
  have e109 : ((c : Int) == 109) = true := by subst hc; rfl
  clear hc
  obtain ⟨r, cc, cs, cur, lk, ins⟩ := s
  simp only at *
  have HP := Lib.hid hz
  have HA3 := heap_alloc3 w (.cells #[.int .i64 r, .int .i64 cc, .slice ad cs.length k, .int .i64 cur, .bool lk, .bool ins] 24) (.cells #[.int .i64 17, .int .u8 (c : Int)] 26) (.cells #[.int .i64 0, .int .i64 0, .slice none 0 0, .int .i64 0, .bool false, .bool false] 24)
  have HB := Lib.hid (kept_trans (kept_trans (al_any w (.cells #[.int .i64 r, .int .i64 cc, .slice ad cs.length k, .int .i64 cur, .bool lk, .bool ins] 24)) (al_any _ (.cells #[.int .i64 17, .int .u8 (c : Int)] 26))) (al_any _ (.cells #[.int .i64 0, .int .i64 0, .slice none 0 0, .int .i64 0, .bool false, .bool false] 24)))
  have HX := Lib.hid HA3.1
  have HY := Lib.hid HA3.2.1
  have HZ := Lib.hid HA3.2.2
  have HI := Lib.hid (h.below HB.out)
  have HC := Lib.hid fun W hb => copy_any (⟨r, cc, cs, cur, lk, ins⟩ : S) ad k W (HI.out.below hb) (by simp only; omega)
  simp only [Copied] at HC
  clear h hl hz HA3
  go_enter Tryz.func21, Tryz.ntmps21
  go_upto_region 1 with (fail)
  generalize ((w.alloc _).alloc _).alloc _ = w1 at *
  have hzx := there_lt HZ.out
  obtain ⟨c0, c1, c2, c3, c4, c5⟩ := cells6 HX.out
  go_wp2_with fail
  with_reducible refine (HC.out _ (Below.refl _ _)).mono ?_
  rintro e w2 ⟨va, vc, rfl, ho, hb⟩
  clear c0 c1 c2 c3 c4 c5
  have X2 := Lib.hid (blk HX.out hb)
  have Y2 := Lib.hid (blk HY.out hb)
  have Z2 := Lib.hid (blk HZ.out hb)
  obtain ⟨g, e1, hg1, B3⟩ := Box.over (w0 := w) (t := (⟨r, cc, cs, cur, lk, ins⟩ : S)) X2.out ho HP.out (show w.heap.size < w1.heap.size by omega) (Nat.le_refl _) (kept_trans HB.out hb)
  subst e1
  have H3 := Lib.hid B3
  have SF := over6 w2 w.heap.size _ _ _ _ _ _ _ (.int .i64 r) (.int .i64 cc) (.slice (some ⟨g, 0, none⟩) cs.length vc) (.int .i64 cur) (.bool lk) (.bool ins) X2.out
  have Y3 := Lib.hid (blk_g Y2.out SF.2 (by intro e; injection e with e; omega))
  have Z3 := Lib.hid (blk_g Z2.out SF.2 (by intro e; injection e with e; omega))
  have HG := Lib.hid (show w.heap.size + 2 < g from by omega)
  simp only at H3
  clear hzx ho hb Z2 Y2 HX HY HZ HB HI HC SF B3
  obtain ⟨c0, c1, c2, c3, c4, c5⟩ := cells6 X2.out
  obtain ⟨f0, f1, f2, f3, f4, f5⟩ := free6 X2.out
  go_upto_region 2 with (fail)
  clear c0 c1 c2 c3 c4 c5 f0 f1 f2 f3 f4 f5 X2
  generalize (((((w2.setCell _ _).setCell _ _).setCell _ _).setCell _ _).setCell _ _).setCell _ _ = w3 at *
  have H4 := Lib.hid (H3.out.ins false)
  have SO := gsetCell w3 w.heap.size 5 (.bool false)
  have Y4 := Lib.hid (blk_g Y3.out SO (by intro e; injection e with e; omega))
  have Z4 := Lib.hid (blk_g Z3.out SO (by intro e; injection e with e; omega))
  simp only at H4
  clear SO
  obtain ⟨y0, y1⟩ := cells2 Y3.out
  obtain ⟨c0, c1, c2, c3, c4, c5⟩ := H3.out.cells
  obtain ⟨f0, f1, f2, f3, f4, f5⟩ := H3.out.free
  go_upto_region 3 with (fail)
  clear y0 y1 c0 c1 c2 c3 c4 c5 f0 f1 f2 f3 f4 f5 H3 Y3 Z3
  generalize w3.setCell _ _ = w4 at *
  have H5 := Lib.hid (H4.out.lk true)
  have SO := gsetCell w4 w.heap.size 4 (.bool true)
  have Y5 := Lib.hid (blk_g Y4.out SO (by intro e; injection e with e; omega))
  have Z5 := Lib.hid (blk_g Z4.out SO (by intro e; injection e with e; omega))
  simp only at H5
  clear SO
  obtain ⟨y0, y1⟩ := cells2 Y4.out
  obtain ⟨c0, c1, c2, c3, c4, c5⟩ := H4.out.cells
  obtain ⟨f0, f1, f2, f3, f4, f5⟩ := H4.out.free
  go_upto_region 4 with (fail)
  clear y0 y1 c0 c1 c2 c3 c4 c5 f0 f1 f2 f3 f4 f5 H4 Y4 Z4
  generalize w4.setCell _ _ = w5 at *
  obtain ⟨y0, y1⟩ := cells2 Y5.out
  obtain ⟨c0, c1, c2, c3, c4, c5⟩ := H5.out.cells
  go_upto_region 5 with (fail)
  clear y0 y1 c0 c1 c2 c3 c4 c5
  obtain ⟨c0, c1, c2, c3, c4, c5⟩ := H5.out.cells
  obtain ⟨hrun, hown, hgr⟩ := run_clear_cels 22 H5.out.own HP.out
  have hrun' : ∀ ty, (Builtin.clear_ #[22] ty #[.slice (some ⟨g, 0, none⟩) cs.length vc]).run Tryz.prog w5 = .ok (.tuple #[]) (w5.setCells g 0 (crow (List.replicate cs.length noC))) := fun ty => (run_clear_cels ty H5.out.own HP.out).1
  have B6 : Box w (w5.setCells g 0 (crow (List.replicate cs.length noC))) w.heap.size g vc ⟨r, cc, List.replicate cs.length noC, cur, true, false⟩ := by
    refine ⟨?_, by simpa using hown, H5.out.ne, H5.out.le, below_grown H5.out.kept hgr H5.out.ge⟩
    have := blk_g H5.out.box hgr (by intro e; injection e with e; exact H5.out.ne e.symm)
    simpa [six] using this
  have H6 := Lib.hid B6
  have Z6 := Lib.hid (blk_g Z5.out hgr (by intro e; injection e with e; have := HG.out; omega))
  clear hrun hown hgr B6
  go_upto_region 6 with (fail)
  clear hrun' c0 c1 c2 c3 c4 c5 H5 Z5
  generalize w5.setCells _ _ _ = w6 at *
  have H7 := Lib.hid (H6.out.cur 0)
  have SO := gsetCell w6 w.heap.size 3 (.int .i64 0)
  have Z7 := Lib.hid (blk_g Z6.out SO (by intro e; injection e with e; omega))
  simp only at H7
  clear SO
  obtain ⟨c0, c1, c2, c3, c4, c5⟩ := H6.out.cells
  obtain ⟨f0, f1, f2, f3, f4, f5⟩ := H6.out.free
  go_upto_region 7 with (fail)
  clear c0 c1 c2 c3 c4 c5 f0 f1 f2 f3 f4 f5 H6 Z6
  generalize w6.setCell _ _ = w7 at *
  obtain ⟨c0, c1, c2, c3, c4, c5⟩ := H7.out.cells
  obtain ⟨z0, z1, z2, z3, z4, z5⟩ := cells6 Z7.out
  obtain ⟨f0, f1, f2, f3, f4, f5⟩ := free6 Z7.out
  have SF := Lib.hid (H7.out.gave Z7.out (by have := HG.out; omega) (by omega))
  simp only [List.length_replicate] at c0 c1 c2 c3 c4 c5 SF
  go_wp2_with fail
  clear z0 z1 z2 z3 z4 z5 c0 c1 c2 c3 c4 c5 f0 f1 f2 f3 f4 f5
  generalize (((((w7.setCell _ _).setCell _ _).setCell _ _).setCell _ _).setCell _ _).setCell _ _ = w9 at *
  exact bodyPost_ret (v := .agg #[.int .i64 r, .int .i64 cc, .slice (some ⟨g, 0, none⟩) cs.length vc, .int .i64 0, .bool true, .bool false]) (results_cell_row rfl _ _ (w.heap.size + 2) 24 _ (0, 0) _ rfl (by simpa [six] using SF.out.1) Tryz.underlying24 rfl (by kernel_rfl)) rfl ⟨some ⟨g, 0, none⟩, vc, by simp, by simpa using SF.out.2.1, SF.out.2.2⟩
theorem turn_17 (s : S) (ad : Option Addr) (k c : Nat) (w : World) (h : CelsIn w (.slice ad s.cs.length k) s.cs) (hz : 0 < s.cs.length) (hl : s.cs.length < 10000) :
    Calls Tryz.prog 21 #[.agg #[.int .i64 s.rows, .int .i64 s.cols, .slice ad s.cs.length k, .int .i64 s.cur, .bool s.lk, .bool s.ins], .agg #[.int .i64 17, .int .u8 (c : Int)]] w fun e w' => GaveA w w' (asked s c) e := by
  by_cases hc : c = 109
  · have := turn_17c s ad k c w h hz hl hc
    unfold asked
    rw [if_pos hc, if_pos hc]
    exact this
  · have := turn_17n s ad k c w h hz hl hc
    unfold asked
    rw [if_neg hc, if_neg hc]
    exact this
end Kyb
end Go.Proofs.YtpgbnnnfeaodmaaGreatDoor
