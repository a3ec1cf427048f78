/- work of package keys. Written by tools/gen_kyb_code.py. -/
import Derived.Test.YtpgbnnnfeaodmaaGreatDoorSKybDup
import Derived.Test.YtpgbnnnfeaodmaaGreatDoorSBunMoc
import Derived.Test.YtpgbnnnfeaodmaaGreatDoorSBunWic
import Derived.Deep.Cut
import Derived.IntWalk
namespace Go.Proofs.YtpgbnnnfeaodmaaGreatDoor
open Go.RowKit Sha Six Apd Cut Err Att Grd Fld Scr
set_option linter.unusedVariables false
namespace Kyb
open Edt
theorem mdo_length (s : S) (kind : Int) : (Mov.mdo s kind).1.cs.length = s.cs.length := by rw [Mov.mdo_cs]
set_option maxRecDepth 100000 in
set_option maxHeartbeats 8000000 in
theorem work_mv (s : S) (ad : Option Addr) (k c : Nat) (kind : Int) (w : World) (h : CelsIn w (.slice ad s.cs.length k) s.cs) (hr : sright s = true) (h8 : Sound s.cs) (hl : s.cs.length < 10000) (hm : Mov.isMove kind = true) :
    Calls Tryz.prog 22 #[.agg #[.int .i64 s.rows, .int .i64 s.cols, .slice ad s.cs.length k, .int .i64 s.cur, .bool s.lk, .bool s.ins], .agg #[.int .i64 kind, .int .u8 (c : Int)]] w fun e w' => GaveE w w' (Mov.mdo s kind).1 ((Mov.mdo s kind).2 : Nat) (-1) e := by
  have HP := Lib.hid (show 0 < s.cs.length by obtain ⟨_, _, h3, h4, _⟩ := sright_parts hr; omega)
  have HA3 := heap_alloc3 w (.cells #[.int .i64 s.rows, .int .i64 s.cols, .slice ad s.cs.length k, .int .i64 s.cur, .bool s.lk, .bool s.ins] 24) (.cells #[.int .i64 kind, .int .u8 (c : Int)] 26) (.cells #[.int .i64 0, .int .i64 0, .slice none 0 0, .int .i64 0, .bool false, .bool false] 24)
  have HB := Lib.hid (kept_trans (kept_trans (al_any w (.cells #[.int .i64 s.rows, .int .i64 s.cols, .slice ad s.cs.length k, .int .i64 s.cur, .bool s.lk, .bool s.ins] 24)) (al_any _ (.cells #[.int .i64 kind, .int .u8 (c : Int)] 26))) (al_any _ (.cells #[.int .i64 0, .int .i64 0, .slice none 0 0, .int .i64 0, .bool false, .bool false] 24)))
  have HX := Lib.hid HA3.1
  have HY := Lib.hid HA3.2.1
  have HZ := Lib.hid HA3.2.2
  have HH := Lib.hid h
  have HMV := Lib.hid fun W => Mov.moves_any kind W
  rw [show Mov.isMove kind = true from hm] at HMV
  have HTP := Lib.hid (show 0 < ((Mov.mdo s kind).1).cs.length by rw [mdo_length]; exact HP.out)
  have Q := Lib.hid fun W (hb : Below w.heap.size w W) => (Mov.do_any s ad k kind W (HH.out.below hb) hr h8 hl).mono fun e w' => gave_N
  simp only [GaveE] at Q
  generalize (Mov.mdo s kind).2 = code at *
  generalize (Mov.mdo s kind).1 = t at *
  clear h hr h8 hl HA3
  go_enter Tryz.func22, Tryz.ntmps22
  go_upto_region 1 with (fail)
  generalize ((w.alloc _).alloc _).alloc _ = w1 at *
  have hzx := Lib.hid (there_lt HZ.out)
  obtain ⟨c0, c1, c2, c3, c4, c5⟩ := cells6 HX.out
  obtain ⟨y0, y1⟩ := cells2 HY.out
  go_wp2_with fail
  with_reducible refine (HMV.out _).mono ?_
  rintro e w2 ⟨rfl, rfl⟩
  go_wp2_with fail
  with_reducible refine (Q.out _ HB.out).mono ?_
  rintro e w2 ⟨va, vc, ev, rfl, hc, ht, hn, hb⟩
  clear c0 c1 c2 c3 c4 c5 y0 y1 Q
  have Z3 := Lib.hid (blk HZ.out hb)
  have SG := Lib.hid (lay_G (w := w) (t := t) Z3.out hc ht hn (kept_trans HB.out hb) (show w.heap.size ≤ w.heap.size + 2 by omega) HTP.out hzx.out HB.out.size)
  obtain ⟨f0, f1, f2, f3, f4, f5⟩ := free6 Z3.out
  obtain ⟨z0, z1, z2, z3, z4, z5⟩ := cells6 Z3.out
  clear hc ht hn hb
  go_wp2_with fail
  clear z0 z1 z2 z3 z4 z5 f0 f1 f2 f3 f4 f5
  generalize (((((w2.setCell _ _).setCell _ _).setCell _ _).setCell _ _).setCell _ _).setCell _ _ = w9 at *
  exact bodyPost_ret (v := .tuple #[.agg (six va vc t), ev]) (results_cell_row_tmp rfl _ _ _ (w.heap.size + 2) _ rfl (run_loadVar_row w9 (w.heap.size + 2) 24 24 _ (0, 0) _ SG.out.1 Tryz.underlying24 rfl (by kernel_rfl)) _ rfl) rfl ⟨va, vc, ev, rfl, SG.out.2.1, SG.out.2.2.1, SG.out.2.2.2.1, SG.out.2.2.2.2⟩
set_option maxRecDepth 100000 in
set_option maxHeartbeats 8000000 in
theorem work_wp (s : S) (ad : Option Addr) (k c : Nat) (kind : Int) (w : World) (h : CelsIn w (.slice ad s.cs.length k) s.cs) (hr : sright s = true) (h8 : Sound s.cs) (hl : s.cs.length < 10000) (hm : Wip.isWipe kind = true) :
    Calls Tryz.prog 22 #[.agg #[.int .i64 s.rows, .int .i64 s.cols, .slice ad s.cs.length k, .int .i64 s.cur, .bool s.lk, .bool s.ins], .agg #[.int .i64 kind, .int .u8 (c : Int)]] w fun e w' => GaveE w w' (Wip.wdo s kind).1 ((Wip.wdo s kind).2.1 : Nat) (Wip.wdo s kind).2.2 e := by
  have HP := Lib.hid (show 0 < s.cs.length by obtain ⟨_, _, h3, h4, _⟩ := sright_parts hr; omega)
  have HA3 := heap_alloc3 w (.cells #[.int .i64 s.rows, .int .i64 s.cols, .slice ad s.cs.length k, .int .i64 s.cur, .bool s.lk, .bool s.ins] 24) (.cells #[.int .i64 kind, .int .u8 (c : Int)] 26) (.cells #[.int .i64 0, .int .i64 0, .slice none 0 0, .int .i64 0, .bool false, .bool false] 24)
  have HB := Lib.hid (kept_trans (kept_trans (al_any w (.cells #[.int .i64 s.rows, .int .i64 s.cols, .slice ad s.cs.length k, .int .i64 s.cur, .bool s.lk, .bool s.ins] 24)) (al_any _ (.cells #[.int .i64 kind, .int .u8 (c : Int)] 26))) (al_any _ (.cells #[.int .i64 0, .int .i64 0, .slice none 0 0, .int .i64 0, .bool false, .bool false] 24)))
  have HX := Lib.hid HA3.1
  have HY := Lib.hid HA3.2.1
  have HZ := Lib.hid HA3.2.2
  have HH := Lib.hid h
  have HMV := Lib.hid fun W => Mov.moves_any kind W
  rw [show Mov.isMove kind = false from no_move (by have := wipe_not hm; omega)] at HMV
  have HWI := Lib.hid fun W => Wip.wipes_any kind W
  rw [show Wip.isWipe kind = true from hm] at HWI
  have HTP := Lib.hid (show 0 < ((Wip.wdo s kind).1).cs.length by rw [(Wip.wdo_length s kind).1]; exact HP.out)
  have Q := Lib.hid fun W (hb : Below w.heap.size w W) => Wip.do_any s ad k kind W (HH.out.below hb) hr h8 hl
  simp only [GaveE] at Q
  generalize (Wip.wdo s kind).2.2 = wh at *
  generalize (Wip.wdo s kind).2.1 = code at *
  generalize (Wip.wdo s kind).1 = t at *
  clear h hr h8 hl HA3
  go_enter Tryz.func22, Tryz.ntmps22
  go_upto_region 1 with (fail)
  generalize ((w.alloc _).alloc _).alloc _ = w1 at *
  have hzx := Lib.hid (there_lt HZ.out)
  obtain ⟨c0, c1, c2, c3, c4, c5⟩ := cells6 HX.out
  obtain ⟨y0, y1⟩ := cells2 HY.out
  go_wp2_with fail
  with_reducible refine (HMV.out _).mono ?_
  rintro e w2 ⟨rfl, rfl⟩
  go_wp2_with fail
  with_reducible refine (HWI.out _).mono ?_
  rintro e w2 ⟨rfl, rfl⟩
  go_wp2_with fail
  with_reducible refine (Q.out _ HB.out).mono ?_
  rintro e w2 ⟨va, vc, ev, rfl, hc, ht, hn, hb⟩
  clear c0 c1 c2 c3 c4 c5 y0 y1 Q
  have Z3 := Lib.hid (blk HZ.out hb)
  have SG := Lib.hid (lay_G (w := w) (t := t) Z3.out hc ht hn (kept_trans HB.out hb) (show w.heap.size ≤ w.heap.size + 2 by omega) HTP.out hzx.out HB.out.size)
  obtain ⟨f0, f1, f2, f3, f4, f5⟩ := free6 Z3.out
  obtain ⟨z0, z1, z2, z3, z4, z5⟩ := cells6 Z3.out
  clear hc ht hn hb
  go_wp2_with fail
  clear z0 z1 z2 z3 z4 z5 f0 f1 f2 f3 f4 f5
  generalize (((((w2.setCell _ _).setCell _ _).setCell _ _).setCell _ _).setCell _ _).setCell _ _ = w9 at *
  exact bodyPost_ret (v := .tuple #[.agg (six va vc t), ev]) (results_cell_row_tmp rfl _ _ _ (w.heap.size + 2) _ rfl (run_loadVar_row w9 (w.heap.size + 2) 24 24 _ (0, 0) _ SG.out.1 Tryz.underlying24 rfl (by kernel_rfl)) _ rfl) rfl ⟨va, vc, ev, rfl, SG.out.2.1, SG.out.2.2.1, SG.out.2.2.2.1, SG.out.2.2.2.2⟩
set_option maxRecDepth 100000 in
set_option maxHeartbeats 8000000 in
theorem work_1 (s : S) (ad : Option Addr) (k c : Nat) (w : World) (h : CelsIn w (.slice ad s.cs.length k) s.cs) (hr : sright s = true) (h8 : Sound s.cs) (hl : s.cs.length < 10000) (hc8 : c < 256) :
    Calls Tryz.prog 22 #[.agg #[.int .i64 s.rows, .int .i64 s.cols, .slice ad s.cs.length k, .int .i64 s.cur, .bool s.lk, .bool s.ins], .agg #[.int .i64 1, .int .u8 (c : Int)]] w fun e w' => GaveE w w' (typ s c).1 ((typ s c).2.1 : Nat) (typ s c).2.2 e := by
  have HP := Lib.hid (show 0 < s.cs.length by obtain ⟨_, _, h3, h4, _⟩ := sright_parts hr; omega)
  have HA3 := heap_alloc3 w (.cells #[.int .i64 s.rows, .int .i64 s.cols, .slice ad s.cs.length k, .int .i64 s.cur, .bool s.lk, .bool s.ins] 24) (.cells #[.int .i64 1, .int .u8 (c : Int)] 26) (.cells #[.int .i64 0, .int .i64 0, .slice none 0 0, .int .i64 0, .bool false, .bool false] 24)
  have HB := Lib.hid (kept_trans (kept_trans (al_any w (.cells #[.int .i64 s.rows, .int .i64 s.cols, .slice ad s.cs.length k, .int .i64 s.cur, .bool s.lk, .bool s.ins] 24)) (al_any _ (.cells #[.int .i64 1, .int .u8 (c : Int)] 26))) (al_any _ (.cells #[.int .i64 0, .int .i64 0, .slice none 0 0, .int .i64 0, .bool false, .bool false] 24)))
  have HX := Lib.hid HA3.1
  have HY := Lib.hid HA3.2.1
  have HZ := Lib.hid HA3.2.2
  have HH := Lib.hid h
  have HMV := Lib.hid fun W => Mov.moves_any 1 W
  rw [show Mov.isMove 1 = false from rfl] at HMV
  have HWI := Lib.hid fun W => Wip.wipes_any 1 W
  rw [show Wip.isWipe 1 = false from rfl] at HWI
  have HTP := Lib.hid (show 0 < ((typ s c).1).cs.length by rw [(typ_length c).1]; exact HP.out)
  have Q := Lib.hid fun W (hb : Below w.heap.size w W) => type_any s ad k c W (HH.out.below hb) hr h8 hl hc8
  simp only [GaveE] at Q
  generalize (typ s c).2.2 = wh at *
  generalize (typ s c).2.1 = code at *
  generalize (typ s c).1 = t at *
  clear h hr h8 hl HA3
  go_enter Tryz.func22, Tryz.ntmps22
  go_upto_region 1 with (fail)
  generalize ((w.alloc _).alloc _).alloc _ = w1 at *
  have hzx := Lib.hid (there_lt HZ.out)
  obtain ⟨c0, c1, c2, c3, c4, c5⟩ := cells6 HX.out
  obtain ⟨y0, y1⟩ := cells2 HY.out
  go_wp2_with fail
  with_reducible refine (HMV.out _).mono ?_
  rintro e w2 ⟨rfl, rfl⟩
  go_wp2_with fail
  with_reducible refine (HWI.out _).mono ?_
  rintro e w2 ⟨rfl, rfl⟩
  go_wp2_with fail
  with_reducible refine (Q.out _ HB.out).mono ?_
  rintro e w2 ⟨va, vc, ev, rfl, hc, ht, hn, hb⟩
  clear c0 c1 c2 c3 c4 c5 y0 y1 Q
  have Z3 := Lib.hid (blk HZ.out hb)
  have SG := Lib.hid (lay_G (w := w) (t := t) Z3.out hc ht hn (kept_trans HB.out hb) (show w.heap.size ≤ w.heap.size + 2 by omega) HTP.out hzx.out HB.out.size)
  obtain ⟨f0, f1, f2, f3, f4, f5⟩ := free6 Z3.out
  obtain ⟨z0, z1, z2, z3, z4, z5⟩ := cells6 Z3.out
  clear hc ht hn hb
  go_wp2_with fail
  clear z0 z1 z2 z3 z4 z5 f0 f1 f2 f3 f4 f5
  generalize (((((w2.setCell _ _).setCell _ _).setCell _ _).setCell _ _).setCell _ _).setCell _ _ = w9 at *
  exact bodyPost_ret (v := .tuple #[.agg (six va vc t), ev]) (results_cell_row_tmp rfl _ _ _ (w.heap.size + 2) _ rfl (run_loadVar_row w9 (w.heap.size + 2) 24 24 _ (0, 0) _ SG.out.1 Tryz.underlying24 rfl (by kernel_rfl)) _ rfl) rfl ⟨va, vc, ev, rfl, SG.out.2.1, SG.out.2.2.1, SG.out.2.2.2.1, SG.out.2.2.2.2⟩
set_option maxRecDepth 100000 in
set_option maxHeartbeats 8000000 in
theorem work_11 (s : S) (ad : Option Addr) (k c : Nat) (w : World) (h : CelsIn w (.slice ad s.cs.length k) s.cs) (hr : sright s = true) (h8 : Sound s.cs) (hl : s.cs.length < 10000) :
    Calls Tryz.prog 22 #[.agg #[.int .i64 s.rows, .int .i64 s.cols, .slice ad s.cs.length k, .int .i64 s.cur, .bool s.lk, .bool s.ins], .agg #[.int .i64 11, .int .u8 (c : Int)]] w fun e w' => GaveE w w' (typ s 30).1 ((typ s 30).2.1 : Nat) (typ s 30).2.2 e := by
  have HP := Lib.hid (show 0 < s.cs.length by obtain ⟨_, _, h3, h4, _⟩ := sright_parts hr; omega)
  have HA3 := heap_alloc3 w (.cells #[.int .i64 s.rows, .int .i64 s.cols, .slice ad s.cs.length k, .int .i64 s.cur, .bool s.lk, .bool s.ins] 24) (.cells #[.int .i64 11, .int .u8 (c : Int)] 26) (.cells #[.int .i64 0, .int .i64 0, .slice none 0 0, .int .i64 0, .bool false, .bool false] 24)
  have HB := Lib.hid (kept_trans (kept_trans (al_any w (.cells #[.int .i64 s.rows, .int .i64 s.cols, .slice ad s.cs.length k, .int .i64 s.cur, .bool s.lk, .bool s.ins] 24)) (al_any _ (.cells #[.int .i64 11, .int .u8 (c : Int)] 26))) (al_any _ (.cells #[.int .i64 0, .int .i64 0, .slice none 0 0, .int .i64 0, .bool false, .bool false] 24)))
  have HX := Lib.hid HA3.1
  have HY := Lib.hid HA3.2.1
  have HZ := Lib.hid HA3.2.2
  have HH := Lib.hid h
  have HMV := Lib.hid fun W => Mov.moves_any 11 W
  rw [show Mov.isMove 11 = false from rfl] at HMV
  have HWI := Lib.hid fun W => Wip.wipes_any 11 W
  rw [show Wip.isWipe 11 = false from rfl] at HWI
  have HTP := Lib.hid (show 0 < ((typ s 30).1).cs.length by rw [(typ_length 30).1]; exact HP.out)
  have Q := Lib.hid fun W (hb : Below w.heap.size w W) => type_any s ad k 30 W (HH.out.below hb) hr h8 hl (by decide)
  simp only [GaveE, show ((30 : Nat) : Int) = 30 from rfl] at Q
  generalize (typ s 30).2.2 = wh at *
  generalize (typ s 30).2.1 = code at *
  generalize (typ s 30).1 = t at *
  clear h hr h8 hl HA3
  go_enter Tryz.func22, Tryz.ntmps22
  go_upto_region 1 with (fail)
  generalize ((w.alloc _).alloc _).alloc _ = w1 at *
  have hzx := Lib.hid (there_lt HZ.out)
  obtain ⟨c0, c1, c2, c3, c4, c5⟩ := cells6 HX.out
  obtain ⟨y0, y1⟩ := cells2 HY.out
  go_wp2_with fail
  with_reducible refine (HMV.out _).mono ?_
  rintro e w2 ⟨rfl, rfl⟩
  go_wp2_with fail
  with_reducible refine (HWI.out _).mono ?_
  rintro e w2 ⟨rfl, rfl⟩
  obtain ⟨g0, g1⟩ := free2 HY.out
  have SO := gsetCell w1 (w.heap.size + 1) 1 (.int .u8 30)
  have hb1 := below_grown HB.out SO (by omega)
  have X2 := Lib.hid (blk_g HX.out SO (by intro e; injection e with e; omega))
  have Z2 := Lib.hid (blk_g HZ.out SO (by intro e; injection e with e; omega))
  have Y2 := Lib.hid (heap_setCell_same w1 (w.heap.size + 1) 1 _ 26 (.int .u8 30) HY.out)
  have hzs := Lib.hid (there_lt Z2.out)
  replace HB := Lib.hid hb1
  clear SO hb1
  go_upto_region 11 with (fail)
  clear c0 c1 c2 c3 c4 c5 y0 y1 g0 g1 HX HZ HY hzx
  generalize w1.setCell _ _ = w1' at *
  obtain ⟨c0, c1, c2, c3, c4, c5⟩ := cells6 X2.out
  obtain ⟨y0, y1⟩ := cells2 Y2.out
  go_wp2_with fail
  with_reducible refine (Q.out _ HB.out).mono ?_
  rintro e w2 ⟨va, vc, ev, rfl, hc, ht, hn, hb⟩
  clear c0 c1 c2 c3 c4 c5 y0 y1 Q
  have Z3 := Lib.hid (blk Z2.out hb)
  have SG := Lib.hid (lay_G (w := w) (t := t) Z3.out hc ht hn (kept_trans HB.out hb) (show w.heap.size ≤ w.heap.size + 2 by omega) HTP.out hzs.out HB.out.size)
  obtain ⟨f0, f1, f2, f3, f4, f5⟩ := free6 Z3.out
  obtain ⟨z0, z1, z2, z3, z4, z5⟩ := cells6 Z3.out
  clear hc ht hn hb
  go_wp2_with fail
  clear z0 z1 z2 z3 z4 z5 f0 f1 f2 f3 f4 f5
  generalize (((((w2.setCell _ _).setCell _ _).setCell _ _).setCell _ _).setCell _ _).setCell _ _ = w9 at *
  exact bodyPost_ret (v := .tuple #[.agg (six va vc t), ev]) (results_cell_row_tmp rfl _ _ _ (w.heap.size + 2) _ rfl (run_loadVar_row w9 (w.heap.size + 2) 24 24 _ (0, 0) _ SG.out.1 Tryz.underlying24 rfl (by kernel_rfl)) _ rfl) rfl ⟨va, vc, ev, rfl, SG.out.2.1, SG.out.2.2.1, SG.out.2.2.2.1, SG.out.2.2.2.2⟩
theorem dup_length (s : S) : (if (typ s 28).2.1 = 0 then onto s (typ s 28).1 else (typ s 28).1).cs.length = s.cs.length := by
  split
  · exact (typ_length 28).1
  · exact (typ_length 28).1
set_option maxRecDepth 100000 in
set_option maxHeartbeats 8000000 in
theorem work_10 (s : S) (ad : Option Addr) (k c : Nat) (w : World) (h : CelsIn w (.slice ad s.cs.length k) s.cs) (hr : sright s = true) (h8 : Sound s.cs) (hl : s.cs.length < 10000) :
    Calls Tryz.prog 22 #[.agg #[.int .i64 s.rows, .int .i64 s.cols, .slice ad s.cs.length k, .int .i64 s.cur, .bool s.lk, .bool s.ins], .agg #[.int .i64 10, .int .u8 (c : Int)]] w fun e w' => GaveE w w' (if (typ s 28).2.1 = 0 then onto s (typ s 28).1 else (typ s 28).1) ((typ s 28).2.1 : Nat) (typ s 28).2.2 e := by
  have HP := Lib.hid (show 0 < s.cs.length by obtain ⟨_, _, h3, h4, _⟩ := sright_parts hr; omega)
  have HA3 := heap_alloc3 w (.cells #[.int .i64 s.rows, .int .i64 s.cols, .slice ad s.cs.length k, .int .i64 s.cur, .bool s.lk, .bool s.ins] 24) (.cells #[.int .i64 10, .int .u8 (c : Int)] 26) (.cells #[.int .i64 0, .int .i64 0, .slice none 0 0, .int .i64 0, .bool false, .bool false] 24)
  have HB := Lib.hid (kept_trans (kept_trans (al_any w (.cells #[.int .i64 s.rows, .int .i64 s.cols, .slice ad s.cs.length k, .int .i64 s.cur, .bool s.lk, .bool s.ins] 24)) (al_any _ (.cells #[.int .i64 10, .int .u8 (c : Int)] 26))) (al_any _ (.cells #[.int .i64 0, .int .i64 0, .slice none 0 0, .int .i64 0, .bool false, .bool false] 24)))
  have HX := Lib.hid HA3.1
  have HY := Lib.hid HA3.2.1
  have HZ := Lib.hid HA3.2.2
  have HH := Lib.hid h
  have HMV := Lib.hid fun W => Mov.moves_any 10 W
  rw [show Mov.isMove 10 = false from rfl] at HMV
  have HWI := Lib.hid fun W => Wip.wipes_any 10 W
  rw [show Wip.isWipe 10 = false from rfl] at HWI
  have HTP := Lib.hid (show 0 < ((if (typ s 28).2.1 = 0 then onto s (typ s 28).1 else (typ s 28).1)).cs.length by rw [dup_length]; exact HP.out)
  have Q := Lib.hid fun W (hb : Below w.heap.size w W) => dup_any s ad k W (HH.out.below hb) hr h8 hl
  simp only [GaveE] at Q
  generalize (if (typ s 28).2.1 = 0 then onto s (typ s 28).1 else (typ s 28).1) = t at *
  generalize (typ s 28).2.2 = wh at *
  generalize (typ s 28).2.1 = code at *
  clear h hr h8 hl HA3
  go_enter Tryz.func22, Tryz.ntmps22
  go_upto_region 1 with (fail)
  generalize ((w.alloc _).alloc _).alloc _ = w1 at *
  have hzx := Lib.hid (there_lt HZ.out)
  obtain ⟨c0, c1, c2, c3, c4, c5⟩ := cells6 HX.out
  obtain ⟨y0, y1⟩ := cells2 HY.out
  go_wp2_with fail
  with_reducible refine (HMV.out _).mono ?_
  rintro e w2 ⟨rfl, rfl⟩
  go_wp2_with fail
  with_reducible refine (HWI.out _).mono ?_
  rintro e w2 ⟨rfl, rfl⟩
  go_wp2_with fail
  with_reducible refine (Q.out _ HB.out).mono ?_
  rintro e w2 ⟨va, vc, ev, rfl, hc, ht, hn, hb⟩
  clear c0 c1 c2 c3 c4 c5 y0 y1 Q
  have Z3 := Lib.hid (blk HZ.out hb)
  have SG := Lib.hid (lay_G (w := w) (t := t) Z3.out hc ht hn (kept_trans HB.out hb) (show w.heap.size ≤ w.heap.size + 2 by omega) HTP.out hzx.out HB.out.size)
  obtain ⟨f0, f1, f2, f3, f4, f5⟩ := free6 Z3.out
  obtain ⟨z0, z1, z2, z3, z4, z5⟩ := cells6 Z3.out
  clear hc ht hn hb
  go_wp2_with fail
  clear z0 z1 z2 z3 z4 z5 f0 f1 f2 f3 f4 f5
  generalize (((((w2.setCell _ _).setCell _ _).setCell _ _).setCell _ _).setCell _ _).setCell _ _ = w9 at *
  exact bodyPost_ret (v := .tuple #[.agg (six va vc t), ev]) (results_cell_row_tmp rfl _ _ _ (w.heap.size + 2) _ rfl (run_loadVar_row w9 (w.heap.size + 2) 24 24 _ (0, 0) _ SG.out.1 Tryz.underlying24 rfl (by kernel_rfl)) _ rfl) rfl ⟨va, vc, ev, rfl, SG.out.2.1, SG.out.2.2.1, SG.out.2.2.2.1, SG.out.2.2.2.2⟩
set_option maxRecDepth 100000 in
set_option maxHeartbeats 8000000 in
theorem work_no (s : S) (ad : Option Addr) (k c : Nat) (kind : Int) (w : World) (h : CelsIn w (.slice ad s.cs.length k) s.cs) (hr : sright s = true) (h8 : Sound s.cs) (hl : s.cs.length < 10000) (hm : kind < 1 ∨ 17 < kind) :
    Calls Tryz.prog 22 #[.agg #[.int .i64 s.rows, .int .i64 s.cols, .slice ad s.cs.length k, .int .i64 s.cur, .bool s.lk, .bool s.ins], .agg #[.int .i64 kind, .int .u8 (c : Int)]] w fun e w' => GaveE w w' s 1 (-1) e := by
  have HP := Lib.hid (show 0 < s.cs.length by obtain ⟨_, _, h3, h4, _⟩ := sright_parts hr; omega)
  have HA3 := heap_alloc3 w (.cells #[.int .i64 s.rows, .int .i64 s.cols, .slice ad s.cs.length k, .int .i64 s.cur, .bool s.lk, .bool s.ins] 24) (.cells #[.int .i64 kind, .int .u8 (c : Int)] 26) (.cells #[.int .i64 0, .int .i64 0, .slice none 0 0, .int .i64 0, .bool false, .bool false] 24)
  have HB := Lib.hid (kept_trans (kept_trans (al_any w (.cells #[.int .i64 s.rows, .int .i64 s.cols, .slice ad s.cs.length k, .int .i64 s.cur, .bool s.lk, .bool s.ins] 24)) (al_any _ (.cells #[.int .i64 kind, .int .u8 (c : Int)] 26))) (al_any _ (.cells #[.int .i64 0, .int .i64 0, .slice none 0 0, .int .i64 0, .bool false, .bool false] 24)))
  have HX := Lib.hid HA3.1
  have HY := Lib.hid HA3.2.1
  have HZ := Lib.hid HA3.2.2
  have HH := Lib.hid h
  have HMV := Lib.hid fun W => Mov.moves_any kind W
  rw [show Mov.isMove kind = false from no_move (by omega)] at HMV
  have HWI := Lib.hid fun W => Wip.wipes_any kind W
  rw [show Wip.isWipe kind = false from no_wipe (by omega)] at HWI
  have e1 : (kind == 1) = false := by simp; omega
  have e10 : (kind == 10) = false := by simp; omega
  have e11 : (kind == 11) = false := by simp; omega
  clear h hr h8 hl HA3
  go_enter Tryz.func22, Tryz.ntmps22
  go_upto_region 1 with (fail)
  generalize ((w.alloc _).alloc _).alloc _ = w1 at *
  have hzx := Lib.hid (there_lt HZ.out)
  obtain ⟨c0, c1, c2, c3, c4, c5⟩ := cells6 HX.out
  obtain ⟨y0, y1⟩ := cells2 HY.out
  go_wp2_with fail
  with_reducible refine (HMV.out _).mono ?_
  rintro e w2 ⟨rfl, rfl⟩
  go_wp2_with fail
  with_reducible refine (HWI.out _).mono ?_
  rintro e w2 ⟨rfl, rfl⟩
  have SG := Lib.hid (lay_E (t := s) HZ.out (HH.out.below HB.out) (show Err.Told w1 (.iface 48 (.int .i64 1)) 1 (-1) from .inr (.inl ⟨rfl, rfl⟩)) HB.out (show w.heap.size ≤ w.heap.size + 2 by omega) HP.out)
  obtain ⟨f0, f1, f2, f3, f4, f5⟩ := free6 HZ.out
  obtain ⟨z0, z1, z2, z3, z4, z5⟩ := cells6 HZ.out
  go_wp2_with fail
  clear z0 z1 z2 z3 z4 z5 f0 f1 f2 f3 f4 f5 c0 c1 c2 c3 c4 c5 y0 y1
  generalize (((((w1.setCell _ _).setCell _ _).setCell _ _).setCell _ _).setCell _ _).setCell _ _ = w9 at *
  exact bodyPost_ret (v := .tuple #[.agg (six ad k s), .iface 48 (.int .i64 1)]) (results_cell_row_tmp rfl _ _ _ (w.heap.size + 2) _ rfl (run_loadVar_row w9 (w.heap.size + 2) 24 24 _ (0, 0) _ SG.out.1 Tryz.underlying24 rfl (by kernel_rfl)) _ rfl) rfl ⟨ad, k, _, rfl, SG.out.2.1, SG.out.2.2.1, fun h0 => absurd h0 (by decide), SG.out.2.2.2⟩
theorem work_any (s : S) (ad : Option Addr) (k c : Nat) (kind : Int) (w : World) (h : CelsIn w (.slice ad s.cs.length k) s.cs) (hr : sright s = true) (h8 : Sound s.cs) (hl : s.cs.length < 10000) (hc : c < 256) (h5 : kind ≠ 15) (h6 : kind ≠ 16) (h7 : kind ≠ 17) :
    Calls Tryz.prog 22 #[.agg #[.int .i64 s.rows, .int .i64 s.cols, .slice ad s.cs.length k, .int .i64 s.cur, .bool s.lk, .bool s.ins], .agg #[.int .i64 kind, .int .u8 (c : Int)]] w fun e w' => GaveE w w' (kdo s kind c).1 ((kdo s kind c).2.2.1 : Nat) (kdo s kind c).2.2.2 e := by
  rcases kinds kind with rfl | rfl | rfl | hm | hw | rfl | rfl | rfl | hn
  · rw [kdo_1]; exact work_1 s ad k c w h hr h8 hl hc
  · rw [kdo_10]; exact work_10 s ad k c w h hr h8 hl
  · rw [kdo_11]; exact work_11 s ad k c w h hr h8 hl
  · rw [kdo_mv s c hm]; exact work_mv s ad k c kind w h hr h8 hl hm
  · rw [kdo_wp s c hw]; exact work_wp s ad k c kind w h hr h8 hl hw
  · exact absurd rfl h6
  · exact absurd rfl h5
  · exact absurd rfl h7
  · rw [kdo_no s c hn]; exact work_no s ad k c kind w h hr h8 hl hn
end Kyb
end Go.Proofs.YtpgbnnnfeaodmaaGreatDoor
