/- The document's Do of layer 17. Written by tools/gen_kyb_ref.py. -/
import Derived.Test.YtpgbnnnfeaodmaaGreatDoorSKybBox
import Derived.Test.YtpgbnnnfeaodmaaGreatDoorSBunRlg
import Derived.Test.YtpgbnnnfeaodmaaGreatDoorSMovRef
import Derived.Test.YtpgbnnnfeaodmaaGreatDoorSWipRef
import Derived.Test.YtpgbnnnfeaodmaaGreatDoorSBunEdr
import Derived.Test.YtpgbnnnfeaodmaaGreatDoorSBunFld
import Derived.Test.YtpgbnnnfeaodmaaGreatDoorSBunGrd
import Derived.Deep.Cut
import Derived.IntWalk
namespace Go.Proofs.YtpgbnnnfeaodmaaGreatDoor
open Go.RowKit Sha Six Apd Cut Err Att Grd Fld Scr
set_option linter.unusedVariables false
namespace Kyb
open Edt
set_option maxRecDepth 100000 in
set_option maxHeartbeats 8000000 in
theorem rdo_1 (s : S) (ad : Option Addr) (k c : Nat) (w : World) (h : CelsIn w (.slice ad s.cs.length k) s.cs) (hr : sright s = true) (hl : s.cs.length < 10000) (hc8 : c < 256) :
    Calls Tryz.prog 11 #[.agg #[.int .i64 s.rows, .int .i64 s.cols, .slice ad s.cs.length k, .int .i64 s.cur, .bool s.lk, .bool s.ins], .agg #[.int .i64 1, .int .u8 (c : Int)]] w fun e w' => ShownK w w' (typ s c).1 false ((typ s c).2.1 : Nat) (typ s c).2.2 e := by
  have HP := Lib.hid (show 0 < s.cs.length by obtain ⟨_, _, h3, h4, _⟩ := sright_parts hr; omega)
  have HA3 := heap_alloc3 w (.cells #[.int .i64 s.rows, .int .i64 s.cols, .slice ad s.cs.length k, .int .i64 s.cur, .bool s.lk, .bool s.ins] 24) (.cells #[.int .i64 1, .int .u8 (c : Int)] 26) (.cells #[.int .i64 0, .int .i64 0, .slice none 0 0, .int .i64 0, .bool false, .bool false] 24)
  have HB := Lib.hid (kept_trans (kept_trans (al_any w (.cells #[.int .i64 s.rows, .int .i64 s.cols, .slice ad s.cs.length k, .int .i64 s.cur, .bool s.lk, .bool s.ins] 24)) (al_any _ (.cells #[.int .i64 1, .int .u8 (c : Int)] 26))) (al_any _ (.cells #[.int .i64 0, .int .i64 0, .slice none 0 0, .int .i64 0, .bool false, .bool false] 24)))
  have HX := Lib.hid HA3.1
  have HY := Lib.hid HA3.2.1
  have HZ := Lib.hid HA3.2.2
  have HH := Lib.hid h
  have HTP := Lib.hid (show 0 < ((typ s c).1).cs.length by rw [(typ_length c).1]; exact HP.out)
  have Q := Lib.hid fun W (hb : Below w.heap.size w W) => rtype_any s ad k c W (HH.out.below hb) hr hl hc8
  simp only [ShownE] at Q
  generalize (typ s c).2.2 = wh at *
  generalize (typ s c).2.1 = code at *
  generalize (typ s c).1 = t at *
  clear h hr hl HA3
  go_enter Tryz.func11, Tryz.ntmps11
  go_upto_region 1 with (fail)
  generalize ((w.alloc _).alloc _).alloc _ = w1 at *
  have hzx := Lib.hid (there_lt HZ.out)
  obtain ⟨c0, c1, c2, c3, c4, c5⟩ := cells6 HX.out
  obtain ⟨y0, y1⟩ := cells2 HY.out
  go_wp2_with fail
  with_reducible refine (Q.out _ HB.out).mono ?_
  rintro e w2 ⟨va, vc, rfl, hc, hb⟩
  clear c0 c1 c2 c3 c4 c5 y0 y1 Q
  have HA := al_any w2 (.cells #[.int .i64 t.rows, .int .i64 t.cols, .slice va t.cs.length vc, .int .i64 t.cur, .bool t.lk, .bool t.ins] 24)
  have HN := Lib.hid (show w.heap.size + 2 < w2.heap.size from Nat.lt_of_lt_of_le hzx.out hb.size)
  have B3 := Lib.hid (heap_alloc_new w2 (.cells #[.int .i64 t.rows, .int .i64 t.cols, .slice va t.cs.length vc, .int .i64 t.cur, .bool t.lk, .bool t.ins] 24))
  have C3 := Lib.hid (hc.below HA)
  replace hb := kept_trans hb HA
  have X3 := Lib.hid (blk HX.out hb)
  have Y3 := Lib.hid (blk HY.out hb)
  have Z3 := Lib.hid (blk HZ.out hb)
  have K3 := kept_hid HB hb
  clear HA hc hb HX HY HZ HB hzx
  go_upto_region 8 with (fail)
  generalize w2.heap.size = N at *
  generalize w2.alloc _ = w3 at *
  obtain ⟨y0, y1⟩ := cells2 Y3.out
  obtain ⟨a0, a1, a2, a3, a4, a5⟩ := cells6 B3.out
  obtain ⟨f0, f1, f2, f3, f4, f5⟩ := free6 Z3.out
  obtain ⟨z0, z1, z2, z3, z4, z5⟩ := cells6 Z3.out
  have SF := Lib.hid (over6 w3 (w.heap.size + 2) _ _ _ _ _ _ _ (.int .i64 t.rows) (.int .i64 t.cols) (.slice va t.cs.length vc) (.int .i64 t.cur) (.bool t.lk) (.bool t.ins) Z3.out)
  go_wp2_with fail
  clear z0 z1 z2 z3 z4 z5 f0 f1 f2 f3 f4 f5 a0 a1 a2 a3 a4 a5
  generalize (((((w3.setCell _ _).setCell _ _).setCell _ _).setCell _ _).setCell _ _).setCell _ _ = w9 at *
  exact bodyPost_ret (v := .tuple #[.agg #[.int .i64 t.rows, .int .i64 t.cols, .slice va t.cs.length vc, .int .i64 t.cur, .bool t.lk, .bool t.ins], .bool false, .int .i64 (code : Int), .int .i64 wh]) (results_cell_3 rfl _ _ _ (w.heap.size + 2) _ rfl (run_loadVar_row w9 (w.heap.size + 2) 24 24 _ (0, 0) _ SF.out.1 Tryz.underlying24 rfl (by kernel_rfl)) (.bool false) (.int .i64 (code : Int)) (.int .i64 wh) rfl rfl rfl) rfl ⟨va, vc, rfl, celsIn_away C3.out SF.out.2 (fun y hy => (not_screen C3.out HTP.out Z3.out y hy).1), below_grown K3.out SF.out.2 (by omega)⟩
set_option maxRecDepth 100000 in
set_option maxHeartbeats 8000000 in
theorem rdo_11 (s : S) (ad : Option Addr) (k c : Nat) (w : World) (h : CelsIn w (.slice ad s.cs.length k) s.cs) (hr : sright s = true) (hl : s.cs.length < 10000) :
    Calls Tryz.prog 11 #[.agg #[.int .i64 s.rows, .int .i64 s.cols, .slice ad s.cs.length k, .int .i64 s.cur, .bool s.lk, .bool s.ins], .agg #[.int .i64 11, .int .u8 (c : Int)]] w fun e w' => ShownK w w' (typ s 30).1 false ((typ s 30).2.1 : Nat) (typ s 30).2.2 e := by
  have HP := Lib.hid (show 0 < s.cs.length by obtain ⟨_, _, h3, h4, _⟩ := sright_parts hr; omega)
  have HA3 := heap_alloc3 w (.cells #[.int .i64 s.rows, .int .i64 s.cols, .slice ad s.cs.length k, .int .i64 s.cur, .bool s.lk, .bool s.ins] 24) (.cells #[.int .i64 11, .int .u8 (c : Int)] 26) (.cells #[.int .i64 0, .int .i64 0, .slice none 0 0, .int .i64 0, .bool false, .bool false] 24)
  have HB := Lib.hid (kept_trans (kept_trans (al_any w (.cells #[.int .i64 s.rows, .int .i64 s.cols, .slice ad s.cs.length k, .int .i64 s.cur, .bool s.lk, .bool s.ins] 24)) (al_any _ (.cells #[.int .i64 11, .int .u8 (c : Int)] 26))) (al_any _ (.cells #[.int .i64 0, .int .i64 0, .slice none 0 0, .int .i64 0, .bool false, .bool false] 24)))
  have HX := Lib.hid HA3.1
  have HY := Lib.hid HA3.2.1
  have HZ := Lib.hid HA3.2.2
  have HH := Lib.hid h
  have HTP := Lib.hid (show 0 < ((typ s 30).1).cs.length by rw [(typ_length 30).1]; exact HP.out)
  have Q := Lib.hid fun W (hb : Below w.heap.size w W) => rtype_any s ad k 30 W (HH.out.below hb) hr hl (by decide)
  simp only [ShownE, show ((30 : Nat) : Int) = 30 from rfl] at Q
  generalize (typ s 30).2.2 = wh at *
  generalize (typ s 30).2.1 = code at *
  generalize (typ s 30).1 = t at *
  clear h hr hl HA3
  go_enter Tryz.func11, Tryz.ntmps11
  go_upto_region 1 with (fail)
  generalize ((w.alloc _).alloc _).alloc _ = w1 at *
  have hzx := Lib.hid (there_lt HZ.out)
  obtain ⟨c0, c1, c2, c3, c4, c5⟩ := cells6 HX.out
  obtain ⟨y0, y1⟩ := cells2 HY.out
  go_wp2_with fail
  with_reducible refine (Q.out _ HB.out).mono ?_
  rintro e w2 ⟨va, vc, rfl, hc, hb⟩
  clear c0 c1 c2 c3 c4 c5 y0 y1 Q
  have HA := al_any w2 (.cells #[.int .i64 t.rows, .int .i64 t.cols, .slice va t.cs.length vc, .int .i64 t.cur, .bool t.lk, .bool t.ins] 24)
  have HN := Lib.hid (show w.heap.size + 2 < w2.heap.size from Nat.lt_of_lt_of_le hzx.out hb.size)
  have B3 := Lib.hid (heap_alloc_new w2 (.cells #[.int .i64 t.rows, .int .i64 t.cols, .slice va t.cs.length vc, .int .i64 t.cur, .bool t.lk, .bool t.ins] 24))
  have C3 := Lib.hid (hc.below HA)
  replace hb := kept_trans hb HA
  have X3 := Lib.hid (blk HX.out hb)
  have Y3 := Lib.hid (blk HY.out hb)
  have Z3 := Lib.hid (blk HZ.out hb)
  have K3 := kept_hid HB hb
  clear HA hc hb HX HY HZ HB hzx
  go_upto_region 8 with (fail)
  generalize w2.heap.size = N at *
  generalize w2.alloc _ = w3 at *
  obtain ⟨y0, y1⟩ := cells2 Y3.out
  obtain ⟨a0, a1, a2, a3, a4, a5⟩ := cells6 B3.out
  obtain ⟨f0, f1, f2, f3, f4, f5⟩ := free6 Z3.out
  obtain ⟨z0, z1, z2, z3, z4, z5⟩ := cells6 Z3.out
  have SF := Lib.hid (over6 w3 (w.heap.size + 2) _ _ _ _ _ _ _ (.int .i64 t.rows) (.int .i64 t.cols) (.slice va t.cs.length vc) (.int .i64 t.cur) (.bool t.lk) (.bool t.ins) Z3.out)
  go_wp2_with fail
  clear z0 z1 z2 z3 z4 z5 f0 f1 f2 f3 f4 f5 a0 a1 a2 a3 a4 a5
  generalize (((((w3.setCell _ _).setCell _ _).setCell _ _).setCell _ _).setCell _ _).setCell _ _ = w9 at *
  exact bodyPost_ret (v := .tuple #[.agg #[.int .i64 t.rows, .int .i64 t.cols, .slice va t.cs.length vc, .int .i64 t.cur, .bool t.lk, .bool t.ins], .bool false, .int .i64 (code : Int), .int .i64 wh]) (results_cell_3 rfl _ _ _ (w.heap.size + 2) _ rfl (run_loadVar_row w9 (w.heap.size + 2) 24 24 _ (0, 0) _ SF.out.1 Tryz.underlying24 rfl (by kernel_rfl)) (.bool false) (.int .i64 (code : Int)) (.int .i64 wh) rfl rfl rfl) rfl ⟨va, vc, rfl, celsIn_away C3.out SF.out.2 (fun y hy => (not_screen C3.out HTP.out Z3.out y hy).1), below_grown K3.out SF.out.2 (by omega)⟩
set_option maxRecDepth 100000 in
set_option maxHeartbeats 8000000 in
theorem rdo_mv (s : S) (ad : Option Addr) (k c : Nat) (kind : Int) (w : World) (h : CelsIn w (.slice ad s.cs.length k) s.cs) (hr : sright s = true) (hl : s.cs.length < 10000) (hm : Mov.isMove kind = true) :
    Calls Tryz.prog 11 #[.agg #[.int .i64 s.rows, .int .i64 s.cols, .slice ad s.cs.length k, .int .i64 s.cur, .bool s.lk, .bool s.ins], .agg #[.int .i64 kind, .int .u8 (c : Int)]] w fun e w' => ShownK w w' (Mov.mdo s kind).1 false ((Mov.mdo s kind).2 : Nat) (-1) e := by
  have HP := Lib.hid (show 0 < s.cs.length by obtain ⟨_, _, h3, h4, _⟩ := sright_parts hr; omega)
  have HA3 := heap_alloc3 w (.cells #[.int .i64 s.rows, .int .i64 s.cols, .slice ad s.cs.length k, .int .i64 s.cur, .bool s.lk, .bool s.ins] 24) (.cells #[.int .i64 kind, .int .u8 (c : Int)] 26) (.cells #[.int .i64 0, .int .i64 0, .slice none 0 0, .int .i64 0, .bool false, .bool false] 24)
  have HB := Lib.hid (kept_trans (kept_trans (al_any w (.cells #[.int .i64 s.rows, .int .i64 s.cols, .slice ad s.cs.length k, .int .i64 s.cur, .bool s.lk, .bool s.ins] 24)) (al_any _ (.cells #[.int .i64 kind, .int .u8 (c : Int)] 26))) (al_any _ (.cells #[.int .i64 0, .int .i64 0, .slice none 0 0, .int .i64 0, .bool false, .bool false] 24)))
  have HX := Lib.hid HA3.1
  have HY := Lib.hid HA3.2.1
  have HZ := Lib.hid HA3.2.2
  have HH := Lib.hid h
  obtain ⟨hk2, hk9⟩ := move_not hm
  have e1 : (kind == 1) = false := by simp; omega
  have e10 : (kind == 10) = false := by simp; omega
  have e11 : (kind == 11) = false := by simp; omega
  have HTP := Lib.hid (show 0 < ((Mov.mdo s kind).1).cs.length by rw [Mov.mdo_cs]; exact HP.out)
  have Q := Lib.hid fun W (hb : Below w.heap.size w W) => Mov.rdo_any s ad k kind W (HH.out.below hb) hr hl
  simp only [ShownN] at Q
  generalize (Mov.mdo s kind).2 = code at *
  generalize (Mov.mdo s kind).1 = t at *
  clear h hr hl HA3
  go_enter Tryz.func11, Tryz.ntmps11
  go_upto_region 1 with (fail)
  generalize ((w.alloc _).alloc _).alloc _ = w1 at *
  have hzx := Lib.hid (there_lt HZ.out)
  obtain ⟨c0, c1, c2, c3, c4, c5⟩ := cells6 HX.out
  obtain ⟨y0, y1⟩ := cells2 HY.out
  go_wp2_with fail
  with_reducible refine (Q.out _ HB.out).mono ?_
  rintro e w2 ⟨va, vc, rfl, hc, hb⟩
  clear c0 c1 c2 c3 c4 c5 y0 y1 Q
  have HA := al_any w2 (.cells #[.int .i64 t.rows, .int .i64 t.cols, .slice va t.cs.length vc, .int .i64 t.cur, .bool t.lk, .bool t.ins] 24)
  have HN := Lib.hid (show w.heap.size + 2 < w2.heap.size from Nat.lt_of_lt_of_le hzx.out hb.size)
  have B3 := Lib.hid (heap_alloc_new w2 (.cells #[.int .i64 t.rows, .int .i64 t.cols, .slice va t.cs.length vc, .int .i64 t.cur, .bool t.lk, .bool t.ins] 24))
  have C3 := Lib.hid (hc.below HA)
  replace hb := kept_trans hb HA
  have X3 := Lib.hid (blk HX.out hb)
  have Y3 := Lib.hid (blk HY.out hb)
  have Z3 := Lib.hid (blk HZ.out hb)
  have K3 := kept_hid HB hb
  clear HA hc hb HX HY HZ HB hzx
  go_upto_region 15 with (fail)
  generalize w2.heap.size = N at *
  generalize w2.alloc _ = w3 at *
  obtain ⟨y0, y1⟩ := cells2 Y3.out
  obtain ⟨a0, a1, a2, a3, a4, a5⟩ := cells6 B3.out
  obtain ⟨f0, f1, f2, f3, f4, f5⟩ := free6 Z3.out
  obtain ⟨z0, z1, z2, z3, z4, z5⟩ := cells6 Z3.out
  have SF := Lib.hid (over6 w3 (w.heap.size + 2) _ _ _ _ _ _ _ (.int .i64 t.rows) (.int .i64 t.cols) (.slice va t.cs.length vc) (.int .i64 t.cur) (.bool t.lk) (.bool t.ins) Z3.out)
  go_wp2_with fail
  clear z0 z1 z2 z3 z4 z5 f0 f1 f2 f3 f4 f5 a0 a1 a2 a3 a4 a5
  generalize (((((w3.setCell _ _).setCell _ _).setCell _ _).setCell _ _).setCell _ _).setCell _ _ = w9 at *
  exact bodyPost_ret (v := .tuple #[.agg #[.int .i64 t.rows, .int .i64 t.cols, .slice va t.cs.length vc, .int .i64 t.cur, .bool t.lk, .bool t.ins], .bool false, .int .i64 (code : Int), .int .i64 (-1)]) (results_cell_3 rfl _ _ _ (w.heap.size + 2) _ rfl (run_loadVar_row w9 (w.heap.size + 2) 24 24 _ (0, 0) _ SF.out.1 Tryz.underlying24 rfl (by kernel_rfl)) (.bool false) (.int .i64 (code : Int)) (.int .i64 (-1)) rfl rfl rfl) rfl ⟨va, vc, rfl, celsIn_away C3.out SF.out.2 (fun y hy => (not_screen C3.out HTP.out Z3.out y hy).1), below_grown K3.out SF.out.2 (by omega)⟩
set_option maxRecDepth 100000 in
set_option maxHeartbeats 8000000 in
theorem rdo_wp (s : S) (ad : Option Addr) (k c : Nat) (kind : Int) (w : World) (h : CelsIn w (.slice ad s.cs.length k) s.cs) (hr : sright s = true) (hl : s.cs.length < 10000) (hm : Wip.isWipe kind = true) :
    Calls Tryz.prog 11 #[.agg #[.int .i64 s.rows, .int .i64 s.cols, .slice ad s.cs.length k, .int .i64 s.cur, .bool s.lk, .bool s.ins], .agg #[.int .i64 kind, .int .u8 (c : Int)]] w fun e w' => ShownK w w' (Wip.wdo s kind).1 false ((Wip.wdo s kind).2.1 : Nat) (Wip.wdo s kind).2.2 e := by
  have HP := Lib.hid (show 0 < s.cs.length by obtain ⟨_, _, h3, h4, _⟩ := sright_parts hr; omega)
  have HA3 := heap_alloc3 w (.cells #[.int .i64 s.rows, .int .i64 s.cols, .slice ad s.cs.length k, .int .i64 s.cur, .bool s.lk, .bool s.ins] 24) (.cells #[.int .i64 kind, .int .u8 (c : Int)] 26) (.cells #[.int .i64 0, .int .i64 0, .slice none 0 0, .int .i64 0, .bool false, .bool false] 24)
  have HB := Lib.hid (kept_trans (kept_trans (al_any w (.cells #[.int .i64 s.rows, .int .i64 s.cols, .slice ad s.cs.length k, .int .i64 s.cur, .bool s.lk, .bool s.ins] 24)) (al_any _ (.cells #[.int .i64 kind, .int .u8 (c : Int)] 26))) (al_any _ (.cells #[.int .i64 0, .int .i64 0, .slice none 0 0, .int .i64 0, .bool false, .bool false] 24)))
  have HX := Lib.hid HA3.1
  have HY := Lib.hid HA3.2.1
  have HZ := Lib.hid HA3.2.2
  have HH := Lib.hid h
  obtain ⟨hk2, hk9⟩ := wipe_not hm
  have hk3 : ¬ kind ≤ 9 := by omega
  have hk4 : 2 ≤ kind := by omega
  have e1 : (kind == 1) = false := by simp; omega
  have e10 : (kind == 10) = false := by simp; omega
  have e11 : (kind == 11) = false := by simp; omega
  have HTP := Lib.hid (show 0 < ((Wip.wdo s kind).1).cs.length by rw [(Wip.wdo_length s kind).1]; exact HP.out)
  have Q := Lib.hid fun W (hb : Below w.heap.size w W) => Wip.rdo_any s ad k kind W (HH.out.below hb) hr hl
  simp only [ShownE] at Q
  generalize (Wip.wdo s kind).2.2 = wh at *
  generalize (Wip.wdo s kind).2.1 = code at *
  generalize (Wip.wdo s kind).1 = t at *
  clear h hr hl HA3
  go_enter Tryz.func11, Tryz.ntmps11
  go_upto_region 1 with (fail)
  generalize ((w.alloc _).alloc _).alloc _ = w1 at *
  have hzx := Lib.hid (there_lt HZ.out)
  obtain ⟨c0, c1, c2, c3, c4, c5⟩ := cells6 HX.out
  obtain ⟨y0, y1⟩ := cells2 HY.out
  go_wp2_with fail
  with_reducible refine (Q.out _ HB.out).mono ?_
  rintro e w2 ⟨va, vc, rfl, hc, hb⟩
  clear c0 c1 c2 c3 c4 c5 y0 y1 Q
  have HA := al_any w2 (.cells #[.int .i64 t.rows, .int .i64 t.cols, .slice va t.cs.length vc, .int .i64 t.cur, .bool t.lk, .bool t.ins] 24)
  have HN := Lib.hid (show w.heap.size + 2 < w2.heap.size from Nat.lt_of_lt_of_le hzx.out hb.size)
  have B3 := Lib.hid (heap_alloc_new w2 (.cells #[.int .i64 t.rows, .int .i64 t.cols, .slice va t.cs.length vc, .int .i64 t.cur, .bool t.lk, .bool t.ins] 24))
  have C3 := Lib.hid (hc.below HA)
  replace hb := kept_trans hb HA
  have X3 := Lib.hid (blk HX.out hb)
  have Y3 := Lib.hid (blk HY.out hb)
  have Z3 := Lib.hid (blk HZ.out hb)
  have K3 := kept_hid HB hb
  clear HA hc hb HX HY HZ HB hzx
  go_upto_region 18 with (fail)
  generalize w2.heap.size = N at *
  generalize w2.alloc _ = w3 at *
  obtain ⟨y0, y1⟩ := cells2 Y3.out
  obtain ⟨a0, a1, a2, a3, a4, a5⟩ := cells6 B3.out
  obtain ⟨f0, f1, f2, f3, f4, f5⟩ := free6 Z3.out
  obtain ⟨z0, z1, z2, z3, z4, z5⟩ := cells6 Z3.out
  have SF := Lib.hid (over6 w3 (w.heap.size + 2) _ _ _ _ _ _ _ (.int .i64 t.rows) (.int .i64 t.cols) (.slice va t.cs.length vc) (.int .i64 t.cur) (.bool t.lk) (.bool t.ins) Z3.out)
  go_wp2_with fail
  clear z0 z1 z2 z3 z4 z5 f0 f1 f2 f3 f4 f5 a0 a1 a2 a3 a4 a5
  generalize (((((w3.setCell _ _).setCell _ _).setCell _ _).setCell _ _).setCell _ _).setCell _ _ = w9 at *
  exact bodyPost_ret (v := .tuple #[.agg #[.int .i64 t.rows, .int .i64 t.cols, .slice va t.cs.length vc, .int .i64 t.cur, .bool t.lk, .bool t.ins], .bool false, .int .i64 (code : Int), .int .i64 wh]) (results_cell_3 rfl _ _ _ (w.heap.size + 2) _ rfl (run_loadVar_row w9 (w.heap.size + 2) 24 24 _ (0, 0) _ SF.out.1 Tryz.underlying24 rfl (by kernel_rfl)) (.bool false) (.int .i64 (code : Int)) (.int .i64 wh) rfl rfl rfl) rfl ⟨va, vc, rfl, celsIn_away C3.out SF.out.2 (fun y hy => (not_screen C3.out HTP.out Z3.out y hy).1), below_grown K3.out SF.out.2 (by omega)⟩
set_option maxRecDepth 100000 in
set_option maxHeartbeats 8000000 in
theorem rdo_10 (s : S) (ad : Option Addr) (k c : Nat) (w : World) (h : CelsIn w (.slice ad s.cs.length k) s.cs) (hr : sright s = true) (hl : s.cs.length < 10000) :
    Calls Tryz.prog 11 #[.agg #[.int .i64 s.rows, .int .i64 s.cols, .slice ad s.cs.length k, .int .i64 s.cur, .bool s.lk, .bool s.ins], .agg #[.int .i64 10, .int .u8 (c : Int)]] w fun e w' => ShownK w w' (if (typ s 28).2.1 = 0 then onto s (typ s 28).1 else (typ s 28).1) false ((typ s 28).2.1 : Nat) (typ s 28).2.2 e := by
  obtain ⟨kk, hk1, _, hk3⟩ := cur_nat hr
  have HP := Lib.hid (show 0 < s.cs.length by obtain ⟨_, _, h3, h4, _⟩ := sright_parts hr; omega)
  have HA3 := heap_alloc3 w (.cells #[.int .i64 s.rows, .int .i64 s.cols, .slice ad s.cs.length k, .int .i64 s.cur, .bool s.lk, .bool s.ins] 24) (.cells #[.int .i64 10, .int .u8 (c : Int)] 26) (.cells #[.int .i64 0, .int .i64 0, .slice none 0 0, .int .i64 0, .bool false, .bool false] 24)
  have HB := Lib.hid (kept_trans (kept_trans (al_any w (.cells #[.int .i64 s.rows, .int .i64 s.cols, .slice ad s.cs.length k, .int .i64 s.cur, .bool s.lk, .bool s.ins] 24)) (al_any _ (.cells #[.int .i64 10, .int .u8 (c : Int)] 26))) (al_any _ (.cells #[.int .i64 0, .int .i64 0, .slice none 0 0, .int .i64 0, .bool false, .bool false] 24)))
  have HX := Lib.hid HA3.1
  have HY := Lib.hid HA3.2.1
  have HZ := Lib.hid HA3.2.2
  have HH := Lib.hid h
  have HCU := Lib.hid hk1
  have HTL := Lib.hid (typ_length (s := s) 28)
  have HTR := Lib.hid (typ_right hr 28)
  have Q := Lib.hid fun W (hb : Below w.heap.size w W) => rtype_any s ad k 28 W (HH.out.below hb) hr hl (by decide)
  simp only [ShownE, show ((28 : Nat) : Int) = 28 from rfl] at Q
  have HON := Lib.hid (show onto s (typ s 28).1 = { (typ s 28).1 with cur := ((next (typ s 28).1.cs kk).toNat : Nat) } from by unfold onto; rw [hk1, Int.toNat_natCast])
  generalize (typ s 28).2.2 = wh at *
  generalize (typ s 28).2.1 = code at *
  generalize (typ s 28).1 = t at *
  have HTP := Lib.hid (show 0 < t.cs.length by rw [HTL.out.1]; exact HP.out)
  have QN := Lib.hid fun va vc W (hb : CelsIn W (.slice va t.cs.length vc) t.cs) => rnextf_any t va vc kk W hb HTP.out (by rw [HTL.out.1]; omega) (by rw [HTL.out.1]; exact hk3)
  clear hk1 hk3
  clear h hr hl HA3
  go_enter Tryz.func11, Tryz.ntmps11
  go_upto_region 1 with (fail)
  generalize ((w.alloc _).alloc _).alloc _ = w1 at *
  have hzx := Lib.hid (there_lt HZ.out)
  obtain ⟨c0, c1, c2, c3, c4, c5⟩ := cells6 HX.out
  obtain ⟨y0, y1⟩ := cells2 HY.out
  go_wp2_with fail
  with_reducible refine (Q.out _ HB.out).mono ?_
  rintro e w2 ⟨va, vc, rfl, hc, hb⟩
  clear c0 c1 c2 c3 c4 c5 y0 y1 Q
  have HA := al_any w2 (.cells #[.int .i64 t.rows, .int .i64 t.cols, .slice va t.cs.length vc, .int .i64 t.cur, .bool t.lk, .bool t.ins] 24)
  have HN := Lib.hid (show w.heap.size + 2 < w2.heap.size from Nat.lt_of_lt_of_le hzx.out hb.size)
  have B3 := Lib.hid (heap_alloc_new w2 (.cells #[.int .i64 t.rows, .int .i64 t.cols, .slice va t.cs.length vc, .int .i64 t.cur, .bool t.lk, .bool t.ins] 24))
  have C3 := Lib.hid (hc.below HA)
  replace hb := kept_trans hb HA
  have X3 := Lib.hid (blk HX.out hb)
  have Y3 := Lib.hid (blk HY.out hb)
  have Z3 := Lib.hid (blk HZ.out hb)
  have K3 := kept_hid HB hb
  clear HA hc hb HX HY HZ HB hzx
  go_upto_region 8 with (fail)
  generalize w2.heap.size = N at *
  generalize w2.alloc _ = w3 at *
  obtain ⟨y0, y1⟩ := cells2 Y3.out
  by_cases h0 : code = 0
  · have hi : (if code = 0 then onto s t else t) = onto s t := if_pos h0
    subst h0
    have HNX := Lib.hid (QN.out va vc w3 C3.out)
    have HND := Lib.hid (Int.toNat_of_nonneg (a := next t.cs kk))
    have HNE := Lib.hid (show next t.cs kk < 0 → (((next t.cs kk).toNat : Nat) : Int) = 0 from fun h => by omega)
    obtain ⟨c0, c1, c2, c3, c4, c5⟩ := cells6 X3.out
    rw [HCU.out] at c3
    go_upto_region 9 with (fail)
    obtain ⟨b0, b1, b2, b3, b4, b5⟩ := cells6 B3.out
    generalize next t.cs kk = nx at *
    go_wp2_with fail
    with_reducible refine HNX.out.mono ?_
    rintro e w4 ⟨rfl, hb⟩
    have B4 := Lib.hid (blk B3.out hb)
    have Z4 := Lib.hid (blk Z3.out hb)
    have C4 := Lib.hid (C3.out.below hb)
    have K4 := kept_hid K3 hb
    clear c0 c1 c2 c3 c4 c5 b0 b1 b2 b3 b4 b5 y0 y1 hb B3 Z3 C3 K3 HNX QN X3 Y3
    have SO := gsetCell w4 N 3 (.int .i64 nx)
    have B5 := Lib.hid (heap_setCell_same w4 N 3 _ 24 (.int .i64 nx) B4.out)
    have Z5 := Lib.hid (blk_g Z4.out SO (by intro e; injection e with e; have := HN.out; omega))
    have C5 := Lib.hid (celsIn_away C4.out SO (fun y hy => (not_screen C4.out HTP.out B4.out y hy).1))
    have K5 := Lib.hid (below_grown K4.out SO (by have := HN.out; omega))
    clear SO
    obtain ⟨b0, b1, b2, b3, b4, b5⟩ := cells6 B4.out
    obtain ⟨f0, f1, f2, f3, f4, f5⟩ := free6 B4.out
    go_upto_region 10 with (fail)
    clear b0 b1 b2 b3 b4 b5 f0 f1 f2 f3 f4 f5 B4 Z4 C4 K4
    generalize w4.setCell _ _ = w5 at *
    by_cases hn : nx < 0
    · have ht0 : { t with cur := ((nx.toNat : Nat) : Int) } = ({ t with cur := 0 } : S) := by rw [HNE.out hn]
      rw [ht0] at HON
      obtain ⟨b0, b1, b2, b3, b4, b5⟩ := cells6 B5.out
      go_upto_region 11 with (fail)
      clear b0 b1 b2 b3 b4 b5
      have SO := gsetCell w5 N 3 (.int .i64 0)
      have B6 := Lib.hid (heap_setCell_same w5 N 3 _ 24 (.int .i64 0) B5.out)
      have Z6 := Lib.hid (blk_g Z5.out SO (by intro e; injection e with e; have := HN.out; omega))
      have C6 := Lib.hid (celsIn_away C5.out SO (fun y hy => (not_screen C5.out HTP.out B5.out y hy).1))
      have K6 := Lib.hid (below_grown K5.out SO (by have := HN.out; omega))
      clear SO
      obtain ⟨b0, b1, b2, b3, b4, b5⟩ := cells6 B5.out
      obtain ⟨f0, f1, f2, f3, f4, f5⟩ := free6 B5.out
      go_upto_region 12 with (fail)
      clear b0 b1 b2 b3 b4 b5 f0 f1 f2 f3 f4 f5 B5 Z5 C5 K5
      generalize w5.setCell _ _ = w6 at *
      have HT := Lib.hid (show (if (0 : Nat) = 0 then onto s t else t) = _ from hi.trans HON.out)
      obtain ⟨a0, a1, a2, a3, a4, a5⟩ := cells6 B6.out
      obtain ⟨f0, f1, f2, f3, f4, f5⟩ := free6 Z6.out
      obtain ⟨z0, z1, z2, z3, z4, z5⟩ := cells6 Z6.out
      have SF := Lib.hid (over6 w6 (w.heap.size + 2) _ _ _ _ _ _ _ (.int .i64 t.rows) (.int .i64 t.cols) (.slice va t.cs.length vc) (.int .i64 0) (.bool t.lk) (.bool t.ins) Z6.out)
      go_wp2_with fail
      clear z0 z1 z2 z3 z4 z5 f0 f1 f2 f3 f4 f5 a0 a1 a2 a3 a4 a5
      generalize (((((w6.setCell _ _).setCell _ _).setCell _ _).setCell _ _).setCell _ _).setCell _ _ = w9 at *
      exact bodyPost_ret (v := .tuple #[.agg #[.int .i64 t.rows, .int .i64 t.cols, .slice va t.cs.length vc, .int .i64 0, .bool t.lk, .bool t.ins], .bool false, .int .i64 0, .int .i64 wh]) (results_cell_3 rfl _ _ _ (w.heap.size + 2) _ rfl (run_loadVar_row w9 (w.heap.size + 2) 24 24 _ (0, 0) _ SF.out.1 Tryz.underlying24 rfl (by kernel_rfl)) (.bool false) (.int .i64 0) (.int .i64 wh) rfl rfl rfl) rfl (by first | (rw [HON.out]; exact ⟨va, vc, rfl, celsIn_away C6.out SF.out.2 (fun y hy => (not_screen C6.out HTP.out Z6.out y hy).1), below_grown K6.out SF.out.2 (by omega)⟩) | (rw [HT.out]; exact ⟨va, vc, rfl, celsIn_away C6.out SF.out.2 (fun y hy => (not_screen C6.out HTP.out Z6.out y hy).1), below_grown K6.out SF.out.2 (by omega)⟩))
    · have ht0 : { t with cur := ((nx.toNat : Nat) : Int) } = ({ t with cur := nx } : S) := by rw [HND.out (by omega)]
      rw [ht0] at HON
      have HT := Lib.hid (show (if (0 : Nat) = 0 then onto s t else t) = _ from hi.trans HON.out)
      obtain ⟨a0, a1, a2, a3, a4, a5⟩ := cells6 B5.out
      obtain ⟨f0, f1, f2, f3, f4, f5⟩ := free6 Z5.out
      obtain ⟨z0, z1, z2, z3, z4, z5⟩ := cells6 Z5.out
      have SF := Lib.hid (over6 w5 (w.heap.size + 2) _ _ _ _ _ _ _ (.int .i64 t.rows) (.int .i64 t.cols) (.slice va t.cs.length vc) (.int .i64 nx) (.bool t.lk) (.bool t.ins) Z5.out)
      go_wp2_with fail
      clear z0 z1 z2 z3 z4 z5 f0 f1 f2 f3 f4 f5 a0 a1 a2 a3 a4 a5
      generalize (((((w5.setCell _ _).setCell _ _).setCell _ _).setCell _ _).setCell _ _).setCell _ _ = w9 at *
      exact bodyPost_ret (v := .tuple #[.agg #[.int .i64 t.rows, .int .i64 t.cols, .slice va t.cs.length vc, .int .i64 nx, .bool t.lk, .bool t.ins], .bool false, .int .i64 0, .int .i64 wh]) (results_cell_3 rfl _ _ _ (w.heap.size + 2) _ rfl (run_loadVar_row w9 (w.heap.size + 2) 24 24 _ (0, 0) _ SF.out.1 Tryz.underlying24 rfl (by kernel_rfl)) (.bool false) (.int .i64 0) (.int .i64 wh) rfl rfl rfl) rfl (by first | (rw [HON.out]; exact ⟨va, vc, rfl, celsIn_away C5.out SF.out.2 (fun y hy => (not_screen C5.out HTP.out Z5.out y hy).1), below_grown K5.out SF.out.2 (by omega)⟩) | (rw [HT.out]; exact ⟨va, vc, rfl, celsIn_away C5.out SF.out.2 (fun y hy => (not_screen C5.out HTP.out Z5.out y hy).1), below_grown K5.out SF.out.2 (by omega)⟩))
  · have hi : (if code = 0 then onto s t else t) = t := if_neg h0
    have e0 : ((code : Int) == 0) = false := by simp; omega
    obtain ⟨a0, a1, a2, a3, a4, a5⟩ := cells6 B3.out
    obtain ⟨f0, f1, f2, f3, f4, f5⟩ := free6 Z3.out
    obtain ⟨z0, z1, z2, z3, z4, z5⟩ := cells6 Z3.out
    have SF := Lib.hid (over6 w3 (w.heap.size + 2) _ _ _ _ _ _ _ (.int .i64 t.rows) (.int .i64 t.cols) (.slice va t.cs.length vc) (.int .i64 t.cur) (.bool t.lk) (.bool t.ins) Z3.out)
    go_wp2_with fail
    clear z0 z1 z2 z3 z4 z5 f0 f1 f2 f3 f4 f5 a0 a1 a2 a3 a4 a5
    generalize (((((w3.setCell _ _).setCell _ _).setCell _ _).setCell _ _).setCell _ _).setCell _ _ = w9 at *
    exact bodyPost_ret (v := .tuple #[.agg #[.int .i64 t.rows, .int .i64 t.cols, .slice va t.cs.length vc, .int .i64 t.cur, .bool t.lk, .bool t.ins], .bool false, .int .i64 (code : Int), .int .i64 wh]) (results_cell_3 rfl _ _ _ (w.heap.size + 2) _ rfl (run_loadVar_row w9 (w.heap.size + 2) 24 24 _ (0, 0) _ SF.out.1 Tryz.underlying24 rfl (by kernel_rfl)) (.bool false) (.int .i64 (code : Int)) (.int .i64 wh) rfl rfl rfl) rfl (by first | (rw [hi]; exact ⟨va, vc, rfl, celsIn_away C3.out SF.out.2 (fun y hy => (not_screen C3.out HTP.out Z3.out y hy).1), below_grown K3.out SF.out.2 (by omega)⟩) | exact ⟨va, vc, rfl, celsIn_away C3.out SF.out.2 (fun y hy => (not_screen C3.out HTP.out Z3.out y hy).1), below_grown K3.out SF.out.2 (by omega)⟩)
set_option maxRecDepth 100000 in
set_option maxHeartbeats 8000000 in
theorem rdo_16 (s : S) (ad : Option Addr) (k c : Nat) (w : World) (h : CelsIn w (.slice ad s.cs.length k) s.cs) (hr : sright s = true) (hl : s.cs.length < 10000) :
    Calls Tryz.prog 11 #[.agg #[.int .i64 s.rows, .int .i64 s.cols, .slice ad s.cs.length k, .int .i64 s.cur, .bool s.lk, .bool s.ins], .agg #[.int .i64 16, .int .u8 (c : Int)]] w fun e w' => ShownK w w' ⟨s.rows, s.cols, s.cs, s.cur, false, false⟩ false 0 (-1) e := by
  have HP := Lib.hid (show 0 < s.cs.length by obtain ⟨_, _, h3, h4, _⟩ := sright_parts hr; omega)
  have HA3 := heap_alloc3 w (.cells #[.int .i64 s.rows, .int .i64 s.cols, .slice ad s.cs.length k, .int .i64 s.cur, .bool s.lk, .bool s.ins] 24) (.cells #[.int .i64 16, .int .u8 (c : Int)] 26) (.cells #[.int .i64 0, .int .i64 0, .slice none 0 0, .int .i64 0, .bool false, .bool false] 24)
  have HB := Lib.hid (kept_trans (kept_trans (al_any w (.cells #[.int .i64 s.rows, .int .i64 s.cols, .slice ad s.cs.length k, .int .i64 s.cur, .bool s.lk, .bool s.ins] 24)) (al_any _ (.cells #[.int .i64 16, .int .u8 (c : Int)] 26))) (al_any _ (.cells #[.int .i64 0, .int .i64 0, .slice none 0 0, .int .i64 0, .bool false, .bool false] 24)))
  have HX := Lib.hid HA3.1
  have HY := Lib.hid HA3.2.1
  have HZ := Lib.hid HA3.2.2
  have HH := Lib.hid h
  have Q := Lib.hid fun W (hb : Below w.heap.size w W) => rcopy_any s ad k W (HH.out.below hb) (by omega)
  simp only [Copied] at Q
  clear h hr hl HA3
  go_enter Tryz.func11, Tryz.ntmps11
  go_upto_region 1 with (fail)
  generalize ((w.alloc _).alloc _).alloc _ = w1 at *
  have hzx := Lib.hid (there_lt HZ.out)
  obtain ⟨c0, c1, c2, c3, c4, c5⟩ := cells6 HX.out
  obtain ⟨y0, y1⟩ := cells2 HY.out
  go_wp2_with fail
  with_reducible refine (Q.out _ HB.out).mono ?_
  rintro e w2 ⟨va, vc, rfl, ho, hb⟩
  have hc := ho.to
  clear ho
  clear c0 c1 c2 c3 c4 c5 y0 y1 Q
  have HA := al_any w2 (.cells #[.int .i64 s.rows, .int .i64 s.cols, .slice va s.cs.length vc, .int .i64 s.cur, .bool s.lk, .bool s.ins] 24)
  have HN := Lib.hid (show w.heap.size + 2 < w2.heap.size from Nat.lt_of_lt_of_le hzx.out hb.size)
  have B3 := Lib.hid (heap_alloc_new w2 (.cells #[.int .i64 s.rows, .int .i64 s.cols, .slice va s.cs.length vc, .int .i64 s.cur, .bool s.lk, .bool s.ins] 24))
  have C3 := Lib.hid (hc.below HA)
  replace hb := kept_trans hb HA
  have X3 := Lib.hid (blk HX.out hb)
  have Y3 := Lib.hid (blk HY.out hb)
  have Z3 := Lib.hid (blk HZ.out hb)
  have K3 := kept_hid HB hb
  clear HA hc hb HX HY HZ HB hzx
  go_upto_region 20 with (fail)
  generalize w2.heap.size = N at *
  generalize w2.alloc _ = w3 at *
  obtain ⟨y0, y1⟩ := cells2 Y3.out
  go_upto_region 21 with (fail)
  have SO := gsetCell w3 N 4 (.bool false)
  have B4 := Lib.hid (heap_setCell_same w3 N 4 _ 24 (.bool false) B3.out)
  have Z4 := Lib.hid (blk_g Z3.out SO (by intro e; injection e with e; have := HN.out; omega))
  have C4 := Lib.hid (celsIn_away C3.out SO (fun y hy => (not_screen C3.out HP.out B3.out y hy).1))
  have K4 := Lib.hid (below_grown K3.out SO (by have := HN.out; omega))
  clear SO
  obtain ⟨b0, b1, b2, b3, b4, b5⟩ := cells6 B3.out
  obtain ⟨f0, f1, f2, f3, f4, f5⟩ := free6 B3.out
  go_upto_region 22 with (fail)
  clear b0 b1 b2 b3 b4 b5 f0 f1 f2 f3 f4 f5 B3 Z3 C3 K3
  generalize w3.setCell _ _ = w4 at *
  have SO := gsetCell w4 N 5 (.bool false)
  have B5 := Lib.hid (heap_setCell_same w4 N 5 _ 24 (.bool false) B4.out)
  have Z5 := Lib.hid (blk_g Z4.out SO (by intro e; injection e with e; have := HN.out; omega))
  have C5 := Lib.hid (celsIn_away C4.out SO (fun y hy => (not_screen C4.out HP.out B4.out y hy).1))
  have K5 := Lib.hid (below_grown K4.out SO (by have := HN.out; omega))
  clear SO
  obtain ⟨b0, b1, b2, b3, b4, b5⟩ := cells6 B4.out
  obtain ⟨f0, f1, f2, f3, f4, f5⟩ := free6 B4.out
  go_upto_region 23 with (fail)
  clear b0 b1 b2 b3 b4 b5 f0 f1 f2 f3 f4 f5 B4 Z4 C4 K4
  generalize w4.setCell _ _ = w5 at *
  obtain ⟨a0, a1, a2, a3, a4, a5⟩ := cells6 B5.out
  obtain ⟨f0, f1, f2, f3, f4, f5⟩ := free6 Z5.out
  obtain ⟨z0, z1, z2, z3, z4, z5⟩ := cells6 Z5.out
  have SF := Lib.hid (over6 w5 (w.heap.size + 2) _ _ _ _ _ _ _ (.int .i64 s.rows) (.int .i64 s.cols) (.slice va s.cs.length vc) (.int .i64 s.cur) (.bool false) (.bool false) Z5.out)
  go_wp2_with fail
  clear z0 z1 z2 z3 z4 z5 f0 f1 f2 f3 f4 f5 a0 a1 a2 a3 a4 a5
  generalize (((((w5.setCell _ _).setCell _ _).setCell _ _).setCell _ _).setCell _ _).setCell _ _ = w9 at *
  exact bodyPost_ret (v := .tuple #[.agg #[.int .i64 s.rows, .int .i64 s.cols, .slice va s.cs.length vc, .int .i64 s.cur, .bool false, .bool false], .bool false, .int .i64 0, .int .i64 (-1)]) (results_cell_3 rfl _ _ _ (w.heap.size + 2) _ rfl (run_loadVar_row w9 (w.heap.size + 2) 24 24 _ (0, 0) _ SF.out.1 Tryz.underlying24 rfl (by kernel_rfl)) (.bool false) (.int .i64 0) (.int .i64 (-1)) rfl rfl rfl) rfl ⟨va, vc, rfl, celsIn_away C5.out SF.out.2 (fun y hy => (not_screen C5.out HP.out Z5.out y hy).1), below_grown K5.out SF.out.2 (by omega)⟩
set_option maxRecDepth 100000 in
set_option maxHeartbeats 8000000 in
theorem rdo_lo (s : S) (ad : Option Addr) (k c : Nat) (kind : Int) (w : World) (h : CelsIn w (.slice ad s.cs.length k) s.cs) (hr : sright s = true) (hl : s.cs.length < 10000) (hm : kind < 1) :
    Calls Tryz.prog 11 #[.agg #[.int .i64 s.rows, .int .i64 s.cols, .slice ad s.cs.length k, .int .i64 s.cur, .bool s.lk, .bool s.ins], .agg #[.int .i64 kind, .int .u8 (c : Int)]] w fun e w' => ShownK w w' s false 1 (-1) e := by
  have HP := Lib.hid (show 0 < s.cs.length by obtain ⟨_, _, h3, h4, _⟩ := sright_parts hr; omega)
  have HA3 := heap_alloc3 w (.cells #[.int .i64 s.rows, .int .i64 s.cols, .slice ad s.cs.length k, .int .i64 s.cur, .bool s.lk, .bool s.ins] 24) (.cells #[.int .i64 kind, .int .u8 (c : Int)] 26) (.cells #[.int .i64 0, .int .i64 0, .slice none 0 0, .int .i64 0, .bool false, .bool false] 24)
  have HB := Lib.hid (kept_trans (kept_trans (al_any w (.cells #[.int .i64 s.rows, .int .i64 s.cols, .slice ad s.cs.length k, .int .i64 s.cur, .bool s.lk, .bool s.ins] 24)) (al_any _ (.cells #[.int .i64 kind, .int .u8 (c : Int)] 26))) (al_any _ (.cells #[.int .i64 0, .int .i64 0, .slice none 0 0, .int .i64 0, .bool false, .bool false] 24)))
  have HX := Lib.hid HA3.1
  have HY := Lib.hid HA3.2.1
  have HZ := Lib.hid HA3.2.2
  have HH := Lib.hid h
  have e1 : (kind == 1) = false := by simp; omega
  have e10 : (kind == 10) = false := by simp; omega
  have e11 : (kind == 11) = false := by simp; omega
  have e16 : (kind == 16) = false := by simp; omega
  have e15 : (kind == 15) = false := by simp; omega
  have e17 : (kind == 17) = false := by simp; omega
  have e15' : (kind != 15) = true := by simp; omega
  have e17' : (kind != 17) = true := by simp; omega
  have hk1 : ¬ 2 ≤ kind := by omega
  have hk2 : ¬ 12 ≤ kind := by omega
  clear hm
  have Q := Lib.hid fun W (hb : Below w.heap.size w W) => rcopy_any s ad k W (HH.out.below hb) (by omega)
  simp only [Copied] at Q
  clear h hr hl HA3
  go_enter Tryz.func11, Tryz.ntmps11
  go_upto_region 1 with (fail)
  generalize ((w.alloc _).alloc _).alloc _ = w1 at *
  have hzx := Lib.hid (there_lt HZ.out)
  obtain ⟨c0, c1, c2, c3, c4, c5⟩ := cells6 HX.out
  obtain ⟨y0, y1⟩ := cells2 HY.out
  go_wp2_with fail
  with_reducible refine (Q.out _ HB.out).mono ?_
  rintro e w2 ⟨va, vc, rfl, ho, hb⟩
  have hc := ho.to
  clear ho
  clear c0 c1 c2 c3 c4 c5 y0 y1 Q
  have HA := al_any w2 (.cells #[.int .i64 s.rows, .int .i64 s.cols, .slice va s.cs.length vc, .int .i64 s.cur, .bool s.lk, .bool s.ins] 24)
  have HN := Lib.hid (show w.heap.size + 2 < w2.heap.size from Nat.lt_of_lt_of_le hzx.out hb.size)
  have B3 := Lib.hid (heap_alloc_new w2 (.cells #[.int .i64 s.rows, .int .i64 s.cols, .slice va s.cs.length vc, .int .i64 s.cur, .bool s.lk, .bool s.ins] 24))
  have C3 := Lib.hid (hc.below HA)
  replace hb := kept_trans hb HA
  have X3 := Lib.hid (blk HX.out hb)
  have Y3 := Lib.hid (blk HY.out hb)
  have Z3 := Lib.hid (blk HZ.out hb)
  have K3 := kept_hid HB hb
  have I3 := Lib.hid (HH.out.below K3.out)
  clear HA hc hb HX HY HZ HB hzx
  go_upto_region 20 with (fail)
  generalize w2.heap.size = N at *
  generalize w2.alloc _ = w3 at *
  obtain ⟨y0, y1⟩ := cells2 Y3.out
  obtain ⟨c0, c1, c2, c3, c4, c5⟩ := cells6 X3.out
  obtain ⟨f0, f1, f2, f3, f4, f5⟩ := free6 Z3.out
  obtain ⟨z0, z1, z2, z3, z4, z5⟩ := cells6 Z3.out
  have SF := Lib.hid (over6 w3 (w.heap.size + 2) _ _ _ _ _ _ _ (.int .i64 s.rows) (.int .i64 s.cols) (.slice ad s.cs.length k) (.int .i64 s.cur) (.bool s.lk) (.bool s.ins) Z3.out)
  go_wp2_with fail
  clear z0 z1 z2 z3 z4 z5 f0 f1 f2 f3 f4 f5
  generalize (((((w3.setCell _ _).setCell _ _).setCell _ _).setCell _ _).setCell _ _).setCell _ _ = w9 at *
  exact bodyPost_ret (v := .tuple #[.agg #[.int .i64 s.rows, .int .i64 s.cols, .slice ad s.cs.length k, .int .i64 s.cur, .bool s.lk, .bool s.ins], .bool false, .int .i64 1, .int .i64 (-1)]) (results_cell_3 rfl _ _ _ (w.heap.size + 2) _ rfl (run_loadVar_row w9 (w.heap.size + 2) 24 24 _ (0, 0) _ SF.out.1 Tryz.underlying24 rfl (by kernel_rfl)) (.bool false) (.int .i64 1) (.int .i64 (-1)) rfl rfl rfl) rfl ⟨ad, k, rfl, celsIn_away I3.out SF.out.2 (fun y hy => (not_screen I3.out HP.out Z3.out y hy).1), below_grown K3.out SF.out.2 (by omega)⟩
set_option maxRecDepth 100000 in
set_option maxHeartbeats 8000000 in
theorem rdo_hi (s : S) (ad : Option Addr) (k c : Nat) (kind : Int) (w : World) (h : CelsIn w (.slice ad s.cs.length k) s.cs) (hr : sright s = true) (hl : s.cs.length < 10000) (hm : 17 < kind) :
    Calls Tryz.prog 11 #[.agg #[.int .i64 s.rows, .int .i64 s.cols, .slice ad s.cs.length k, .int .i64 s.cur, .bool s.lk, .bool s.ins], .agg #[.int .i64 kind, .int .u8 (c : Int)]] w fun e w' => ShownK w w' s false 1 (-1) e := by
  have HP := Lib.hid (show 0 < s.cs.length by obtain ⟨_, _, h3, h4, _⟩ := sright_parts hr; omega)
  have HA3 := heap_alloc3 w (.cells #[.int .i64 s.rows, .int .i64 s.cols, .slice ad s.cs.length k, .int .i64 s.cur, .bool s.lk, .bool s.ins] 24) (.cells #[.int .i64 kind, .int .u8 (c : Int)] 26) (.cells #[.int .i64 0, .int .i64 0, .slice none 0 0, .int .i64 0, .bool false, .bool false] 24)
  have HB := Lib.hid (kept_trans (kept_trans (al_any w (.cells #[.int .i64 s.rows, .int .i64 s.cols, .slice ad s.cs.length k, .int .i64 s.cur, .bool s.lk, .bool s.ins] 24)) (al_any _ (.cells #[.int .i64 kind, .int .u8 (c : Int)] 26))) (al_any _ (.cells #[.int .i64 0, .int .i64 0, .slice none 0 0, .int .i64 0, .bool false, .bool false] 24)))
  have HX := Lib.hid HA3.1
  have HY := Lib.hid HA3.2.1
  have HZ := Lib.hid HA3.2.2
  have HH := Lib.hid h
  have e1 : (kind == 1) = false := by simp; omega
  have e10 : (kind == 10) = false := by simp; omega
  have e11 : (kind == 11) = false := by simp; omega
  have e16 : (kind == 16) = false := by simp; omega
  have e15 : (kind == 15) = false := by simp; omega
  have e17 : (kind == 17) = false := by simp; omega
  have e15' : (kind != 15) = true := by simp; omega
  have e17' : (kind != 17) = true := by simp; omega
  have hk1 : 2 ≤ kind := by omega
  have hk2 : 12 ≤ kind := by omega
  have hk3 : ¬ kind ≤ 9 := by omega
  have hk4 : ¬ kind ≤ 14 := by omega
  clear hm
  have Q := Lib.hid fun W (hb : Below w.heap.size w W) => rcopy_any s ad k W (HH.out.below hb) (by omega)
  simp only [Copied] at Q
  clear h hr hl HA3
  go_enter Tryz.func11, Tryz.ntmps11
  go_upto_region 1 with (fail)
  generalize ((w.alloc _).alloc _).alloc _ = w1 at *
  have hzx := Lib.hid (there_lt HZ.out)
  obtain ⟨c0, c1, c2, c3, c4, c5⟩ := cells6 HX.out
  obtain ⟨y0, y1⟩ := cells2 HY.out
  go_wp2_with fail
  with_reducible refine (Q.out _ HB.out).mono ?_
  rintro e w2 ⟨va, vc, rfl, ho, hb⟩
  have hc := ho.to
  clear ho
  clear c0 c1 c2 c3 c4 c5 y0 y1 Q
  have HA := al_any w2 (.cells #[.int .i64 s.rows, .int .i64 s.cols, .slice va s.cs.length vc, .int .i64 s.cur, .bool s.lk, .bool s.ins] 24)
  have HN := Lib.hid (show w.heap.size + 2 < w2.heap.size from Nat.lt_of_lt_of_le hzx.out hb.size)
  have B3 := Lib.hid (heap_alloc_new w2 (.cells #[.int .i64 s.rows, .int .i64 s.cols, .slice va s.cs.length vc, .int .i64 s.cur, .bool s.lk, .bool s.ins] 24))
  have C3 := Lib.hid (hc.below HA)
  replace hb := kept_trans hb HA
  have X3 := Lib.hid (blk HX.out hb)
  have Y3 := Lib.hid (blk HY.out hb)
  have Z3 := Lib.hid (blk HZ.out hb)
  have K3 := kept_hid HB hb
  have I3 := Lib.hid (HH.out.below K3.out)
  clear HA hc hb HX HY HZ HB hzx
  go_upto_region 20 with (fail)
  generalize w2.heap.size = N at *
  generalize w2.alloc _ = w3 at *
  obtain ⟨y0, y1⟩ := cells2 Y3.out
  obtain ⟨c0, c1, c2, c3, c4, c5⟩ := cells6 X3.out
  obtain ⟨f0, f1, f2, f3, f4, f5⟩ := free6 Z3.out
  obtain ⟨z0, z1, z2, z3, z4, z5⟩ := cells6 Z3.out
  have SF := Lib.hid (over6 w3 (w.heap.size + 2) _ _ _ _ _ _ _ (.int .i64 s.rows) (.int .i64 s.cols) (.slice ad s.cs.length k) (.int .i64 s.cur) (.bool s.lk) (.bool s.ins) Z3.out)
  go_wp2_with fail
  clear z0 z1 z2 z3 z4 z5 f0 f1 f2 f3 f4 f5
  generalize (((((w3.setCell _ _).setCell _ _).setCell _ _).setCell _ _).setCell _ _).setCell _ _ = w9 at *
  exact bodyPost_ret (v := .tuple #[.agg #[.int .i64 s.rows, .int .i64 s.cols, .slice ad s.cs.length k, .int .i64 s.cur, .bool s.lk, .bool s.ins], .bool false, .int .i64 1, .int .i64 (-1)]) (results_cell_3 rfl _ _ _ (w.heap.size + 2) _ rfl (run_loadVar_row w9 (w.heap.size + 2) 24 24 _ (0, 0) _ SF.out.1 Tryz.underlying24 rfl (by kernel_rfl)) (.bool false) (.int .i64 1) (.int .i64 (-1)) rfl rfl rfl) rfl ⟨ad, k, rfl, celsIn_away I3.out SF.out.2 (fun y hy => (not_screen I3.out HP.out Z3.out y hy).1), below_grown K3.out SF.out.2 (by omega)⟩
set_option maxRecDepth 100000 in
set_option maxHeartbeats 8000000 in
theorem rdo_17a (s : S) (ad : Option Addr) (k c : Nat) (w : World) (h : CelsIn w (.slice ad s.cs.length k) s.cs) (hr : sright s = true) (hl : s.cs.length < 10000) (hc8 : c < 256) (ha : Att.aid c = false) :
    Calls Tryz.prog 11 #[.agg #[.int .i64 s.rows, .int .i64 s.cols, .slice ad s.cs.length k, .int .i64 s.cur, .bool s.lk, .bool s.ins], .agg #[.int .i64 17, .int .u8 (c : Int)]] w fun e w' => ShownK w w' s false 3 (-1) e := by
  have HP := Lib.hid (show 0 < s.cs.length by obtain ⟨_, _, h3, h4, _⟩ := sright_parts hr; omega)
  have HA3 := heap_alloc3 w (.cells #[.int .i64 s.rows, .int .i64 s.cols, .slice ad s.cs.length k, .int .i64 s.cur, .bool s.lk, .bool s.ins] 24) (.cells #[.int .i64 17, .int .u8 (c : Int)] 26) (.cells #[.int .i64 0, .int .i64 0, .slice none 0 0, .int .i64 0, .bool false, .bool false] 24)
  have HB := Lib.hid (kept_trans (kept_trans (al_any w (.cells #[.int .i64 s.rows, .int .i64 s.cols, .slice ad s.cs.length k, .int .i64 s.cur, .bool s.lk, .bool s.ins] 24)) (al_any _ (.cells #[.int .i64 17, .int .u8 (c : Int)] 26))) (al_any _ (.cells #[.int .i64 0, .int .i64 0, .slice none 0 0, .int .i64 0, .bool false, .bool false] 24)))
  have HX := Lib.hid HA3.1
  have HY := Lib.hid HA3.2.1
  have HZ := Lib.hid HA3.2.2
  have HH := Lib.hid h
  have HAI := Lib.hid fun W => raid_any c W hc8
  rw [show Att.aid c = false from ha] at HAI
  have Q := Lib.hid fun W (hb : Below w.heap.size w W) => rcopy_any s ad k W (HH.out.below hb) (by omega)
  simp only [Copied] at Q
  clear h hr hl HA3
  go_enter Tryz.func11, Tryz.ntmps11
  go_upto_region 1 with (fail)
  generalize ((w.alloc _).alloc _).alloc _ = w1 at *
  have hzx := Lib.hid (there_lt HZ.out)
  obtain ⟨c0, c1, c2, c3, c4, c5⟩ := cells6 HX.out
  obtain ⟨y0, y1⟩ := cells2 HY.out
  go_wp2_with fail
  with_reducible refine (Q.out _ HB.out).mono ?_
  rintro e w2 ⟨va, vc, rfl, ho, hb⟩
  have hc := ho.to
  clear ho
  clear c0 c1 c2 c3 c4 c5 y0 y1 Q
  have HA := al_any w2 (.cells #[.int .i64 s.rows, .int .i64 s.cols, .slice va s.cs.length vc, .int .i64 s.cur, .bool s.lk, .bool s.ins] 24)
  have HN := Lib.hid (show w.heap.size + 2 < w2.heap.size from Nat.lt_of_lt_of_le hzx.out hb.size)
  have B3 := Lib.hid (heap_alloc_new w2 (.cells #[.int .i64 s.rows, .int .i64 s.cols, .slice va s.cs.length vc, .int .i64 s.cur, .bool s.lk, .bool s.ins] 24))
  have C3 := Lib.hid (hc.below HA)
  replace hb := kept_trans hb HA
  have X3 := Lib.hid (blk HX.out hb)
  have Y3 := Lib.hid (blk HY.out hb)
  have Z3 := Lib.hid (blk HZ.out hb)
  have K3 := kept_hid HB hb
  have I3 := Lib.hid (HH.out.below K3.out)
  clear HA hc hb HX HY HZ HB hzx
  go_upto_region 20 with (fail)
  generalize w2.heap.size = N at *
  generalize w2.alloc _ = w3 at *
  obtain ⟨y0, y1⟩ := cells2 Y3.out
  obtain ⟨c0, c1, c2, c3, c4, c5⟩ := cells6 X3.out
  go_wp2_with fail
  with_reducible refine (HAI.out _).mono ?_
  rintro e w4 ⟨rfl, rfl⟩
  obtain ⟨f0, f1, f2, f3, f4, f5⟩ := free6 Z3.out
  obtain ⟨z0, z1, z2, z3, z4, z5⟩ := cells6 Z3.out
  have SF := Lib.hid (over6 w3 (w.heap.size + 2) _ _ _ _ _ _ _ (.int .i64 s.rows) (.int .i64 s.cols) (.slice ad s.cs.length k) (.int .i64 s.cur) (.bool s.lk) (.bool s.ins) Z3.out)
  go_wp2_with fail
  clear z0 z1 z2 z3 z4 z5 f0 f1 f2 f3 f4 f5
  generalize (((((w3.setCell _ _).setCell _ _).setCell _ _).setCell _ _).setCell _ _).setCell _ _ = w9 at *
  exact bodyPost_ret (v := .tuple #[.agg #[.int .i64 s.rows, .int .i64 s.cols, .slice ad s.cs.length k, .int .i64 s.cur, .bool s.lk, .bool s.ins], .bool false, .int .i64 3, .int .i64 (-1)]) (results_cell_3 rfl _ _ _ (w.heap.size + 2) _ rfl (run_loadVar_row w9 (w.heap.size + 2) 24 24 _ (0, 0) _ SF.out.1 Tryz.underlying24 rfl (by kernel_rfl)) (.bool false) (.int .i64 3) (.int .i64 (-1)) rfl rfl rfl) rfl ⟨ad, k, rfl, celsIn_away I3.out SF.out.2 (fun y hy => (not_screen I3.out HP.out Z3.out y hy).1), below_grown K3.out SF.out.2 (by omega)⟩
set_option maxRecDepth 100000 in
set_option maxHeartbeats 8000000 in
theorem rdo_17l (s : S) (ad : Option Addr) (k c : Nat) (w : World) (h : CelsIn w (.slice ad s.cs.length k) s.cs) (hr : sright s = true) (hl : s.cs.length < 10000) (hc8 : c < 256) (ha : Att.aid c = true) (hlk : s.lk = true) :
    Calls Tryz.prog 11 #[.agg #[.int .i64 s.rows, .int .i64 s.cols, .slice ad s.cs.length k, .int .i64 s.cur, .bool s.lk, .bool s.ins], .agg #[.int .i64 17, .int .u8 (c : Int)]] w fun e w' => ShownK w w' s false 7 (-1) e := by
  obtain ⟨r, cc, cs, cur, lk, ins⟩ := s
  simp only at *
  subst hlk
  have HP := Lib.hid (show 0 < cs.length by obtain ⟨_, _, h3, h4, _⟩ := sright_parts hr; simp only at h3 h4; omega)
  have HA3 := heap_alloc3 w (.cells #[.int .i64 r, .int .i64 cc, .slice ad cs.length k, .int .i64 cur, .bool true, .bool ins] 24) (.cells #[.int .i64 17, .int .u8 (c : Int)] 26) (.cells #[.int .i64 0, .int .i64 0, .slice none 0 0, .int .i64 0, .bool false, .bool false] 24)
  have HB := Lib.hid (kept_trans (kept_trans (al_any w (.cells #[.int .i64 r, .int .i64 cc, .slice ad cs.length k, .int .i64 cur, .bool true, .bool ins] 24)) (al_any _ (.cells #[.int .i64 17, .int .u8 (c : Int)] 26))) (al_any _ (.cells #[.int .i64 0, .int .i64 0, .slice none 0 0, .int .i64 0, .bool false, .bool false] 24)))
  have HX := Lib.hid HA3.1
  have HY := Lib.hid HA3.2.1
  have HZ := Lib.hid HA3.2.2
  have HH := Lib.hid h
  have HAI := Lib.hid fun W => raid_any c W hc8
  rw [show Att.aid c = true from ha] at HAI
  have Q := Lib.hid fun W (hb : Below w.heap.size w W) => rcopy_any (⟨r, cc, cs, cur, true, ins⟩ : S) ad k W (HH.out.below hb) (by simp only; omega)
  simp only [Copied] at Q
  clear h hr hl HA3
  go_enter Tryz.func11, Tryz.ntmps11
  go_upto_region 1 with (fail)
  generalize ((w.alloc _).alloc _).alloc _ = w1 at *
  have hzx := Lib.hid (there_lt HZ.out)
  obtain ⟨c0, c1, c2, c3, c4, c5⟩ := cells6 HX.out
  obtain ⟨y0, y1⟩ := cells2 HY.out
  go_wp2_with fail
  with_reducible refine (Q.out _ HB.out).mono ?_
  rintro e w2 ⟨va, vc, rfl, ho, hb⟩
  have hc := ho.to
  clear ho
  clear c0 c1 c2 c3 c4 c5 y0 y1 Q
  have HA := al_any w2 (.cells #[.int .i64 r, .int .i64 cc, .slice va cs.length vc, .int .i64 cur, .bool true, .bool ins] 24)
  have HN := Lib.hid (show w.heap.size + 2 < w2.heap.size from Nat.lt_of_lt_of_le hzx.out hb.size)
  have B3 := Lib.hid (heap_alloc_new w2 (.cells #[.int .i64 r, .int .i64 cc, .slice va cs.length vc, .int .i64 cur, .bool true, .bool ins] 24))
  have C3 := Lib.hid (hc.below HA)
  replace hb := kept_trans hb HA
  have X3 := Lib.hid (blk HX.out hb)
  have Y3 := Lib.hid (blk HY.out hb)
  have Z3 := Lib.hid (blk HZ.out hb)
  have K3 := kept_hid HB hb
  have I3 := Lib.hid (HH.out.below K3.out)
  clear HA hc hb HX HY HZ HB hzx
  go_upto_region 20 with (fail)
  generalize w2.heap.size = N at *
  generalize w2.alloc _ = w3 at *
  obtain ⟨y0, y1⟩ := cells2 Y3.out
  obtain ⟨c0, c1, c2, c3, c4, c5⟩ := cells6 X3.out
  go_wp2_with fail
  with_reducible refine (HAI.out _).mono ?_
  rintro e w4 ⟨rfl, rfl⟩
  obtain ⟨f0, f1, f2, f3, f4, f5⟩ := free6 Z3.out
  obtain ⟨z0, z1, z2, z3, z4, z5⟩ := cells6 Z3.out
  have SF := Lib.hid (over6 w3 (w.heap.size + 2) _ _ _ _ _ _ _ (.int .i64 r) (.int .i64 cc) (.slice ad cs.length k) (.int .i64 cur) (.bool true) (.bool ins) Z3.out)
  go_wp2_with fail
  clear z0 z1 z2 z3 z4 z5 f0 f1 f2 f3 f4 f5
  generalize (((((w3.setCell _ _).setCell _ _).setCell _ _).setCell _ _).setCell _ _).setCell _ _ = w9 at *
  exact bodyPost_ret (v := .tuple #[.agg #[.int .i64 r, .int .i64 cc, .slice ad cs.length k, .int .i64 cur, .bool true, .bool ins], .bool false, .int .i64 7, .int .i64 (-1)]) (results_cell_3 rfl _ _ _ (w.heap.size + 2) _ rfl (run_loadVar_row w9 (w.heap.size + 2) 24 24 _ (0, 0) _ SF.out.1 Tryz.underlying24 rfl (by kernel_rfl)) (.bool false) (.int .i64 7) (.int .i64 (-1)) rfl rfl rfl) rfl ⟨ad, k, rfl, celsIn_away I3.out SF.out.2 (fun y hy => (not_screen I3.out HP.out Z3.out y hy).1), below_grown K3.out SF.out.2 (by omega)⟩
set_option maxRecDepth 100000 in
set_option maxHeartbeats 8000000 in
theorem rdo_15l (s : S) (ad : Option Addr) (k c : Nat) (w : World) (h : CelsIn w (.slice ad s.cs.length k) s.cs) (hr : sright s = true) (hl : s.cs.length < 10000) (hlk : s.lk = true) :
    Calls Tryz.prog 11 #[.agg #[.int .i64 s.rows, .int .i64 s.cols, .slice ad s.cs.length k, .int .i64 s.cur, .bool s.lk, .bool s.ins], .agg #[.int .i64 15, .int .u8 (c : Int)]] w fun e w' => ShownK w w' s false 7 (-1) e := by
  obtain ⟨r, cc, cs, cur, lk, ins⟩ := s
  simp only at *
  subst hlk
  have HP := Lib.hid (show 0 < cs.length by obtain ⟨_, _, h3, h4, _⟩ := sright_parts hr; simp only at h3 h4; omega)
  have HA3 := heap_alloc3 w (.cells #[.int .i64 r, .int .i64 cc, .slice ad cs.length k, .int .i64 cur, .bool true, .bool ins] 24) (.cells #[.int .i64 15, .int .u8 (c : Int)] 26) (.cells #[.int .i64 0, .int .i64 0, .slice none 0 0, .int .i64 0, .bool false, .bool false] 24)
  have HB := Lib.hid (kept_trans (kept_trans (al_any w (.cells #[.int .i64 r, .int .i64 cc, .slice ad cs.length k, .int .i64 cur, .bool true, .bool ins] 24)) (al_any _ (.cells #[.int .i64 15, .int .u8 (c : Int)] 26))) (al_any _ (.cells #[.int .i64 0, .int .i64 0, .slice none 0 0, .int .i64 0, .bool false, .bool false] 24)))
  have HX := Lib.hid HA3.1
  have HY := Lib.hid HA3.2.1
  have HZ := Lib.hid HA3.2.2
  have HH := Lib.hid h
  have Q := Lib.hid fun W (hb : Below w.heap.size w W) => rcopy_any (⟨r, cc, cs, cur, true, ins⟩ : S) ad k W (HH.out.below hb) (by simp only; omega)
  simp only [Copied] at Q
  clear h hr hl HA3
  go_enter Tryz.func11, Tryz.ntmps11
  go_upto_region 1 with (fail)
  generalize ((w.alloc _).alloc _).alloc _ = w1 at *
  have hzx := Lib.hid (there_lt HZ.out)
  obtain ⟨c0, c1, c2, c3, c4, c5⟩ := cells6 HX.out
  obtain ⟨y0, y1⟩ := cells2 HY.out
  go_wp2_with fail
  with_reducible refine (Q.out _ HB.out).mono ?_
  rintro e w2 ⟨va, vc, rfl, ho, hb⟩
  have hc := ho.to
  clear ho
  clear c0 c1 c2 c3 c4 c5 y0 y1 Q
  have HA := al_any w2 (.cells #[.int .i64 r, .int .i64 cc, .slice va cs.length vc, .int .i64 cur, .bool true, .bool ins] 24)
  have HN := Lib.hid (show w.heap.size + 2 < w2.heap.size from Nat.lt_of_lt_of_le hzx.out hb.size)
  have B3 := Lib.hid (heap_alloc_new w2 (.cells #[.int .i64 r, .int .i64 cc, .slice va cs.length vc, .int .i64 cur, .bool true, .bool ins] 24))
  have C3 := Lib.hid (hc.below HA)
  replace hb := kept_trans hb HA
  have X3 := Lib.hid (blk HX.out hb)
  have Y3 := Lib.hid (blk HY.out hb)
  have Z3 := Lib.hid (blk HZ.out hb)
  have K3 := kept_hid HB hb
  have I3 := Lib.hid (HH.out.below K3.out)
  clear HA hc hb HX HY HZ HB hzx
  go_upto_region 20 with (fail)
  generalize w2.heap.size = N at *
  generalize w2.alloc _ = w3 at *
  obtain ⟨y0, y1⟩ := cells2 Y3.out
  obtain ⟨c0, c1, c2, c3, c4, c5⟩ := cells6 X3.out
  obtain ⟨f0, f1, f2, f3, f4, f5⟩ := free6 Z3.out
  obtain ⟨z0, z1, z2, z3, z4, z5⟩ := cells6 Z3.out
  have SF := Lib.hid (over6 w3 (w.heap.size + 2) _ _ _ _ _ _ _ (.int .i64 r) (.int .i64 cc) (.slice ad cs.length k) (.int .i64 cur) (.bool true) (.bool ins) Z3.out)
  go_wp2_with fail
  clear z0 z1 z2 z3 z4 z5 f0 f1 f2 f3 f4 f5
  generalize (((((w3.setCell _ _).setCell _ _).setCell _ _).setCell _ _).setCell _ _).setCell _ _ = w9 at *
  exact bodyPost_ret (v := .tuple #[.agg #[.int .i64 r, .int .i64 cc, .slice ad cs.length k, .int .i64 cur, .bool true, .bool ins], .bool false, .int .i64 7, .int .i64 (-1)]) (results_cell_3 rfl _ _ _ (w.heap.size + 2) _ rfl (run_loadVar_row w9 (w.heap.size + 2) 24 24 _ (0, 0) _ SF.out.1 Tryz.underlying24 rfl (by kernel_rfl)) (.bool false) (.int .i64 7) (.int .i64 (-1)) rfl rfl rfl) rfl ⟨ad, k, rfl, celsIn_away I3.out SF.out.2 (fun y hy => (not_screen I3.out HP.out Z3.out y hy).1), below_grown K3.out SF.out.2 (by omega)⟩
set_option maxRecDepth 100000 in
set_option maxHeartbeats 8000000 in
theorem rdo_15 (s : S) (ad : Option Addr) (k c : Nat) (w : World) (h : CelsIn w (.slice ad s.cs.length k) s.cs) (hr : sright s = true) (hl : s.cs.length < 10000) (hlk : s.lk = false) :
    Calls Tryz.prog 11 #[.agg #[.int .i64 s.rows, .int .i64 s.cols, .slice ad s.cs.length k, .int .i64 s.cur, .bool s.lk, .bool s.ins], .agg #[.int .i64 15, .int .u8 (c : Int)]] w fun e w' => ShownK w w' ⟨s.rows, s.cols, s.cs, s.cur, false, true⟩ false 0 (-1) e := by
  obtain ⟨r, cc, cs, cur, lk, ins⟩ := s
  simp only at *
  subst hlk
  have HP := Lib.hid (show 0 < cs.length by obtain ⟨_, _, h3, h4, _⟩ := sright_parts hr; simp only at h3 h4; omega)
  have HA3 := heap_alloc3 w (.cells #[.int .i64 r, .int .i64 cc, .slice ad cs.length k, .int .i64 cur, .bool false, .bool ins] 24) (.cells #[.int .i64 15, .int .u8 (c : Int)] 26) (.cells #[.int .i64 0, .int .i64 0, .slice none 0 0, .int .i64 0, .bool false, .bool false] 24)
  have HB := Lib.hid (kept_trans (kept_trans (al_any w (.cells #[.int .i64 r, .int .i64 cc, .slice ad cs.length k, .int .i64 cur, .bool false, .bool ins] 24)) (al_any _ (.cells #[.int .i64 15, .int .u8 (c : Int)] 26))) (al_any _ (.cells #[.int .i64 0, .int .i64 0, .slice none 0 0, .int .i64 0, .bool false, .bool false] 24)))
  have HX := Lib.hid HA3.1
  have HY := Lib.hid HA3.2.1
  have HZ := Lib.hid HA3.2.2
  have HH := Lib.hid h
  have Q := Lib.hid fun W (hb : Below w.heap.size w W) => rcopy_any (⟨r, cc, cs, cur, false, ins⟩ : S) ad k W (HH.out.below hb) (by simp only; omega)
  simp only [Copied] at Q
  clear h hr hl HA3
  go_enter Tryz.func11, Tryz.ntmps11
  go_upto_region 1 with (fail)
  generalize ((w.alloc _).alloc _).alloc _ = w1 at *
  have hzx := Lib.hid (there_lt HZ.out)
  obtain ⟨c0, c1, c2, c3, c4, c5⟩ := cells6 HX.out
  obtain ⟨y0, y1⟩ := cells2 HY.out
  go_wp2_with fail
  with_reducible refine (Q.out _ HB.out).mono ?_
  rintro e w2 ⟨va, vc, rfl, ho, hb⟩
  have hc := ho.to
  clear ho
  clear c0 c1 c2 c3 c4 c5 y0 y1 Q
  have HA := al_any w2 (.cells #[.int .i64 r, .int .i64 cc, .slice va cs.length vc, .int .i64 cur, .bool false, .bool ins] 24)
  have HN := Lib.hid (show w.heap.size + 2 < w2.heap.size from Nat.lt_of_lt_of_le hzx.out hb.size)
  have B3 := Lib.hid (heap_alloc_new w2 (.cells #[.int .i64 r, .int .i64 cc, .slice va cs.length vc, .int .i64 cur, .bool false, .bool ins] 24))
  have C3 := Lib.hid (hc.below HA)
  replace hb := kept_trans hb HA
  have X3 := Lib.hid (blk HX.out hb)
  have Y3 := Lib.hid (blk HY.out hb)
  have Z3 := Lib.hid (blk HZ.out hb)
  have K3 := kept_hid HB hb
  clear HA hc hb HX HY HZ HB hzx
  go_upto_region 20 with (fail)
  generalize w2.heap.size = N at *
  generalize w2.alloc _ = w3 at *
  obtain ⟨y0, y1⟩ := cells2 Y3.out
  obtain ⟨c0, c1, c2, c3, c4, c5⟩ := cells6 X3.out
  go_upto_region 31 with (fail)
  have SO := gsetCell w3 N 5 (.bool true)
  have B4 := Lib.hid (heap_setCell_same w3 N 5 _ 24 (.bool true) B3.out)
  have Z4 := Lib.hid (blk_g Z3.out SO (by intro e; injection e with e; have := HN.out; omega))
  have C4 := Lib.hid (celsIn_away C3.out SO (fun y hy => (not_screen C3.out HP.out B3.out y hy).1))
  have K4 := Lib.hid (below_grown K3.out SO (by have := HN.out; omega))
  clear SO
  obtain ⟨b0, b1, b2, b3, b4, b5⟩ := cells6 B3.out
  obtain ⟨f0, f1, f2, f3, f4, f5⟩ := free6 B3.out
  go_upto_region 32 with (fail)
  clear b0 b1 b2 b3 b4 b5 f0 f1 f2 f3 f4 f5 B3 Z3 C3 K3
  generalize w3.setCell _ _ = w4 at *
  obtain ⟨a0, a1, a2, a3, a4, a5⟩ := cells6 B4.out
  obtain ⟨f0, f1, f2, f3, f4, f5⟩ := free6 Z4.out
  obtain ⟨z0, z1, z2, z3, z4, z5⟩ := cells6 Z4.out
  have SF := Lib.hid (over6 w4 (w.heap.size + 2) _ _ _ _ _ _ _ (.int .i64 r) (.int .i64 cc) (.slice va cs.length vc) (.int .i64 cur) (.bool false) (.bool true) Z4.out)
  go_wp2_with fail
  clear z0 z1 z2 z3 z4 z5 f0 f1 f2 f3 f4 f5 a0 a1 a2 a3 a4 a5
  generalize (((((w4.setCell _ _).setCell _ _).setCell _ _).setCell _ _).setCell _ _).setCell _ _ = w9 at *
  exact bodyPost_ret (v := .tuple #[.agg #[.int .i64 r, .int .i64 cc, .slice va cs.length vc, .int .i64 cur, .bool false, .bool true], .bool false, .int .i64 0, .int .i64 (-1)]) (results_cell_3 rfl _ _ _ (w.heap.size + 2) _ rfl (run_loadVar_row w9 (w.heap.size + 2) 24 24 _ (0, 0) _ SF.out.1 Tryz.underlying24 rfl (by kernel_rfl)) (.bool false) (.int .i64 0) (.int .i64 (-1)) rfl rfl rfl) rfl ⟨va, vc, rfl, celsIn_away C4.out SF.out.2 (fun y hy => (not_screen C4.out HP.out Z4.out y hy).1), below_grown K4.out SF.out.2 (by omega)⟩
set_option maxRecDepth 100000 in
set_option maxHeartbeats 8000000 in
theorem rdo_17n (s : S) (ad : Option Addr) (k c : Nat) (w : World) (h : CelsIn w (.slice ad s.cs.length k) s.cs) (hr : sright s = true) (hl : s.cs.length < 10000) (hc8 : c < 256) (ha : Att.aid c = true) (hlk : s.lk = false) (hc : c ≠ 109) :
    Calls Tryz.prog 11 #[.agg #[.int .i64 s.rows, .int .i64 s.cols, .slice ad s.cs.length k, .int .i64 s.cur, .bool s.lk, .bool s.ins], .agg #[.int .i64 17, .int .u8 (c : Int)]] w fun e w' => ShownK w w' (asked s c) true 0 (-1) e := by
  obtain ⟨r, cc, cs, cur, lk, ins⟩ := s
  simp only at *
  subst hlk
  have HP := Lib.hid (show 0 < cs.length by obtain ⟨_, _, h3, h4, _⟩ := sright_parts hr; simp only at h3 h4; omega)
  have HA3 := heap_alloc3 w (.cells #[.int .i64 r, .int .i64 cc, .slice ad cs.length k, .int .i64 cur, .bool false, .bool ins] 24) (.cells #[.int .i64 17, .int .u8 (c : Int)] 26) (.cells #[.int .i64 0, .int .i64 0, .slice none 0 0, .int .i64 0, .bool false, .bool false] 24)
  have HB := Lib.hid (kept_trans (kept_trans (al_any w (.cells #[.int .i64 r, .int .i64 cc, .slice ad cs.length k, .int .i64 cur, .bool false, .bool ins] 24)) (al_any _ (.cells #[.int .i64 17, .int .u8 (c : Int)] 26))) (al_any _ (.cells #[.int .i64 0, .int .i64 0, .slice none 0 0, .int .i64 0, .bool false, .bool false] 24)))
  have HX := Lib.hid HA3.1
  have HY := Lib.hid HA3.2.1
  have HZ := Lib.hid HA3.2.2
  have HH := Lib.hid h
  have e109 : ((c : Int) == 109) = false := by simp; omega
  have HAS := Lib.hid (show asked (⟨r, cc, cs, cur, false, ins⟩ : S) c = ⟨r, cc, cs, cur, true, false⟩ from by unfold asked; rw [if_neg hc, if_neg hc])
  clear hc
  have HAI := Lib.hid fun W => raid_any c W hc8
  rw [show Att.aid c = true from ha] at HAI
  have Q := Lib.hid fun W (hb : Below w.heap.size w W) => rcopy_any (⟨r, cc, cs, cur, false, ins⟩ : S) ad k W (HH.out.below hb) (by simp only; omega)
  simp only [Copied] at Q
  clear h hr hl HA3
  go_enter Tryz.func11, Tryz.ntmps11
  go_upto_region 1 with (fail)
  generalize ((w.alloc _).alloc _).alloc _ = w1 at *
  have hzx := Lib.hid (there_lt HZ.out)
  obtain ⟨c0, c1, c2, c3, c4, c5⟩ := cells6 HX.out
  obtain ⟨y0, y1⟩ := cells2 HY.out
  go_wp2_with fail
  with_reducible refine (Q.out _ HB.out).mono ?_
  rintro e w2 ⟨va, vc, rfl, ho, hb⟩
  have hc := ho.to
  clear ho
  clear c0 c1 c2 c3 c4 c5 y0 y1 Q
  have HA := al_any w2 (.cells #[.int .i64 r, .int .i64 cc, .slice va cs.length vc, .int .i64 cur, .bool false, .bool ins] 24)
  have HN := Lib.hid (show w.heap.size + 2 < w2.heap.size from Nat.lt_of_lt_of_le hzx.out hb.size)
  have B3 := Lib.hid (heap_alloc_new w2 (.cells #[.int .i64 r, .int .i64 cc, .slice va cs.length vc, .int .i64 cur, .bool false, .bool ins] 24))
  have C3 := Lib.hid (hc.below HA)
  replace hb := kept_trans hb HA
  have X3 := Lib.hid (blk HX.out hb)
  have Y3 := Lib.hid (blk HY.out hb)
  have Z3 := Lib.hid (blk HZ.out hb)
  have K3 := kept_hid HB hb
  clear HA hc hb HX HY HZ HB hzx
  go_upto_region 20 with (fail)
  generalize w2.heap.size = N at *
  generalize w2.alloc _ = w3 at *
  obtain ⟨y0, y1⟩ := cells2 Y3.out
  obtain ⟨c0, c1, c2, c3, c4, c5⟩ := cells6 X3.out
  go_wp2_with fail
  with_reducible refine (HAI.out _).mono ?_
  rintro e w4 ⟨rfl, rfl⟩
  go_upto_region 33 with (fail)
  clear c0 c1 c2 c3 c4 c5 y0 y1
  have X3' := X3
  have SO := gsetCell w3 N 4 (.bool true)
  have B4 := Lib.hid (heap_setCell_same w3 N 4 _ 24 (.bool true) B3.out)
  have X4 := Lib.hid (blk_g X3.out SO (by intro e; injection e with e; have := HN.out; omega))
  have Y4 := Lib.hid (blk_g Y3.out SO (by intro e; injection e with e; have := HN.out; omega))
  have Z4 := Lib.hid (blk_g Z3.out SO (by intro e; injection e with e; have := HN.out; omega))
  have C4 := Lib.hid (celsIn_away C3.out SO (fun y hy => (not_screen C3.out HP.out B3.out y hy).1))
  have K4 := Lib.hid (below_grown K3.out SO (by have := HN.out; omega))
  clear SO
  obtain ⟨b0, b1, b2, b3, b4, b5⟩ := cells6 B3.out
  obtain ⟨f0, f1, f2, f3, f4, f5⟩ := free6 B3.out
  go_upto_region 34 with (fail)
  clear b0 b1 b2 b3 b4 b5 f0 f1 f2 f3 f4 f5 B3 Z3 C3 K3 X3 Y3 X3'
  generalize w3.setCell _ _ = w4 at *
  have SO := gsetCell w4 N 5 (.bool false)
  have B5 := Lib.hid (heap_setCell_same w4 N 5 _ 24 (.bool false) B4.out)
  have X5 := Lib.hid (blk_g X4.out SO (by intro e; injection e with e; have := HN.out; omega))
  have Y5 := Lib.hid (blk_g Y4.out SO (by intro e; injection e with e; have := HN.out; omega))
  have Z5 := Lib.hid (blk_g Z4.out SO (by intro e; injection e with e; have := HN.out; omega))
  have C5 := Lib.hid (celsIn_away C4.out SO (fun y hy => (not_screen C4.out HP.out B4.out y hy).1))
  have K5 := Lib.hid (below_grown K4.out SO (by have := HN.out; omega))
  clear SO
  obtain ⟨b0, b1, b2, b3, b4, b5⟩ := cells6 B4.out
  obtain ⟨f0, f1, f2, f3, f4, f5⟩ := free6 B4.out
  go_upto_region 35 with (fail)
  clear b0 b1 b2 b3 b4 b5 f0 f1 f2 f3 f4 f5 B4 Z4 C4 K4 X4 Y4
  generalize w4.setCell _ _ = w5 at *
  obtain ⟨y0, y1⟩ := cells2 Y5.out
  obtain ⟨a0, a1, a2, a3, a4, a5⟩ := cells6 B5.out
  obtain ⟨f0, f1, f2, f3, f4, f5⟩ := free6 Z5.out
  obtain ⟨z0, z1, z2, z3, z4, z5⟩ := cells6 Z5.out
  have SF := Lib.hid (over6 w5 (w.heap.size + 2) _ _ _ _ _ _ _ (.int .i64 r) (.int .i64 cc) (.slice va cs.length vc) (.int .i64 cur) (.bool true) (.bool false) Z5.out)
  go_wp2_with fail
  clear z0 z1 z2 z3 z4 z5 f0 f1 f2 f3 f4 f5 a0 a1 a2 a3 a4 a5
  generalize (((((w5.setCell _ _).setCell _ _).setCell _ _).setCell _ _).setCell _ _).setCell _ _ = w9 at *
  exact bodyPost_ret (v := .tuple #[.agg #[.int .i64 r, .int .i64 cc, .slice va cs.length vc, .int .i64 cur, .bool true, .bool false], .bool true, .int .i64 0, .int .i64 (-1)]) (results_cell_3 rfl _ _ _ (w.heap.size + 2) _ rfl (run_loadVar_row w9 (w.heap.size + 2) 24 24 _ (0, 0) _ SF.out.1 Tryz.underlying24 rfl (by kernel_rfl)) (.bool true) (.int .i64 0) (.int .i64 (-1)) rfl rfl rfl) rfl (by rw [HAS.out]; exact ⟨va, vc, rfl, celsIn_away C5.out SF.out.2 (fun y hy => (not_screen C5.out HP.out Z5.out y hy).1), below_grown K5.out SF.out.2 (by omega)⟩)
set_option maxRecDepth 100000 in
set_option maxHeartbeats 8000000 in
theorem rdo_17c (s : S) (ad : Option Addr) (k c : Nat) (w : World) (h : CelsIn w (.slice ad s.cs.length k) s.cs) (hr : sright s = true) (hl : s.cs.length < 10000) (hc8 : c < 256) (ha : Att.aid c = true) (hlk : s.lk = false) (hc : (c == 109) = true) :
    Calls Tryz.prog 11 #[.agg #[.int .i64 s.rows, .int .i64 s.cols, .slice ad s.cs.length k, .int .i64 s.cur, .bool s.lk, .bool s.ins], .agg #[.int .i64 17, .int .u8 (c : Int)]] w fun e w' => ShownK w w' (asked s c) true 0 (-1) e := by
  obtain ⟨r, cc, cs, cur, lk, ins⟩ := s
  simp only at *
  subst hlk
  have HP := Lib.hid (show 0 < cs.length by obtain ⟨_, _, h3, h4, _⟩ := sright_parts hr; simp only at h3 h4; omega)
  have HA3 := heap_alloc3 w (.cells #[.int .i64 r, .int .i64 cc, .slice ad cs.length k, .int .i64 cur, .bool false, .bool ins] 24) (.cells #[.int .i64 17, .int .u8 (c : Int)] 26) (.cells #[.int .i64 0, .int .i64 0, .slice none 0 0, .int .i64 0, .bool false, .bool false] 24)
  have HB := Lib.hid (kept_trans (kept_trans (al_any w (.cells #[.int .i64 r, .int .i64 cc, .slice ad cs.length k, .int .i64 cur, .bool false, .bool ins] 24)) (al_any _ (.cells #[.int .i64 17, .int .u8 (c : Int)] 26))) (al_any _ (.cells #[.int .i64 0, .int .i64 0, .slice none 0 0, .int .i64 0, .bool false, .bool false] 24)))
  have HX := Lib.hid HA3.1
  have HY := Lib.hid HA3.2.1
  have HZ := Lib.hid HA3.2.2
  have HH := Lib.hid h
  have e109 : ((c : Int) == 109) = true := by simp at hc ⊢; omega
  have HAS := Lib.hid (show asked (⟨r, cc, cs, cur, false, ins⟩ : S) c = ⟨r, cc, List.replicate cs.length noC, 0, true, false⟩ from by unfold asked; rw [if_pos (by simpa using hc), if_pos (by simpa using hc)])
  have HL := Lib.hid hl
  clear hc
  have HAI := Lib.hid fun W => raid_any c W hc8
  rw [show Att.aid c = true from ha] at HAI
  have Q := Lib.hid fun W (hb : Below w.heap.size w W) => rcopy_any (⟨r, cc, cs, cur, false, ins⟩ : S) ad k W (HH.out.below hb) (by simp only; omega)
  simp only [Copied] at Q
  clear h hr hl HA3
  go_enter Tryz.func11, Tryz.ntmps11
  go_upto_region 1 with (fail)
  generalize ((w.alloc _).alloc _).alloc _ = w1 at *
  have hzx := Lib.hid (there_lt HZ.out)
  obtain ⟨c0, c1, c2, c3, c4, c5⟩ := cells6 HX.out
  obtain ⟨y0, y1⟩ := cells2 HY.out
  go_wp2_with fail
  with_reducible refine (Q.out _ HB.out).mono ?_
  rintro e w2 ⟨va, vc, rfl, ho, hb⟩
  have hc := ho.to
  clear ho
  clear c0 c1 c2 c3 c4 c5 y0 y1 Q
  have HA := al_any w2 (.cells #[.int .i64 r, .int .i64 cc, .slice va cs.length vc, .int .i64 cur, .bool false, .bool ins] 24)
  have HN := Lib.hid (show w.heap.size + 2 < w2.heap.size from Nat.lt_of_lt_of_le hzx.out hb.size)
  have B3 := Lib.hid (heap_alloc_new w2 (.cells #[.int .i64 r, .int .i64 cc, .slice va cs.length vc, .int .i64 cur, .bool false, .bool ins] 24))
  have C3 := Lib.hid (hc.below HA)
  replace hb := kept_trans hb HA
  have X3 := Lib.hid (blk HX.out hb)
  have Y3 := Lib.hid (blk HY.out hb)
  have Z3 := Lib.hid (blk HZ.out hb)
  have K3 := kept_hid HB hb
  clear HA hc hb HX HY HZ HB hzx
  go_upto_region 20 with (fail)
  generalize w2.heap.size = N at *
  generalize w2.alloc _ = w3 at *
  obtain ⟨y0, y1⟩ := cells2 Y3.out
  obtain ⟨c0, c1, c2, c3, c4, c5⟩ := cells6 X3.out
  go_wp2_with fail
  with_reducible refine (HAI.out _).mono ?_
  rintro e w4 ⟨rfl, rfl⟩
  go_upto_region 33 with (fail)
  clear c0 c1 c2 c3 c4 c5 y0 y1
  have X3' := X3
  have SO := gsetCell w3 N 4 (.bool true)
  have B4 := Lib.hid (heap_setCell_same w3 N 4 _ 24 (.bool true) B3.out)
  have X4 := Lib.hid (blk_g X3.out SO (by intro e; injection e with e; have := HN.out; omega))
  have Y4 := Lib.hid (blk_g Y3.out SO (by intro e; injection e with e; have := HN.out; omega))
  have Z4 := Lib.hid (blk_g Z3.out SO (by intro e; injection e with e; have := HN.out; omega))
  have C4 := Lib.hid (celsIn_away C3.out SO (fun y hy => (not_screen C3.out HP.out B3.out y hy).1))
  have K4 := Lib.hid (below_grown K3.out SO (by have := HN.out; omega))
  clear SO
  obtain ⟨b0, b1, b2, b3, b4, b5⟩ := cells6 B3.out
  obtain ⟨f0, f1, f2, f3, f4, f5⟩ := free6 B3.out
  go_upto_region 34 with (fail)
  clear b0 b1 b2 b3 b4 b5 f0 f1 f2 f3 f4 f5 B3 Z3 C3 K3 X3 Y3 X3'
  generalize w3.setCell _ _ = w4 at *
  have SO := gsetCell w4 N 5 (.bool false)
  have B5 := Lib.hid (heap_setCell_same w4 N 5 _ 24 (.bool false) B4.out)
  have X5 := Lib.hid (blk_g X4.out SO (by intro e; injection e with e; have := HN.out; omega))
  have Y5 := Lib.hid (blk_g Y4.out SO (by intro e; injection e with e; have := HN.out; omega))
  have Z5 := Lib.hid (blk_g Z4.out SO (by intro e; injection e with e; have := HN.out; omega))
  have C5 := Lib.hid (celsIn_away C4.out SO (fun y hy => (not_screen C4.out HP.out B4.out y hy).1))
  have K5 := Lib.hid (below_grown K4.out SO (by have := HN.out; omega))
  clear SO
  obtain ⟨b0, b1, b2, b3, b4, b5⟩ := cells6 B4.out
  obtain ⟨f0, f1, f2, f3, f4, f5⟩ := free6 B4.out
  go_upto_region 35 with (fail)
  clear b0 b1 b2 b3 b4 b5 f0 f1 f2 f3 f4 f5 B4 Z4 C4 K4 X4 Y4
  generalize w4.setCell _ _ = w5 at *
  obtain ⟨y0, y1⟩ := cells2 Y5.out
  obtain ⟨c0, c1, c2, c3, c4, c5⟩ := cells6 X5.out
  go_upto_region 36 with (fail)
  go_wp2_with (at_make; refine wpList_mark ?_)
  refine Lib.hid ?_
  obtain ⟨i0, hi, hz0, hz1, hz2⟩ := info_parts infoC
  refine wpList_make_full _ rfl _ _ 22 rfl w.heap.size 42 i0 _ 6 Tryz.underlying22 hi hz0 hz1 .i64 .i64 _ _ cs.length rfl rfl rfl rfl ?_ ?_ ?_ ?_
  · rw [hz2]; have := HL.out; omega
  · have := HL.out; unfold maxLen; omega
  · exact K5.out.size
  intro w6 hown hgr
  rw [made_cells] at hown
  have K6 := kept_hid K5 (belowg hgr)
  have B6 := Lib.hid (blk B5.out (belowg hgr))
  have Z6 := Lib.hid (blk Z5.out (belowg hgr))
  have O6 := Lib.hid (show OwnCels w6 w.heap.size (.slice (some ⟨w5.heap.size, 0, none⟩) cs.length cs.length) (List.replicate cs.length noC) from by
    unfold OwnCels; rw [List.length_replicate]; exact hown)
  have HNG := Lib.hid (there_lt B5.out)
  generalize w5.heap.size = g at *
  clear hown hgr hi hz0 hz1 hz2 c0 c1 c2 c3 c4 c5 y0 y1 B5 Z5 X5 Y5 C5 K5
  have SO := gsetCell w6 N 2 (.slice (some ⟨g, 0, none⟩) cs.length cs.length)
  have B7 := Lib.hid (heap_setCell_same w6 N 2 _ 24 (.slice (some ⟨g, 0, none⟩) cs.length cs.length) B6.out)
  have Z7 := Lib.hid (blk_g Z6.out SO (by intro e; injection e with e; have := HN.out; omega))
  have O7 := Lib.hid (O6.out.away SO (by intro e; have h3 : g = N := Option.some.inj e; have := HNG.out; omega))
  have K7 := Lib.hid (below_grown K6.out SO (by have := HN.out; omega))
  clear SO
  obtain ⟨b0, b1, b2, b3, b4, b5⟩ := cells6 B6.out
  obtain ⟨f0, f1, f2, f3, f4, f5⟩ := free6 B6.out
  go_upto_region 37 with (fail)
  clear b0 b1 b2 b3 b4 b5 f0 f1 f2 f3 f4 f5 B6 Z6 O6 K6
  generalize w6.setCell _ _ = w7 at *
  have SO := gsetCell w7 N 3 (.int .i64 0)
  have B8 := Lib.hid (heap_setCell_same w7 N 3 _ 24 (.int .i64 0) B7.out)
  have Z8 := Lib.hid (blk_g Z7.out SO (by intro e; injection e with e; have := HN.out; omega))
  have O8 := Lib.hid (O7.out.away SO (by intro e; have h3 : g = N := Option.some.inj e; have := HNG.out; omega))
  have K8 := Lib.hid (below_grown K7.out SO (by have := HN.out; omega))
  have C8 := Lib.hid O8.out.to
  clear SO
  obtain ⟨b0, b1, b2, b3, b4, b5⟩ := cells6 B7.out
  obtain ⟨f0, f1, f2, f3, f4, f5⟩ := free6 B7.out
  go_upto_region 38 with (fail)
  clear b0 b1 b2 b3 b4 b5 f0 f1 f2 f3 f4 f5 B7 Z7 O7 K7
  generalize w7.setCell _ _ = w8 at *
  obtain ⟨a0, a1, a2, a3, a4, a5⟩ := cells6 B8.out
  obtain ⟨f0, f1, f2, f3, f4, f5⟩ := free6 Z8.out
  obtain ⟨z0, z1, z2, z3, z4, z5⟩ := cells6 Z8.out
  have SF := Lib.hid (over6 w8 (w.heap.size + 2) _ _ _ _ _ _ _ (.int .i64 r) (.int .i64 cc) (.slice (some ⟨g, 0, none⟩) cs.length cs.length) (.int .i64 0) (.bool true) (.bool false) Z8.out)
  go_wp2_with fail
  clear z0 z1 z2 z3 z4 z5 f0 f1 f2 f3 f4 f5 a0 a1 a2 a3 a4 a5
  generalize (((((w8.setCell _ _).setCell _ _).setCell _ _).setCell _ _).setCell _ _).setCell _ _ = w9 at *
  exact bodyPost_ret (v := .tuple #[.agg #[.int .i64 r, .int .i64 cc, .slice (some ⟨g, 0, none⟩) cs.length cs.length, .int .i64 0, .bool true, .bool false], .bool true, .int .i64 0, .int .i64 (-1)]) (results_cell_3 rfl _ _ _ (w.heap.size + 2) _ rfl (run_loadVar_row w9 (w.heap.size + 2) 24 24 _ (0, 0) _ SF.out.1 Tryz.underlying24 rfl (by kernel_rfl)) (.bool true) (.int .i64 0) (.int .i64 (-1)) rfl rfl rfl) rfl (by rw [HAS.out]; exact ⟨some ⟨g, 0, none⟩, cs.length, by simp, by simpa using celsIn_away C8.out SF.out.2 (fun y hy => by injection hy with hy; subst hy; simp only; have := HNG.out; have := HN.out; omega), below_grown K8.out SF.out.2 (by omega)⟩)
theorem rkdo_any (s : S) (ad : Option Addr) (k c : Nat) (kind : Int) (w : World) (h : CelsIn w (.slice ad s.cs.length k) s.cs) (hr : sright s = true) (hl : s.cs.length < 10000) (hc : c < 256) :
    Calls Tryz.prog 11 #[.agg #[.int .i64 s.rows, .int .i64 s.cols, .slice ad s.cs.length k, .int .i64 s.cur, .bool s.lk, .bool s.ins], .agg #[.int .i64 kind, .int .u8 (c : Int)]] w fun e w' => ShownK w w' (kdo s kind c).1 (kdo s kind c).2.1 ((kdo s kind c).2.2.1 : Nat) (kdo s kind c).2.2.2 e := by
  rcases kinds kind with rfl | rfl | rfl | hm | hw | rfl | rfl | rfl | hn
  · rw [kdo_1]; exact rdo_1 s ad k c w h hr hl hc
  · rw [kdo_10]; exact rdo_10 s ad k c w h hr hl
  · rw [kdo_11]; exact rdo_11 s ad k c w h hr hl
  · rw [kdo_mv s c hm]; exact rdo_mv s ad k c kind w h hr hl hm
  · rw [kdo_wp s c hw]; exact rdo_wp s ad k c kind w h hr hl hw
  · rw [kdo_16]; exact rdo_16 s ad k c w h hr hl
  · rw [kdo_15]
    by_cases hk : s.lk = true
    · rw [if_pos hk]; exact rdo_15l s ad k c w h hr hl hk
    · rw [if_neg hk]
      have hk : s.lk = false := by simpa using hk
      have := rdo_15 s ad k c w h hr hl hk
      rw [show ({ s with ins := true } : S) = ⟨s.rows, s.cols, s.cs, s.cur, false, true⟩ by rw [← hk]]
      exact this
  · rw [kdo_17]
    by_cases ha : Att.aid c = false
    · rw [if_pos ha]; exact rdo_17a s ad k c w h hr hl hc ha
    · rw [if_neg ha]
      have ha : Att.aid c = true := by simpa using ha
      by_cases hk : s.lk = true
      · rw [if_pos hk]; exact rdo_17l s ad k c w h hr hl hc ha hk
      · rw [if_neg hk]
        have hk : s.lk = false := by simpa using hk
        by_cases h9 : c = 109
        · exact rdo_17c s ad k c w h hr hl hc ha hk (by simp [h9])
        · exact rdo_17n s ad k c w h hr hl hc ha hk h9
  · rw [kdo_no s c hn]
    rcases hn with hn | hn
    · exact rdo_lo s ad k c kind w h hr hl hn
    · exact rdo_hi s ad k c kind w h hr hl hn
end Kyb
end Go.Proofs.YtpgbnnnfeaodmaaGreatDoor
