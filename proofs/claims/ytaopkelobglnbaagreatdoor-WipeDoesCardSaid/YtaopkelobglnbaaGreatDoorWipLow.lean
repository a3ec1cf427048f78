/- The landed code of package wipe: Wipes, wipeAll. Written by tools/gen_wip_code.py. -/
import Derived.Test.YtaopkelobglnbaaGreatDoorWipSpec
import Derived.Test.YtaopkelobglnbaaGreatDoorScrGave
import Derived.Test.YtaopkelobglnbaaGreatDoorScrNew
import Derived.Test.YtaopkelobglnbaaGreatDoorHstCode
import Derived.Test.YtaopkelobglnbaaGreatDoorBunErr
import Derived.Deep.Cut
import Derived.IntWalk
namespace Go.Proofs.YtaopkelobglnbaaGreatDoor
open Go.RowKit Sha Six Apd Cut Err Att Grd Fld Scr
set_option linter.unusedVariables false
namespace Wip
open Edt
theorem wipes_any (kind : Int) (w : World) :
    Calls Tryz.prog 11 #[.int .i64 kind] w fun e w' => e = .returned (.bool (isWipe kind)) ∧ w = w' := by
  have HM := Lib.hid (show isWipe kind = (decide (12 ≤ kind) && decide (kind ≤ 14)) from rfl)
  generalize isWipe kind = res at HM ⊢
  by_cases h0 : 12 ≤ kind
  · have HE := Lib.hid (show res = decide (kind ≤ 14) by rw [HM.out]; simp [h0])
    clear HM
    go_enter Tryz.func11, Tryz.ntmps11
    go_wp2_with fail
    go_ret
    exact ⟨by rw [HE.out]; rfl, rfl⟩
  · have HE := Lib.hid (show res = false by rw [HM.out]; simp [h0])
    clear HM
    go_enter Tryz.func11, Tryz.ntmps11
    go_wp2_with fail
    go_ret
    exact ⟨by rw [HE.out]; rfl, rfl⟩
set_option maxRecDepth 100000 in
set_option maxHeartbeats 8000000 in
theorem all_any (s : S) (ad : Option Addr) (k : Nat) (w : World) (h : CelsIn w (.slice ad s.cs.length k) s.cs) (hr : sright s = true) (h8 : Sound s.cs) (hl : s.cs.length < 10000) :
    Calls Tryz.prog 13 #[.agg #[.int .i64 s.rows, .int .i64 s.cols, .slice ad s.cs.length k, .int .i64 s.cur, .bool s.lk, .bool s.ins]] w fun e w' => GaveE w w' (wall s) 0 (-1) e := by
  have HP := Lib.hid (show 0 < s.cs.length from by obtain ⟨_, _, h3, h4, _⟩ := sright_parts hr; omega)
  have HB := Lib.hid (kept_trans (al_any w (.cells #[.int .i64 s.rows, .int .i64 s.cols, .slice ad s.cs.length k, .int .i64 s.cur, .bool s.lk, .bool s.ins] 24)) (al_any _ (.cells #[.int .i64 0, .int .i64 0, .slice none 0 0, .int .i64 0, .bool false, .bool false] 24)))
  have HX := Lib.hid (heap_alloc2_old w (.cells #[.int .i64 s.rows, .int .i64 s.cols, .slice ad s.cs.length k, .int .i64 s.cur, .bool s.lk, .bool s.ins] 24) (.cells #[.int .i64 0, .int .i64 0, .slice none 0 0, .int .i64 0, .bool false, .bool false] 24))
  have HZ := Lib.hid (heap_alloc2_new w (.cells #[.int .i64 s.rows, .int .i64 s.cols, .slice ad s.cs.length k, .int .i64 s.cur, .bool s.lk, .bool s.ins] 24) (.cells #[.int .i64 0, .int .i64 0, .slice none 0 0, .int .i64 0, .bool false, .bool false] 24))
  have HI := Lib.hid (h.below HB.out)
  have HDO := fun W hb => Hst.do_ok s ad k ⟨111, false, false, false, []⟩ none 0 0 W (HI.out.below hb) hr h8 hl (Str.ordsIn_nil _ _) nofun (by decide) (Hst.clean_ok _)
  rw [show Hst.hdo s ⟨111, false, false, false, []⟩ = Hst.hclean s from by simp [Hst.hdo]] at HDO
  have HHL := Lib.hid (Hst.hclean_length s)
  have hst : Hst.hclean s = ⟨s.rows, s.cols, (Hst.hclean s).cs, Hst.curOf s.cs, false, false⟩ := rfl
  have HW := Lib.hid (show wall s = ⟨s.rows, s.cols, (Hst.hclean s).cs, Hst.curOf s.cs, false, s.ins⟩ from rfl)
  simp only [Hst.GaveS] at HDO
  rw [hst] at HDO
  simp only at HDO
  clear hst
  generalize (Hst.hclean s).cs = ts at *
  generalize Hst.curOf s.cs = cu at *
  replace HDO := Lib.hid HDO
  clear h hr h8 hl
  go_enter Tryz.func13, Tryz.ntmps13
  go_upto_region 1 with (fail)
  have hzx := Lib.hid (there_lt HZ.out)
  generalize (w.alloc _).alloc _ = w1 at *
  obtain ⟨c0, c1, c2, c3, c4, c5⟩ := cells6 HX.out
  go_wp2_with fail
  with_reducible refine (HDO.out _ (Below.refl _ _)).mono ?_
  rintro e w2 ⟨va, vc, rfl, ho, hb⟩
  clear c0 c1 c2 c3 c4 c5 HDO
  have HT0 := Lib.hid (show 0 < ts.length by rw [HHL.out]; exact HP.out)
  obtain ⟨g, e1, hg1, hg2, B3⟩ := Box.new (w0 := w) (t := (⟨s.rows, s.cols, ts, cu, false, false⟩ : S)) ho HT0.out HB.out.size (kept_trans HB.out hb)
  subst e1
  have HA := al_any w2 (.cells #[.int .i64 s.rows, .int .i64 s.cols, .slice (some ⟨g, 0, none⟩) ts.length vc, .int .i64 cu, .bool false, .bool false] 24)
  have X3 := Lib.hid (blk HX.out (kept_trans hb HA))
  have Z3 := Lib.hid (blk HZ.out (kept_trans hb HA))
  have HG := Lib.hid (show w.heap.size + 1 < g from by have := hzx.out; omega)
  have HN := Lib.hid (show w.heap.size + 1 < w2.heap.size from by have := hzx.out; have := hb.size; omega)
  simp only at B3
  replace B3 := Lib.hid B3
  clear HA ho hb hg1 hg2 HX HZ HI HB hzx
  go_upto_region 2 with (fail)
  generalize w2.heap.size = N at *
  generalize w2.alloc _ = w3 at *
  obtain ⟨c0, c1, c2, c3, c4, c5⟩ := cells6 X3.out
  obtain ⟨d0, d1, d2, d3, d4, d5⟩ := B3.out.cells
  obtain ⟨f0, f1, f2, f3, f4, f5⟩ := B3.out.free
  have B4 := Lib.hid (B3.out.ins s.ins)
  have Z4 := Lib.hid (blk_g Z3.out (gsetCell w3 N 5 (.bool s.ins)) (by intro e; injection e with e; have := HN.out; omega))
  simp only at B4
  go_upto_region 3 with (fail)
  clear c0 c1 c2 c3 c4 c5 d0 d1 d2 d3 d4 d5 f0 f1 f2 f3 f4 f5 B3 Z3 X3
  generalize w3.setCell _ _ = w4 at *
  obtain ⟨d0, d1, d2, d3, d4, d5⟩ := B4.out.cells
  obtain ⟨z0, z1, z2, z3, z4, z5⟩ := cells6 Z4.out
  obtain ⟨f0, f1, f2, f3, f4, f5⟩ := free6 Z4.out
  have SF := Lib.hid (Box.gave (w0 := w) B4.out Z4.out (by have := HG.out; omega) (show w.heap.size ≤ w.heap.size + 1 by omega))
  simp only at SF
  go_wp2_with fail
  clear d0 d1 d2 d3 d4 d5 z0 z1 z2 z3 z4 z5 f0 f1 f2 f3 f4 f5
  generalize (((((w4.setCell _ _).setCell _ _).setCell _ _).setCell _ _).setCell _ _).setCell _ _ = w9 at *
  rw [HW.out]
  exact bodyPost_ret (v := .tuple #[.agg (six (some ⟨g, 0, none⟩) vc (⟨s.rows, s.cols, ts, cu, false, s.ins⟩ : S)), .nilIface]) (results_cell_row_tmp rfl _ _ _ (w.heap.size + 1) _ rfl (run_loadVar_row w9 (w.heap.size + 1) 24 24 _ (0, 0) _ SF.out.1 Tryz.underlying24 rfl (by kernel_rfl)) _ rfl) rfl ⟨some ⟨g, 0, none⟩, vc, .nilIface, rfl, SF.out.2.1.to, .inl ⟨rfl, rfl, rfl⟩, fun _ => ⟨rfl, SF.out.2.1⟩, SF.out.2.2⟩
end Wip
end Go.Proofs.YtaopkelobglnbaaGreatDoor
