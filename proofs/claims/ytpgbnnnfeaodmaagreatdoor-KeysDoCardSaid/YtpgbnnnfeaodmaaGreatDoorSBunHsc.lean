/- HstLow, HstClr, HstWri, HstCode in one text (by tools/bundle.py). -/
import Derived.Test.YtpgbnnnfeaodmaaGreatDoorSBunHst
import Derived.Test.YtpgbnnnfeaodmaaGreatDoorSBunScr
import Derived.Test.YtpgbnnnfeaodmaaGreatDoorSBunGrd
import Derived.Deep.Cut
import Derived.Deep.RegionHeld3
import Derived.Test.YtpgbnnnfeaodmaaGreatDoorSBunPnc
import Derived.Test.YtpgbnnnfeaodmaaGreatDoorSBunFlc
import Derived.Test.YtpgbnnnfeaodmaaGreatDoorSBunStr
import Derived.Test.YtpgbnnnfeaodmaaGreatDoorSBunSce
/- The landed code of package host: unlock, blank, Reset. Written by tools/gen_hst_code.py. -/
namespace Go.Proofs.YtpgbnnnfeaodmaaGreatDoor
open Go.RowKit Sha Six Apd Cut Err Att Grd Fld Pnt Scr
set_option linter.unusedVariables false
namespace Hst
set_option maxRecDepth 100000 in
set_option maxHeartbeats 8000000 in
theorem unlock_any (r c cur : Int) (ad : Option Addr) (n k : Nat) (lk ins : Bool) (w : World) :
    Calls Tryz.prog 106 #[.agg #[.int .i64 r, .int .i64 c, .slice ad n k, .int .i64 cur, .bool lk, .bool ins]] w fun e w' => e = .returned (.agg #[.int .i64 r, .int .i64 c, .slice ad n k, .int .i64 cur, .bool false, .bool false]) ∧ Below w.heap.size w w' := by
  have HB := Lib.hid (kept_trans (al_any w (.cells #[.int .i64 r, .int .i64 c, .slice ad n k, .int .i64 cur, .bool lk, .bool ins] 24)) (al_any _ (.cells #[.int .i64 0, .int .i64 0, .slice none 0 0, .int .i64 0, .bool false, .bool false] 24)))
  have HX := Lib.hid (heap_alloc2_old w (.cells #[.int .i64 r, .int .i64 c, .slice ad n k, .int .i64 cur, .bool lk, .bool ins] 24) (.cells #[.int .i64 0, .int .i64 0, .slice none 0 0, .int .i64 0, .bool false, .bool false] 24))
  have HZ := Lib.hid (heap_alloc2_new w (.cells #[.int .i64 r, .int .i64 c, .slice ad n k, .int .i64 cur, .bool lk, .bool ins] 24) (.cells #[.int .i64 0, .int .i64 0, .slice none 0 0, .int .i64 0, .bool false, .bool false] 24))
  go_enter Tryz.func106, Tryz.ntmps106
  go_upto_region 1 with (fail)
  generalize (w.alloc _).alloc _ = w1 at *
  have X2 := Lib.hid (heap_setCell_same w1 w.heap.size 4 _ 24 (.bool false) HX.out)
  have X3 := Lib.hid (heap_setCell_same (w1.setCell ⟨w.heap.size, 4, none⟩ (.bool false)) w.heap.size 5 _ 24 (.bool false) X2.out)
  have g1 := gsetCell w1 w.heap.size 4 (.bool false)
  have g2 := gsetCell (w1.setCell ⟨w.heap.size, 4, none⟩ (.bool false)) w.heap.size 5 (.bool false)
  have g := gtrans g1 g2
  have Z3 := Lib.hid (blk_g HZ.out g (by intro e; injection e with e; omega))
  have K3 := Lib.hid (below_grown HB.out g (Nat.le_refl _))
  clear g g1 g2 HB HZ
  obtain ⟨c0, c1, c2, c3, c4, c5⟩ := cells6 HX.out
  obtain ⟨f0, f1, f2, f3, f4, f5⟩ := free6 HX.out
  obtain ⟨e0, e1, e2, e3, e4, e5⟩ := free6 X2.out
  go_upto_region 2 with (fail)
  clear c0 c1 c2 c3 c4 c5 f0 f1 f2 f3 f4 f5 e0 e1 e2 e3 e4 e5 HX X2
  generalize (w1.setCell _ _).setCell _ _ = w3 at *
  obtain ⟨c0, c1, c2, c3, c4, c5⟩ := cells6 X3.out
  obtain ⟨z0, z1, z2, z3, z4, z5⟩ := cells6 Z3.out
  obtain ⟨f0, f1, f2, f3, f4, f5⟩ := free6 Z3.out
  have SF := Lib.hid (over6 w3 (w.heap.size + 1) _ _ _ _ _ _ _ (.int .i64 r) (.int .i64 c) (.slice ad n k) (.int .i64 cur) (.bool false) (.bool false) Z3.out)
  go_wp2_with fail
  clear z0 z1 z2 z3 z4 z5 c0 c1 c2 c3 c4 c5 f0 f1 f2 f3 f4 f5
  generalize (((((w3.setCell _ _).setCell _ _).setCell _ _).setCell _ _).setCell _ _).setCell _ _ = w9 at *
  exact bodyPost_ret (v := .agg #[.int .i64 r, .int .i64 c, .slice ad n k, .int .i64 cur, .bool false, .bool false]) (results_cell_row rfl _ _ (w.heap.size + 1) 24 _ (0, 0) _ rfl SF.out.1 Tryz.underlying24 rfl (by kernel_rfl)) rfl ⟨rfl, below_grown K3.out SF.out.2 (by omega)⟩
set_option maxRecDepth 100000 in
set_option maxHeartbeats 8000000 in
theorem blank_any (s : S) (ad : Option Addr) (k : Nat) (w : World) (h : CelsIn w (.slice ad s.cs.length k) s.cs) (hr : sright s = true) (h8 : Sound s.cs) (hl : s.cs.length < 10000) :
    Calls Tryz.prog 97 #[.agg #[.int .i64 s.rows, .int .i64 s.cols, .slice ad s.cs.length k, .int .i64 s.cur, .bool s.lk, .bool s.ins]] w fun e w' => GaveA w w' (herased s) e := by
  obtain ⟨r, c, cs, cur, lk, ins⟩ := s
  simp only at *
  have HP := Lib.hid (show 0 < cs.length from by have := (sright_parts hr).2; simp only at this; omega)
  have HB := Lib.hid (kept_trans (al_any w (.cells #[.int .i64 r, .int .i64 c, .slice ad cs.length k, .int .i64 cur, .bool lk, .bool ins] 24)) (al_any _ (.cells #[.int .i64 0, .int .i64 0, .slice none 0 0, .int .i64 0, .bool false, .bool false] 24)))
  have HX := Lib.hid (heap_alloc2_old w (.cells #[.int .i64 r, .int .i64 c, .slice ad cs.length k, .int .i64 cur, .bool lk, .bool ins] 24) (.cells #[.int .i64 0, .int .i64 0, .slice none 0 0, .int .i64 0, .bool false, .bool false] 24))
  have HZ := Lib.hid (heap_alloc2_new w (.cells #[.int .i64 r, .int .i64 c, .slice ad cs.length k, .int .i64 cur, .bool lk, .bool ins] 24) (.cells #[.int .i64 0, .int .i64 0, .slice none 0 0, .int .i64 0, .bool false, .bool false] 24))
  have HI := Lib.hid (h.below HB.out)
  have HL := Lib.hid hl
  have HR := Lib.hid hr
  have H8 := Lib.hid h8
  have HC := Lib.hid fun W hb => copy_any ⟨r, c, cs, cur, lk, ins⟩ ad k W (HI.out.below hb) (by simp only; omega)
  simp only at HC
  clear h hr h8 hl
  go_enter Tryz.func97, Tryz.ntmps97
  go_upto_region 1 with (fail)
  generalize (w.alloc _).alloc _ = w1 at *
  have hzx := there_lt HZ.out
  obtain ⟨c0, c1, c2, c3, c4, c5⟩ := cells6 HX.out
  go_wp2_with fail
  with_reducible refine (HC.out _ (Below.refl _ _)).mono ?_
  rintro e w2 ⟨va, vc, rfl, ho, hb⟩
  clear c0 c1 c2 c3 c4 c5
  have X2 := Lib.hid (blk HX.out hb)
  have Z2 := Lib.hid (blk HZ.out hb)
  obtain ⟨g, e1, hg1, B3⟩ := Box.over (w0 := w) X2.out ho (by simpa [] using HP.out) (show w.heap.size < w1.heap.size by omega) (Nat.le_refl _) (kept_trans HB.out hb)
  subst e1
  have H3 := Lib.hid B3
  have SF := over6 w2 w.heap.size _ _ _ _ _ _ _ (.int .i64 ((⟨r, c, cs, cur, lk, ins⟩ : S)).rows) (.int .i64 ((⟨r, c, cs, cur, lk, ins⟩ : S)).cols) (.slice (some ⟨g, 0, none⟩) ((⟨r, c, cs, cur, lk, ins⟩ : S)).cs.length vc) (.int .i64 ((⟨r, c, cs, cur, lk, ins⟩ : S)).cur) (.bool ((⟨r, c, cs, cur, lk, ins⟩ : S)).lk) (.bool ((⟨r, c, cs, cur, lk, ins⟩ : S)).ins) X2.out
  have Z3 := Lib.hid (blk_g Z2.out SF.2 (by intro e; injection e with e; omega))
  have HG := Lib.hid (show w.heap.size + 1 < g from by omega)
  simp only at H3
  clear hzx ho hb Z2 HX HZ HB HI HC SF B3
  obtain ⟨c0, c1, c2, c3, c4, c5⟩ := cells6 X2.out
  obtain ⟨f0, f1, f2, f3, f4, f5⟩ := free6 X2.out
  go_upto_region 2 with (fail)
  clear c0 c1 c2 c3 c4 c5 f0 f1 f2 f3 f4 f5 X2
  generalize (((((w2.setCell _ _).setCell _ _).setCell _ _).setCell _ _).setCell _ _).setCell _ _ = w3 at *
  obtain ⟨c0, c1, c2, c3, c4, c5⟩ := H3.out.cells
  have HCL := run_clear_cels 22 H3.out.own HP.out
  obtain ⟨hrun, hown, hgr⟩ := HCL
  have hrun' : ∀ ty, (Builtin.clear_ #[22] ty #[.slice (some ⟨g, 0, none⟩) cs.length vc]).run Tryz.prog w3 = .ok (.tuple #[]) (w3.setCells g 0 (crow (List.replicate cs.length noC))) := fun ty => (run_clear_cels ty H3.out.own HP.out).1
  have B4 : Box w (w3.setCells g 0 (crow (List.replicate cs.length noC))) w.heap.size g vc ⟨r, c, List.replicate cs.length noC, cur, lk, ins⟩ := by
    refine ⟨?_, by simpa using hown, H3.out.ne, H3.out.le, below_grown H3.out.kept hgr H3.out.ge⟩
    have := blk_g H3.out.box hgr (by intro e; injection e with e; exact H3.out.ne e.symm)
    simpa [six] using this
  have H4 := Lib.hid B4
  have Z4 := Lib.hid (blk_g Z3.out hgr (by intro e; injection e with e; have := HG.out; omega))
  clear hrun hown hgr B4
  go_upto_region 3 with (fail)
  clear hrun' c0 c1 c2 c3 c4 c5 H3 Z3
  generalize w3.setCells _ _ _ = w4 at *
  obtain ⟨c0, c1, c2, c3, c4, c5⟩ := H4.out.cells
  obtain ⟨f0, f1, f2, f3, f4, f5⟩ := H4.out.free
  have H5 := Lib.hid (H4.out.cur 0)
  have Z5 := Lib.hid (blk_g Z4.out (gsetCell w4 w.heap.size 3 (.int .i64 0)) (by intro e; injection e with e; omega))
  go_upto_region 4 with (fail)
  clear c0 c1 c2 c3 c4 c5 f0 f1 f2 f3 f4 f5 H4 Z4
  generalize w4.setCell _ _ = w5 at *
  obtain ⟨c0, c1, c2, c3, c4, c5⟩ := H5.out.cells
  obtain ⟨z0, z1, z2, z3, z4, z5⟩ := cells6 Z5.out
  obtain ⟨f0, f1, f2, f3, f4, f5⟩ := free6 Z5.out
  have SF := Lib.hid (H5.out.gave Z5.out (by have := HG.out; omega) (by omega))
  simp only [List.length_replicate] at c0 c1 c2 c3 c4 c5 SF
  go_wp2_with fail
  clear z0 z1 z2 z3 z4 z5 c0 c1 c2 c3 c4 c5 f0 f1 f2 f3 f4 f5
  generalize (((((w5.setCell _ _).setCell _ _).setCell _ _).setCell _ _).setCell _ _).setCell _ _ = w9 at *
  exact bodyPost_ret (v := .agg #[.int .i64 r, .int .i64 c, .slice (some ⟨g, 0, none⟩) cs.length vc, .int .i64 0, .bool lk, .bool ins]) (results_cell_row rfl _ _ (w.heap.size + 1) 24 _ (0, 0) _ rfl (by simpa [six] using SF.out.1) Tryz.underlying24 rfl (by kernel_rfl)) rfl ⟨some ⟨g, 0, none⟩, vc, by simp [herased], by simpa [herased] using SF.out.2.1, SF.out.2.2⟩
theorem unmod_code {all : Bool} {o : C} (h : cright o = true) : unmod all o = if (all || !o.p) = true then { o with m := false } else o := by
  obtain ⟨f, p, n, q, m, ch⟩ := o
  cases f
  · have : m = false := by revert h; cases m <;> simp [cright]
    subst this
    simp [unmod]
  · simp [unmod]
set_option maxRecDepth 100000 in
set_option maxHeartbeats 8000000 in
theorem reset_any (s : S) (ad : Option Addr) (k : Nat) (all : Bool) (w : World) (h : CelsIn w (.slice ad s.cs.length k) s.cs) (hr : sright s = true) (h8 : Sound s.cs) (hl : s.cs.length < 10000) :
    Calls Tryz.prog 104 #[.agg #[.int .i64 s.rows, .int .i64 s.cols, .slice ad s.cs.length k, .int .i64 s.cur, .bool s.lk, .bool s.ins], .bool all] w fun e w' => GaveA w w' (hreset s all) e := by
  obtain ⟨r, c, cs, cur, lk, ins⟩ := s
  simp only at *
  have HP := Lib.hid (show 0 < cs.length from by have := (sright_parts hr).2; simp only at this; omega)
  have HB := Lib.hid (kept_trans (al_any w (.cells #[.int .i64 r, .int .i64 c, .slice ad cs.length k, .int .i64 cur, .bool lk, .bool ins] 24)) (al_any _ (.cells #[.int .i64 0, .int .i64 0, .slice none 0 0, .int .i64 0, .bool false, .bool false] 24)))
  have HX := Lib.hid (heap_alloc2_old w (.cells #[.int .i64 r, .int .i64 c, .slice ad cs.length k, .int .i64 cur, .bool lk, .bool ins] 24) (.cells #[.int .i64 0, .int .i64 0, .slice none 0 0, .int .i64 0, .bool false, .bool false] 24))
  have HZ := Lib.hid (heap_alloc2_new w (.cells #[.int .i64 r, .int .i64 c, .slice ad cs.length k, .int .i64 cur, .bool lk, .bool ins] 24) (.cells #[.int .i64 0, .int .i64 0, .slice none 0 0, .int .i64 0, .bool false, .bool false] 24))
  have HI := Lib.hid (h.below HB.out)
  have HL := Lib.hid hl
  have HR := Lib.hid hr
  have H8 := Lib.hid h8
  have HC := Lib.hid fun W hb => copy_any ⟨r, c, cs, cur, lk, ins⟩ ad k W (HI.out.below hb) (by simp only; omega)
  simp only at HC
  have HCR := Lib.hid (show ∀ i, i < cs.length → cright (cs.getD i noC) = true from fun i hi => (sright_parts hr).2.2.2.2 _ (getD_mem hi))
  clear h hr h8 hl
  go_enter Tryz.func104, Tryz.ntmps104
  go_upto_region 1 with (fail)
  generalize (w.alloc _).alloc _ = w1 at *
  have hzx := there_lt HZ.out
  obtain ⟨c0, c1, c2, c3, c4, c5⟩ := cells6 HX.out
  go_wp2_with fail
  with_reducible refine (HC.out _ (Below.refl _ _)).mono ?_
  rintro e w2 ⟨va, vc, rfl, ho, hb⟩
  clear c0 c1 c2 c3 c4 c5
  have X2 := Lib.hid (blk HX.out hb)
  have Z2 := Lib.hid (blk HZ.out hb)
  obtain ⟨g, e1, hg1, B3⟩ := Box.over (w0 := w) X2.out ho (by simpa [] using HP.out) (show w.heap.size < w1.heap.size by omega) (Nat.le_refl _) (kept_trans HB.out hb)
  subst e1
  have H3 := Lib.hid B3
  have SF := over6 w2 w.heap.size _ _ _ _ _ _ _ (.int .i64 ((⟨r, c, cs, cur, lk, ins⟩ : S)).rows) (.int .i64 ((⟨r, c, cs, cur, lk, ins⟩ : S)).cols) (.slice (some ⟨g, 0, none⟩) ((⟨r, c, cs, cur, lk, ins⟩ : S)).cs.length vc) (.int .i64 ((⟨r, c, cs, cur, lk, ins⟩ : S)).cur) (.bool ((⟨r, c, cs, cur, lk, ins⟩ : S)).lk) (.bool ((⟨r, c, cs, cur, lk, ins⟩ : S)).ins) X2.out
  have Z3 := Lib.hid (blk_g Z2.out SF.2 (by intro e; injection e with e; omega))
  have HG := Lib.hid (show w.heap.size + 1 < g from by omega)
  simp only at H3
  clear hzx ho hb Z2 HX HZ HB HI HC SF B3
  obtain ⟨c0, c1, c2, c3, c4, c5⟩ := cells6 X2.out
  obtain ⟨f0, f1, f2, f3, f4, f5⟩ := free6 X2.out
  go_upto_region 2 with (fail)
  clear c0 c1 c2 c3 c4 c5 f0 f1 f2 f3 f4 f5 X2
  generalize (((((w2.setCell _ _).setCell _ _).setCell _ _).setCell _ _).setCell _ _).setCell _ _ = w3 at *
  obtain ⟨c0, c1, c2, c3, c4, c5⟩ := H3.out.cells
  go_wp2_with fail
  rw [← resetTo_zero all cs] at H3
  have HRL := Lib.hid fun q => resetTo_length all cs q
  go_loopg [12] (cs.length + 1) (fun mm ii wr => ∃ q : Nat, q ≤ cs.length ∧ mm = cs.length + 1 - q ∧ ii = .int .i64 q ∧ Hid (Box w wr w.heap.size g vc ⟨r, c, resetTo all cs q, cur, lk, ins⟩) ∧ Hid (wr.heap[w.heap.size + 1]? = some (.cells #[.int .i64 0, .int .i64 0, .slice none 0 0, .int .i64 0, .bool false, .bool false] 24 (0, 0))))
  case atStart => exact ⟨0, Nat.zero_le _, rfl, rfl, H3, Z3⟩
  case round =>
    obtain ⟨q, hq, rfl, rfl, H4, Z4⟩ := hrel
    clear H3 Z3
    have ew : IntKind.i64.wrap ((q : Int) + 1) = (q : Int) + 1 := by
      have := HL.out
      rw [IntWalk.i64_in] <;> omega
    obtain ⟨c0, c1, c2, c3, c4, c5⟩ := H4.out.cells
    rw [HRL.out] at c2
    by_cases hlt : q < cs.length
    · have HSA := Lib.hid (resetTo_same all cs hlt)
      have HSU := Lib.hid (resetTo_succ all cs hlt)
      have HGD := Lib.hid (resetTo_getD all cs q q (Nat.le_of_lt hlt))
      have HLD := Lib.hid (show q < (resetTo all cs q).length from by rw [resetTo_length]; exact hlt)
      have HUC := Lib.hid (unmod_code (all := all) (HCR.out q hlt))
      obtain ⟨yf, yp, yn, ys, ym, yc, ey⟩ := c_eta (cs.getD q noC)
      rw [ey] at HSA HSU HGD HUC
      rw [if_neg (Nat.lt_irrefl q)] at HGD
      have hi0 : (0 : Int) ≤ (q : Int) := by omega
      have hi1 : (q : Int) < (cs.length : Int) := by omega
      obtain ⟨⟨p0, p1, p2, p3, p4, p5⟩, fz⟩ := H4.out.spot HLD.out HGD.out
      have p2' : wr.cell? ⟨g, q * 6 + 1 + 1, none⟩ = some (.bool yn) := p2
      have p3' : wr.cell? ⟨g, q * 6 + 1 + 2, none⟩ = some (.int .i64 ys) := p3
      have p4' : wr.cell? ⟨g, q * 6 + 1 + 3, none⟩ = some (.bool ym) := p4
      have HA := al_any wr (.cells #[.bool yf, .bool yp, .bool yn, .int .i64 ys, .bool ym, .int .u8 (yc : Int)] 42)
      have H5 := Lib.hid (H4.out.below HA)
      have Z5 := Lib.hid (blk Z4.out HA)
      have Y5 := Lib.hid (heap_alloc_new wr (.cells #[.bool yf, .bool yp, .bool yn, .int .i64 ys, .bool ym, .int .u8 (yc : Int)] 42))
      clear HA fz ey H4 Z4
      go_upto_region 5 with (fail)
      clear c0 c1 c2 c3 c4 c5 p0 p1 p2 p3 p4 p5 p2' p3' p4'
      have HY := Lib.hid (show Y5 = Y5 from rfl)
      generalize wr.alloc _ = w5 at *
      generalize wr.heap.size = Y at *
      clear HY
      obtain ⟨y0, y1, y2, y3, y4, y5⟩ := cells6 Y5.out
      obtain ⟨c0, c1, c2, c3, c4, c5⟩ := H5.out.cells
      rw [HRL.out] at c2
      obtain ⟨⟨_, _, _, _, p4, _⟩, fz⟩ := H5.out.spot HLD.out HGD.out
      have q4' : w5.frozen? ⟨g, q * 6 + 1 + 3, none⟩ = false := fz.2.2.2.2.1
      have p4' : w5.cell? ⟨g, q * 6 + 1 + 3, none⟩ = some (.bool ym) := p4
      have SO := H5.out.setm HLD.out false
      rw [HGD.out] at SO
      have H6 := Lib.hid SO
      have Z6 := Lib.hid (blk_g Z5.out (gsetCell w5 g (q * 6 + 4) (.bool false)) (by intro e; injection e with e; have := HG.out; omega))
      clear SO fz
      cases all <;> cases yp
      all_goals first
        | (have HS2 := Lib.hid (HSA.out (by rw [HUC.out]; rfl))
           clear H6 Z6 HSA HSU HGD p4 p4' q4'
           go_wp2_with fail
           clear y0 y1 y2 y3 y4 y5 Y5
           go_roundg (cs.length + 1 - (q + 1))
           case measure => omega
           case rel => exact ⟨q + 1, by omega, rfl, by first | rfl | go_num, by rw [HS2.out]; exact H5, Z5⟩)
        | (have HS2 := Lib.hid HSU.out
           rw [HUC.out] at HS2
           simp only [Bool.true_or, Bool.or_true, Bool.not_false, Bool.not_true, if_true] at HS2
           clear HSA HSU HGD HUC H5 Z5
           go_upto_region 7 with (fail)
           clear c0 c1 c2 c3 c4 c5 p4 p4' q4' y0 y1 y2 y3 y4 y5 Y5
           generalize w5.setCell _ _ = wt at *
           go_wp2_with fail
           go_roundg (cs.length + 1 - (q + 1))
           case measure => omega
           case rel => exact ⟨q + 1, by omega, rfl, by first | rfl | go_num, by rw [HS2.out]; exact H6, Z6⟩)
    · obtain rfl : q = cs.length := by omega
      have hn0 : ¬ (cs.length : Int) < (cs.length : Int) := by omega
      rw [resetTo_all] at H4
      obtain ⟨f0, f1, f2, f3, f4, f5⟩ := free6 Z4.out
      obtain ⟨z0, z1, z2, z3, z4, z5⟩ := cells6 Z4.out
      have SF := Lib.hid (H4.out.gave Z4.out (by have := HG.out; omega) (by omega))
      simp only [resetC_length] at SF
      clear hlt HRL
      go_wp2_with fail
      clear z0 z1 z2 z3 z4 z5 c0 c1 c2 c3 c4 c5 f0 f1 f2 f3 f4 f5
      generalize (((((wr.setCell _ _).setCell _ _).setCell _ _).setCell _ _).setCell _ _).setCell _ _ = w9 at *
      exact bodyPost_ret (v := .agg #[.int .i64 r, .int .i64 c, .slice (some ⟨g, 0, none⟩) cs.length vc, .int .i64 cur, .bool lk, .bool ins]) (results_cell_row rfl _ _ (w.heap.size + 1) 24 _ (0, 0) _ rfl (by simpa [six, resetC_length] using SF.out.1) Tryz.underlying24 rfl (by kernel_rfl)) rfl ⟨some ⟨g, 0, none⟩, vc, by simp [hreset, resetC_length], by simpa [hreset, resetC_length] using SF.out.2.1, SF.out.2.2⟩
end Hst
end Go.Proofs.YtpgbnnnfeaodmaaGreatDoor
/- The landed code of package host: clean. -/
namespace Go.Proofs.YtpgbnnnfeaodmaaGreatDoor
open Go.RowKit Sha Six Apd Cut Err Att Grd Fld Pnt Scr
set_option linter.unusedVariables false
namespace Hst
theorem span_zero (z : Nat) : span z 0 0 = List.range z := by
  have h0 : ∀ i : Nat, i < z → on z 0 (i : Int) = i := fun i hi => by
    have := on_nat (z := z) 0 i
    simp only [Nat.zero_add] at this
    rw [show (0 : Int) = ((0 : Nat) : Int) from rfl, this, Nat.mod_eq_of_lt hi]
  have hs : spanLen z 0 0 = z := by
    unfold spanLen
    have : on z 0 (-0) = 0 := by
      rcases Nat.eq_zero_or_pos z with h | h
      · subst h; rfl
      · exact h0 0 h
    rw [if_pos this]
  unfold span
  rw [hs]
  refine List.ext_getElem (by simp) fun i h1 h2 => ?_
  simp only [List.length_map, List.length_range] at h1
  simp [h0 i h1]
theorem alike_reset (cs : List C) (all : Bool) : Fld.Alike (resetC all cs) cs := ⟨resetC_length all cs, fun i => by rw [resetC_getD]; exact ⟨(unmod_fp _ _).1, (unmod_fp _ _).2.1⟩⟩
theorem wipes_alike {a b : List C} (h : Fld.Alike a b) (l : List Nat) : ∀ cs, wipes a cs l = wipes b cs l := by
  have e : wipe1 a = wipe1 b := by funext cs i; unfold wipe1; rw [alike_open h]
  intro cs; unfold wipes; rw [e]
theorem pone_clean (s : S) : (pone (hreset s false) 0 ⟨7, [], false, false, 0, false, 0, 0⟩).1 = { s with cs := (hclean s).cs } := by
  show ({ (hreset s false) with cs := wipes (resetC false s.cs) (resetC false s.cs) (span (resetC false s.cs).length 0 0) } : S) = _
  rw [resetC_length, span_zero, wipes_alike (alike_reset s.cs false)]
  rfl
theorem wrong_clean {z : Nat} (hz : 0 < z) : Go.Proofs.YtpgbnnnfeaodmaaGreatDoor.Ord.wrong ⟨7, [], false, false, 0, false, 0, 0⟩ z = 0 := by
  have e : Go.Proofs.YtpgbnnnfeaodmaaGreatDoor.Ord.same ⟨7, [], false, false, 0, false, 0, 0⟩ (Go.Proofs.YtpgbnnnfeaodmaaGreatDoor.Ord.own ⟨7, [], false, false, 0, false, 0, 0⟩) = true := by decide
  simp [Go.Proofs.YtpgbnnnfeaodmaaGreatDoor.Ord.wrong, e]; omega
theorem nil_in (w : World) : BytesIn w (.slice none 0 0) [] := ⟨none, 0, rfl, by simp, .inl rfl⟩
set_option maxRecDepth 100000 in
set_option maxHeartbeats 8000000 in
theorem clean_any (s : S) (ad : Option Addr) (k : Nat) (w : World) (h : CelsIn w (.slice ad s.cs.length k) s.cs) (hr : sright s = true) (h8 : Sound s.cs) (hl : s.cs.length < 10000) :
    Calls Tryz.prog 99 #[.agg #[.int .i64 s.rows, .int .i64 s.cols, .slice ad s.cs.length k, .int .i64 s.cur, .bool s.lk, .bool s.ins]] w fun e w' => GaveA w w' (hclean s) e := by
  have HB := Lib.hid (kept_trans (al_any w (.cells #[.int .i64 s.rows, .int .i64 s.cols, .slice ad s.cs.length k, .int .i64 s.cur, .bool s.lk, .bool s.ins] 24)) (al_any _ (.cells #[.int .i64 0, .int .i64 0, .slice none 0 0, .int .i64 0, .bool false, .bool false] 24)))
  have HX := Lib.hid (heap_alloc2_old w (.cells #[.int .i64 s.rows, .int .i64 s.cols, .slice ad s.cs.length k, .int .i64 s.cur, .bool s.lk, .bool s.ins] 24) (.cells #[.int .i64 0, .int .i64 0, .slice none 0 0, .int .i64 0, .bool false, .bool false] 24))
  have HZ := Lib.hid (heap_alloc2_new w (.cells #[.int .i64 s.rows, .int .i64 s.cols, .slice ad s.cs.length k, .int .i64 s.cur, .bool s.lk, .bool s.ins] 24) (.cells #[.int .i64 0, .int .i64 0, .slice none 0 0, .int .i64 0, .bool false, .bool false] 24))
  have HP := Lib.hid (show 0 < s.cs.length from by have := (sright_parts hr).2; omega)
  have HC := Lib.hid fun W hb => reset_any s ad k false W ((h.below HB.out).below hb) hr h8 hl
  have HR := Lib.hid (hreset_right (all := false) hr)
  have H8 := Lib.hid (show Sound (hreset s false).cs from resetC_sound (all := false) h8)
  have HL := Lib.hid (show (hreset s false).cs.length < 10000 from by rw [(hreset_rest s false).2.2.1]; exact hl)
  have HLE := Lib.hid (hreset_rest s false).2.2.1
  have HE := Lib.hid (pone_clean s)
  have HCU := Lib.hid (curOf_bounds (cs := s.cs) HP.out)
  have HNX := Lib.hid (show next (hclean s).cs ((hclean s).cs.length - 1) = next s.cs (s.cs.length - 1) from by rw [hclean_length]; exact alike_next (alike_clean s) _)
  have HCL := Lib.hid (hclean_length s)
  have HCS := Lib.hid (right_sound (hclean_right hr))
  have HCD := Lib.hid (show curOf s.cs = if next s.cs (s.cs.length - 1) < 0 then 0 else next s.cs (s.cs.length - 1) from rfl)
  have HHC := Lib.hid (show hclean s = { ({ s with cs := (hclean s).cs } : S) with cur := curOf s.cs, lk := false, ins := false } from rfl)
  have HLL := Lib.hid hl
  clear h hr h8 hl
  go_enter Tryz.func99, Tryz.ntmps99
  go_upto_region 1 with (fail)
  generalize (w.alloc _).alloc _ = w1 at *
  have hzx := there_lt HZ.out
  obtain ⟨c0, c1, c2, c3, c4, c5⟩ := cells6 HX.out
  go_wp2_with fail
  with_reducible refine (HC.out _ (Below.refl _ _)).mono ?_
  rintro e w2 ⟨va, vc, rfl, ho, hb⟩
  clear c0 c1 c2 c3 c4 c5
  generalize hreset s false = s1 at *
  have X2 := Lib.hid (blk HX.out hb)
  have Z2 := Lib.hid (blk HZ.out hb)
  obtain ⟨g, e1, hg1, B3⟩ := Box.over (w0 := w) X2.out ho (by rw [HLE.out]; exact HP.out) (show w.heap.size < w1.heap.size by omega) (Nat.le_refl _) (kept_trans HB.out hb)
  subst e1
  have H3 := Lib.hid B3
  have SF := over6 w2 w.heap.size _ _ _ _ _ _ _ (.int .i64 s1.rows) (.int .i64 s1.cols) (.slice (some ⟨g, 0, none⟩) s1.cs.length vc) (.int .i64 s1.cur) (.bool s1.lk) (.bool s1.ins) X2.out
  have Z3 := Lib.hid (blk_g Z2.out SF.2 (by intro e; injection e with e; omega))
  have HG := Lib.hid (show w.heap.size + 1 < g from by omega)
  obtain ⟨c0, c1, c2, c3, c4, c5⟩ := cells6 X2.out
  obtain ⟨f0, f1, f2, f3, f4, f5⟩ := free6 X2.out
  clear hzx ho hb Z2 HX HZ HB HC SF B3
  go_upto_region 2 with (fail)
  clear c0 c1 c2 c3 c4 c5 f0 f1 f2 f3 f4 f5 X2
  generalize (((((w2.setCell _ _).setCell _ _).setCell _ _).setCell _ _).setCell _ _).setCell _ _ = w3 at *
  obtain ⟨c0, c1, c2, c3, c4, c5⟩ := H3.out.cells
  have HO := Lib.hid (one_ok s1 (some ⟨g, 0, none⟩) vc 0 ⟨7, [], false, false, 0, false, 0, 0⟩ none 0 0 w3 H3.out.own.to HR.out H8.out HL.out (by rw [HLE.out]; exact HP.out) (nil_in w3) (by simp) (by simp) (by simp) (wrong_clean (by rw [HLE.out]; exact HP.out)))
  simp only [Int.ofNat_zero] at HO
  generalize pone s1 0 _ = rr at HO HE
  obtain ⟨s2, p2⟩ := rr
  simp only at HO HE
  have HE2 := HE.out
  subst HE2
  generalize hds : (hclean s).cs = ds at *
  replace hds := Lib.hid hds
  go_wp2_with fail
  with_reducible refine (HO.out).mono ?_
  rintro e w4 ⟨va, vd, rfl, ho, hb⟩
  simp only at ho
  clear c0 c1 c2 c3 c4 c5 HE HO
  have X4 := Lib.hid (blk H3.out.box hb)
  have Z4 := Lib.hid (blk Z3.out hb)
  have h3l := H3.out.lt
  obtain ⟨g4, e1, hg4, B5⟩ := Box.over (w0 := w) (t := ⟨s.rows, s.cols, ds, s.cur, s.lk, s.ins⟩) X4.out ho (by rw [HCL.out]; exact HP.out) h3l (Nat.le_refl _) (kept_trans H3.out.kept hb)
  subst e1
  have H5 := Lib.hid B5
  simp only at H5
  have SF := over6 w4 w.heap.size _ _ _ _ _ _ _ (.int .i64 s.rows) (.int .i64 s.cols) (.slice (some ⟨g4, 0, none⟩) ds.length vd) (.int .i64 s.cur) (.bool s.lk) (.bool s.ins) X4.out
  have Z5 := Lib.hid (blk_g Z4.out SF.2 (by intro e; injection e with e; omega))
  have HG4 := Lib.hid (show w.heap.size + 1 < g4 from by have := there_lt Z3.out; omega)
  obtain ⟨c0, c1, c2, c3, c4, c5⟩ := cells6 X4.out
  obtain ⟨f0, f1, f2, f3, f4, f5⟩ := free6 X4.out
  clear ho hb h3l Z4 Z3 SF B5 H3 HG
  go_upto_region 3 with (fail)
  clear c0 c1 c2 c3 c4 c5 f0 f1 f2 f3 f4 f5 X4
  generalize (((((w4.setCell _ _).setCell _ _).setCell _ _).setCell _ _).setCell _ _).setCell _ _ = w5 at *
  obtain ⟨c0, c1, c2, c3, c4, c5⟩ := H5.out.cells
  obtain ⟨_, _, _, f3, _, _⟩ := H5.out.free
  have HZS := Lib.hid fun W => size_any s.rows s.cols (some ⟨g4, 0, none⟩) ds.length vd s.cur s.lk s.ins W
  have HD := Lib.hid fun (W : World) (hb : Below w5.drew.heap.size w5.drew W) => Box.below (w := w5.drew) (H5.out.below ((Below.refl w5.heap.size w5).drew)) hb
  have HF := Lib.hid fun (W : World) (hb : Below w5.drew.heap.size w5.drew W) => fnext_any ⟨s.rows, s.cols, ds, s.cur, s.lk, s.ins⟩ (some ⟨g4, 0, none⟩) vd (ds.length - 1) W (HD.out W hb).own.to HCS.out (by rw [HCL.out]; exact HP.out) (by rw [HCL.out]; exact HLL.out) (by rw [HCL.out]; have := HP.out; omega)
  simp only [HNX.out] at HF
  have HDL := Lib.hid (show 0 < ds.length ∧ ds.length < 10000 from by rw [HCL.out]; exact ⟨HP.out, HLL.out⟩)
  have ew : IntKind.i64.wrap ((ds.length : Int) - 1) = ((ds.length - 1 : Nat) : Int) := by
    have := HDL.out
    rw [IntWalk.i64_in] <;> omega
  generalize hnx : next s.cs (s.cs.length - 1) = nx at HF HCD
  have HNB := Lib.hid (show -1 ≤ nx from by rw [← hnx]; exact (next_bounds (by have := HP.out; omega)).1)
  clear hnx HNX
  go_region_with (first
    | (go_at_call 85; with_reducible refine (HZS.out _).mono ?_; rintro e wa ⟨rfl, hba⟩; have HA := Lib.hid (HD.out wa hba); obtain ⟨k0, k1, k2, k3, k4, k5⟩ := HA.out.cells)
    | (go_at_call 65; with_reducible refine (HF.out _ (by first | exact hba | exact hba.drew)).mono ?_; rintro e wb ⟨rfl, hbb⟩; have HBB := Lib.hid (HA.out.below hbb); obtain ⟨l0, l1, l2, l3, l4, l5⟩ := HBB.out.cells; obtain ⟨_, _, _, f3b, _, _⟩ := HBB.out.free))
  all_goals
    have H7 := Lib.hid (HBB.out.cur (if nx < 0 then 0 else nx))
    have Z7 := Lib.hid (blk_g (blk (blk Z5.out ((Below.refl w5.heap.size w5).drew)) (kept_trans hba (by first | exact hbb | exact hbb.drew))) (gsetCell wb w.heap.size 3 (.int .i64 (if nx < 0 then 0 else nx))) (by intro e; injection e with e; omega))
    rw [← HCD.out] at H7 Z7 ⊢
    simp only at H7
    clear k0 k1 k2 k3 k4 k5 l0 l1 l2 l3 l4 l5 f3b HBB HA hba hbb HF HZS HD c0 c1 c2 c3 c4 c5 f3 H5 Z5 ew
    generalize wb.setCell _ _ = w7 at *
    obtain ⟨c0, c1, c2, c3, c4, c5⟩ := H7.out.cells
    have HU := Lib.hid fun W => unlock_any s.rows s.cols (curOf s.cs) (some ⟨g4, 0, none⟩) ds.length vd s.lk s.ins W
    go_wp2_with fail
    with_reducible refine (HU.out _).mono ?_
    rintro e w8 ⟨rfl, hb⟩
    clear c0 c1 c2 c3 c4 c5 HU
    have O8 := Lib.hid (H7.out.own.below hb)
    have K8 := kept_hid (Lib.hid H7.out.kept) hb
    have Z8 := Lib.hid (blk Z7.out hb)
    obtain ⟨z0, z1, z2, z3, z4, z5⟩ := cells6 Z8.out
    obtain ⟨f0, f1, f2, f3, f4, f5⟩ := free6 Z8.out
    have SF := Lib.hid (over6 w8 (w.heap.size + 1) _ _ _ _ _ _ _ (.int .i64 s.rows) (.int .i64 s.cols) (.slice (some ⟨g4, 0, none⟩) ds.length vd) (.int .i64 (curOf s.cs)) (.bool false) (.bool false) Z8.out)
    have O9 := Lib.hid (OwnCels.away O8.out SF.out.2 (by intro e; have h3 : g4 = w.heap.size + 1 := Option.some.inj e; have := HG4.out; omega))
    go_wp2_with fail
    clear z0 z1 z2 z3 z4 z5 f0 f1 f2 f3 f4 f5
    generalize (((((w8.setCell _ _).setCell _ _).setCell _ _).setCell _ _).setCell _ _).setCell _ _ = w9 at *
    exact bodyPost_ret (v := .agg #[.int .i64 s.rows, .int .i64 s.cols, .slice (some ⟨g4, 0, none⟩) ds.length vd, .int .i64 (curOf s.cs), .bool false, .bool false]) (results_cell_row rfl _ _ (w.heap.size + 1) 24 _ (0, 0) _ rfl SF.out.1 Tryz.underlying24 rfl (by kernel_rfl)) rfl ⟨some ⟨g4, 0, none⟩, vd, by rw [HHC.out], by rw [HHC.out]; exact O9.out, below_grown K8.out SF.out.2 (by omega)⟩
end Hst
end Go.Proofs.YtpgbnnnfeaodmaaGreatDoor
/- The landed code of package host: write. Written by tools/gen_hst_do.py. -/
namespace Go.Proofs.YtpgbnnnfeaodmaaGreatDoor
open Go.RowKit Sha Six Apd Cut Err Att Grd Fld Pnt Scr
set_option linter.unusedVariables false
namespace Hst
set_option maxRecDepth 100000 in
set_option maxHeartbeats 8000000 in
theorem write_f (s : S) (ad : Option Addr) (k : Nat) (cmd : Int) (fa fu : Bool) (al : Option Addr) (nl cl : Nat) (os : List Go.Proofs.YtpgbnnnfeaodmaaGreatDoor.Ord.O) (w : World) (h : CelsIn w (.slice ad s.cs.length k) s.cs) (hr : sright s = true) (h8 : Sound s.cs) (hl : s.cs.length < 10000) (hO : Str.OrdsIn w 0 (.slice al nl cl) os) (ho8 : Str.Sound os) (hol : os.length < 10000) (hw : pwrong s.cs.length os = none) :
    Calls Tryz.prog 98 #[.agg #[.int .i64 s.rows, .int .i64 s.cols, .slice ad s.cs.length k, .int .i64 s.cur, .bool s.lk, .bool s.ins], .agg #[.int .i64 cmd, .bool fa, .bool fu, .bool false, .slice al nl cl]] w fun e w' => GaveA w w' (hwrite s false fu os) e := by
  obtain ⟨a, ha⟩ := Int.eq_ofNat_of_zero_le (sright_parts hr).2.2.1
  have hal : a < s.cs.length := by have := (sright_parts hr).2.2.2.1; omega
  rw [ha]
  have HA3 := Lib.hid (heap_alloc3 w (.cells #[.int .i64 s.rows, .int .i64 s.cols, .slice ad s.cs.length k, .int .i64 (a : Int), .bool s.lk, .bool s.ins] 24) (.cells #[.int .i64 cmd, .bool fa, .bool fu, .bool false, .slice al nl cl] 82) (.cells #[.int .i64 0, .int .i64 0, .slice none 0 0, .int .i64 0, .bool false, .bool false] 24))
  have HB := Lib.hid (kept_trans (kept_trans (al_any w (.cells #[.int .i64 s.rows, .int .i64 s.cols, .slice ad s.cs.length k, .int .i64 (a : Int), .bool s.lk, .bool s.ins] 24)) (al_any _ (.cells #[.int .i64 cmd, .bool fa, .bool fu, .bool false, .slice al nl cl] 82))) (al_any _ (.cells #[.int .i64 0, .int .i64 0, .slice none 0 0, .int .i64 0, .bool false, .bool false] 24)))
  have HX := Lib.hid HA3.out.1
  have HY := Lib.hid HA3.out.2.1
  have HZ := Lib.hid HA3.out.2.2
  have HP := Lib.hid (show 0 < s.cs.length from by omega)
  have HOS := Lib.hid hO
  have HAL := Lib.hid fun (W : World) (hc : CelsIn W (.slice ad s.cs.length k) s.cs) (ho : Str.OrdsIn W 0 (.slice al nl cl) os) => all_ok s ad k a al nl cl os W hc hr h8 hl hal ho ho8 hol hw
  simp only [ha] at HAL
  have HI := Lib.hid (h.below HB.out)
  have HPL := Lib.hid (show (pall (s, a) os).1.cs.length = s.cs.length from pall_length _ _)
  have HWR := Lib.hid (show hwrite s false fu os = unlocked fu (pall (s, a) os).1 from by
    unfold hwrite
    rw [show (after false s) = s from rfl, ha]; rfl)
  have HL := Lib.hid hl
  clear h hr h8 hl hO ho8 hol hw HA3 ha hal
  go_enter Tryz.func98, Tryz.ntmps98
  go_upto_region 1 with (fail)
  generalize ((w.alloc _).alloc _).alloc _ = w1 at *
  have hzx := there_lt HZ.out
  obtain ⟨c0, c1, c2, c3, c4, c5⟩ := cells6 HX.out
  obtain ⟨y0, y1, y2, y3, y4⟩ := cells5s HY.out
  have HO := Lib.hid (HAL.out w1 HI.out (HOS.out.below HB.out))
  have hx3 := there_lt HX.out
  have KK := HB
  have X3 := HX
  have Y3 := HY
  have Z3 := HZ
  clear HX HY HZ HB HI
  obtain ⟨w3, rfl⟩ : ∃ w3 : World, w3 = w1 := ⟨_, rfl⟩
  generalize pall (s, a) os = rr at *
  obtain ⟨s2, p2⟩ := rr
  simp only at HO HPL HWR
  clear HAL HOS
  go_wp2_with fail
  with_reducible refine (HO.out).mono ?_
  rintro e w4 ⟨va4, vd, rfl, ho, hb⟩
  simp only at ho
  clear c0 c1 c2 c3 c4 c5 y0 y1 y2 y3 y4 HO
  have X4 := Lib.hid (blk X3.out hb)
  have Y4 := Lib.hid (blk Y3.out hb)
  have Z4 := Lib.hid (blk Z3.out hb)
  have hz3 := there_lt Z3.out
  obtain ⟨g4, e1, hg4, B5⟩ := Box.over (w0 := w) (t := s2) X4.out ho (by rw [HPL.out]; exact HP.out) hx3 (Nat.le_refl _) (kept_trans KK.out hb)
  subst e1
  have H5 := Lib.hid B5
  have SF := over6 w4 w.heap.size _ _ _ _ _ _ _ (.int .i64 s2.rows) (.int .i64 s2.cols) (.slice (some ⟨g4, 0, none⟩) s2.cs.length vd) (.int .i64 s2.cur) (.bool s2.lk) (.bool s2.ins) X4.out
  have Y5 := Lib.hid (blk_g Y4.out SF.2 (by intro e; injection e with e; omega))
  have Z5 := Lib.hid (blk_g Z4.out SF.2 (by intro e; injection e with e; omega))
  have HG4 := Lib.hid (show w.heap.size + 2 < g4 from by omega)
  obtain ⟨c0, c1, c2, c3, c4, c5⟩ := cells6 X4.out
  obtain ⟨f0, f1, f2, f3, f4, f5⟩ := free6 X4.out
  clear ho hb hz3 hx3 Z4 Z3 Y4 Y3 X3 KK SF B5
  go_upto_region 4 with (fail)
  clear c0 c1 c2 c3 c4 c5 f0 f1 f2 f3 f4 f5 X4
  generalize (((((w4.setCell _ _).setCell _ _).setCell _ _).setCell _ _).setCell _ _).setCell _ _ = w5 at *
  obtain ⟨c0, c1, c2, c3, c4, c5⟩ := H5.out.cells
  obtain ⟨y0, y1, y2, y3, y4⟩ := cells5s Y5.out
  cases fu with
  | false =>
    obtain ⟨z0, z1, z2, z3, z4, z5⟩ := cells6 Z5.out
    obtain ⟨f0, f1, f2, f3, f4, f5⟩ := free6 Z5.out
    have SF := Lib.hid (H5.out.gave Z5.out (by have := HG4.out; omega) (by omega))
    go_wp2_with fail
    clear z0 z1 z2 z3 z4 z5 c0 c1 c2 c3 c4 c5 f0 f1 f2 f3 f4 f5 y0 y1 y2 y3 y4
    generalize (((((w5.setCell _ _).setCell _ _).setCell _ _).setCell _ _).setCell _ _).setCell _ _ = w9 at *
    exact bodyPost_ret (v := .agg #[.int .i64 s2.rows, .int .i64 s2.cols, .slice (some ⟨g4, 0, none⟩) s2.cs.length vd, .int .i64 s2.cur, .bool s2.lk, .bool s2.ins]) (results_cell_row rfl _ _ (w.heap.size + 2) 24 _ (0, 0) _ rfl SF.out.1 Tryz.underlying24 rfl (by kernel_rfl)) rfl ⟨some ⟨g4, 0, none⟩, vd, by rw [HWR.out]; rfl, by rw [HWR.out]; exact SF.out.2.1, SF.out.2.2⟩
  | true =>
    have HU := Lib.hid fun W => unlock_any s2.rows s2.cols s2.cur (some ⟨g4, 0, none⟩) s2.cs.length vd s2.lk s2.ins W
    go_wp2_with fail
    with_reducible refine (HU.out _).mono ?_
    rintro e w6 ⟨rfl, hb⟩
    clear c0 c1 c2 c3 c4 c5 HU y0 y1 y2 y3 y4
    have H6 := Lib.hid (H5.out.below hb)
    have Z6 := Lib.hid (blk Z5.out hb)
    obtain ⟨c0, c1, c2, c3, c4, c5⟩ := H6.out.cells
    obtain ⟨f0, f1, f2, f3, f4, f5⟩ := H6.out.free
    have SF := over6 w6 w.heap.size _ _ _ _ _ _ _ (.int .i64 s2.rows) (.int .i64 s2.cols) (.slice (some ⟨g4, 0, none⟩) s2.cs.length vd) (.int .i64 s2.cur) (.bool false) (.bool false) H6.out.box
    have H7 := Lib.hid (show Box w _ w.heap.size g4 vd { s2 with lk := false, ins := false } from ⟨SF.1, H6.out.own.away SF.2 (by intro e; injection e with e; exact H6.out.ne e), H6.out.ne, Nat.le_refl _, below_grown H6.out.kept SF.2 (Nat.le_refl _)⟩)
    have Z7 := Lib.hid (blk_g Z6.out SF.2 (by intro e; injection e with e; omega))
    clear hb H5 Y5 Z5 Z6 SF
    go_upto_region 6 with (fail)
    clear c0 c1 c2 c3 c4 c5 f0 f1 f2 f3 f4 f5 H6
    generalize (((((w6.setCell _ _).setCell _ _).setCell _ _).setCell _ _).setCell _ _).setCell _ _ = w7 at *
    obtain ⟨c0, c1, c2, c3, c4, c5⟩ := H7.out.cells
    obtain ⟨z0, z1, z2, z3, z4, z5⟩ := cells6 Z7.out
    obtain ⟨f0, f1, f2, f3, f4, f5⟩ := free6 Z7.out
    have SF := Lib.hid (H7.out.gave Z7.out (by have := HG4.out; omega) (by omega))
    simp only at c0 c1 c2 c3 c4 c5 SF
    go_wp2_with fail
    clear z0 z1 z2 z3 z4 z5 c0 c1 c2 c3 c4 c5 f0 f1 f2 f3 f4 f5
    generalize (((((w7.setCell _ _).setCell _ _).setCell _ _).setCell _ _).setCell _ _).setCell _ _ = w9 at *
    exact bodyPost_ret (v := .agg #[.int .i64 s2.rows, .int .i64 s2.cols, .slice (some ⟨g4, 0, none⟩) s2.cs.length vd, .int .i64 s2.cur, .bool false, .bool false]) (results_cell_row rfl _ _ (w.heap.size + 2) 24 _ (0, 0) _ rfl SF.out.1 Tryz.underlying24 rfl (by kernel_rfl)) rfl ⟨some ⟨g4, 0, none⟩, vd, by rw [HWR.out]; rfl, by rw [HWR.out]; exact SF.out.2.1, SF.out.2.2⟩
set_option maxRecDepth 100000 in
set_option maxHeartbeats 8000000 in
theorem write_t (s : S) (ad : Option Addr) (k : Nat) (cmd : Int) (fa fu : Bool) (al : Option Addr) (nl cl : Nat) (os : List Go.Proofs.YtpgbnnnfeaodmaaGreatDoor.Ord.O) (w : World) (h : CelsIn w (.slice ad s.cs.length k) s.cs) (hr : sright s = true) (h8 : Sound s.cs) (hl : s.cs.length < 10000) (hO : Str.OrdsIn w 0 (.slice al nl cl) os) (ho8 : Str.Sound os) (hol : os.length < 10000) (hw : pwrong s.cs.length os = none) :
    Calls Tryz.prog 98 #[.agg #[.int .i64 s.rows, .int .i64 s.cols, .slice ad s.cs.length k, .int .i64 s.cur, .bool s.lk, .bool s.ins], .agg #[.int .i64 cmd, .bool fa, .bool fu, .bool true, .slice al nl cl]] w fun e w' => GaveA w w' (hwrite s true fu os) e := by
  obtain ⟨a, ha⟩ := Int.eq_ofNat_of_zero_le (sright_parts hr).2.2.1
  have hal : a < s.cs.length := by have := (sright_parts hr).2.2.2.1; omega
  rw [ha]
  have HA3 := Lib.hid (heap_alloc3 w (.cells #[.int .i64 s.rows, .int .i64 s.cols, .slice ad s.cs.length k, .int .i64 (a : Int), .bool s.lk, .bool s.ins] 24) (.cells #[.int .i64 cmd, .bool fa, .bool fu, .bool true, .slice al nl cl] 82) (.cells #[.int .i64 0, .int .i64 0, .slice none 0 0, .int .i64 0, .bool false, .bool false] 24))
  have HB := Lib.hid (kept_trans (kept_trans (al_any w (.cells #[.int .i64 s.rows, .int .i64 s.cols, .slice ad s.cs.length k, .int .i64 (a : Int), .bool s.lk, .bool s.ins] 24)) (al_any _ (.cells #[.int .i64 cmd, .bool fa, .bool fu, .bool true, .slice al nl cl] 82))) (al_any _ (.cells #[.int .i64 0, .int .i64 0, .slice none 0 0, .int .i64 0, .bool false, .bool false] 24)))
  have HX := Lib.hid HA3.out.1
  have HY := Lib.hid HA3.out.2.1
  have HZ := Lib.hid HA3.out.2.2
  have HP := Lib.hid (show 0 < s.cs.length from by omega)
  have HOS := Lib.hid hO
  have HC := Lib.hid fun W hb => reset_any s ad k true W ((h.below HB.out).below hb) hr h8 hl
  simp only [ha] at HC
  have HLE := Lib.hid (hreset_rest s true).2.2.1
  have HAL := Lib.hid fun (W : World) (g : Option Addr) (vc : Nat) (hc : CelsIn W (.slice g (hreset s true).cs.length vc) (hreset s true).cs) (ho : Str.OrdsIn W 0 (.slice al nl cl) os) => all_ok (hreset s true) g vc a al nl cl os W hc (hreset_right hr) (resetC_sound h8) (by rw [HLE.out]; exact hl) (by rw [HLE.out]; exact hal) ho ho8 hol (by rw [HLE.out]; exact hw)
  have HCA := Lib.hid (show (hreset s true).cur = (a : Int) from ha)
  have HPL := Lib.hid (show (pall (hreset s true, a) os).1.cs.length = s.cs.length from (pall_length _ _).trans HLE.out)
  have HWR := Lib.hid (show hwrite s true fu os = unlocked fu (pall (hreset s true, a) os).1 from by
    unfold hwrite
    rw [show (after true s) = hreset s true from rfl, HCA.out]; rfl)
  have HL := Lib.hid hl
  clear h hr h8 hl hO ho8 hol hw HA3 ha hal
  go_enter Tryz.func98, Tryz.ntmps98
  go_upto_region 1 with (fail)
  generalize ((w.alloc _).alloc _).alloc _ = w1 at *
  have hzx := there_lt HZ.out
  obtain ⟨c0, c1, c2, c3, c4, c5⟩ := cells6 HX.out
  obtain ⟨y0, y1, y2, y3, y4⟩ := cells5s HY.out
  go_wp2_with fail
  with_reducible refine (HC.out _ (Below.refl _ _)).mono ?_
  rintro e w2 ⟨va, vc, rfl, ho, hb⟩
  clear c0 c1 c2 c3 c4 c5 y0 y1 y2 y3 y4
  generalize hreset s true = s1 at *
  have X2 := Lib.hid (blk HX.out hb)
  have Y2 := Lib.hid (blk HY.out hb)
  have Z2 := Lib.hid (blk HZ.out hb)
  obtain ⟨g, e1, hg1, B3⟩ := Box.over (w0 := w) X2.out ho (by rw [HLE.out]; exact HP.out) (show w.heap.size < w1.heap.size by omega) (Nat.le_refl _) (kept_trans HB.out hb)
  subst e1
  rw [HCA.out] at B3
  have H3 := Lib.hid B3
  have SF := over6 w2 w.heap.size _ _ _ _ _ _ _ (.int .i64 s1.rows) (.int .i64 s1.cols) (.slice (some ⟨g, 0, none⟩) s1.cs.length vc) (.int .i64 (a : Int)) (.bool s1.lk) (.bool s1.ins) X2.out
  have Y3 := Lib.hid (blk_g Y2.out SF.2 (by intro e; injection e with e; omega))
  have Z3 := Lib.hid (blk_g Z2.out SF.2 (by intro e; injection e with e; omega))
  obtain ⟨c0, c1, c2, c3, c4, c5⟩ := cells6 X2.out
  obtain ⟨f0, f1, f2, f3, f4, f5⟩ := free6 X2.out
  rw [HCA.out]
  clear ho hb Y2 Z2 HX HY HZ HB HC SF B3
  go_upto_region 3 with (fail)
  clear c0 c1 c2 c3 c4 c5 f0 f1 f2 f3 f4 f5 X2
  generalize (((((w2.setCell _ _).setCell _ _).setCell _ _).setCell _ _).setCell _ _).setCell _ _ = w3 at *
  obtain ⟨c0, c1, c2, c3, c4, c5⟩ := H3.out.cells
  rw [HCA.out] at c3
  obtain ⟨y0, y1, y2, y3, y4⟩ := cells5s Y3.out
  have HO := Lib.hid (HAL.out w3 _ _ H3.out.own.to (HOS.out.below H3.out.kept))
  have hx3 := H3.out.lt
  have KK := Lib.hid H3.out.kept
  have X3 := Lib.hid H3.out.box
  rw [HCA.out] at HO
  clear H3
  generalize pall (s1, a) os = rr at *
  obtain ⟨s2, p2⟩ := rr
  simp only at HO HPL HWR
  clear HAL HOS
  go_wp2_with fail
  with_reducible refine (HO.out).mono ?_
  rintro e w4 ⟨va4, vd, rfl, ho, hb⟩
  simp only at ho
  clear c0 c1 c2 c3 c4 c5 y0 y1 y2 y3 y4 HO
  have X4 := Lib.hid (blk X3.out hb)
  have Y4 := Lib.hid (blk Y3.out hb)
  have Z4 := Lib.hid (blk Z3.out hb)
  have hz3 := there_lt Z3.out
  obtain ⟨g4, e1, hg4, B5⟩ := Box.over (w0 := w) (t := s2) X4.out ho (by rw [HPL.out]; exact HP.out) hx3 (Nat.le_refl _) (kept_trans KK.out hb)
  subst e1
  have H5 := Lib.hid B5
  have SF := over6 w4 w.heap.size _ _ _ _ _ _ _ (.int .i64 s2.rows) (.int .i64 s2.cols) (.slice (some ⟨g4, 0, none⟩) s2.cs.length vd) (.int .i64 s2.cur) (.bool s2.lk) (.bool s2.ins) X4.out
  have Y5 := Lib.hid (blk_g Y4.out SF.2 (by intro e; injection e with e; omega))
  have Z5 := Lib.hid (blk_g Z4.out SF.2 (by intro e; injection e with e; omega))
  have HG4 := Lib.hid (show w.heap.size + 2 < g4 from by omega)
  obtain ⟨c0, c1, c2, c3, c4, c5⟩ := cells6 X4.out
  obtain ⟨f0, f1, f2, f3, f4, f5⟩ := free6 X4.out
  clear ho hb hz3 hx3 Z4 Z3 Y4 Y3 X3 KK SF B5
  go_upto_region 4 with (fail)
  clear c0 c1 c2 c3 c4 c5 f0 f1 f2 f3 f4 f5 X4
  generalize (((((w4.setCell _ _).setCell _ _).setCell _ _).setCell _ _).setCell _ _).setCell _ _ = w5 at *
  obtain ⟨c0, c1, c2, c3, c4, c5⟩ := H5.out.cells
  obtain ⟨y0, y1, y2, y3, y4⟩ := cells5s Y5.out
  cases fu with
  | false =>
    obtain ⟨z0, z1, z2, z3, z4, z5⟩ := cells6 Z5.out
    obtain ⟨f0, f1, f2, f3, f4, f5⟩ := free6 Z5.out
    have SF := Lib.hid (H5.out.gave Z5.out (by have := HG4.out; omega) (by omega))
    go_wp2_with fail
    clear z0 z1 z2 z3 z4 z5 c0 c1 c2 c3 c4 c5 f0 f1 f2 f3 f4 f5 y0 y1 y2 y3 y4
    generalize (((((w5.setCell _ _).setCell _ _).setCell _ _).setCell _ _).setCell _ _).setCell _ _ = w9 at *
    exact bodyPost_ret (v := .agg #[.int .i64 s2.rows, .int .i64 s2.cols, .slice (some ⟨g4, 0, none⟩) s2.cs.length vd, .int .i64 s2.cur, .bool s2.lk, .bool s2.ins]) (results_cell_row rfl _ _ (w.heap.size + 2) 24 _ (0, 0) _ rfl SF.out.1 Tryz.underlying24 rfl (by kernel_rfl)) rfl ⟨some ⟨g4, 0, none⟩, vd, by rw [HWR.out]; rfl, by rw [HWR.out]; exact SF.out.2.1, SF.out.2.2⟩
  | true =>
    have HU := Lib.hid fun W => unlock_any s2.rows s2.cols s2.cur (some ⟨g4, 0, none⟩) s2.cs.length vd s2.lk s2.ins W
    go_wp2_with fail
    with_reducible refine (HU.out _).mono ?_
    rintro e w6 ⟨rfl, hb⟩
    clear c0 c1 c2 c3 c4 c5 HU y0 y1 y2 y3 y4
    have H6 := Lib.hid (H5.out.below hb)
    have Z6 := Lib.hid (blk Z5.out hb)
    obtain ⟨c0, c1, c2, c3, c4, c5⟩ := H6.out.cells
    obtain ⟨f0, f1, f2, f3, f4, f5⟩ := H6.out.free
    have SF := over6 w6 w.heap.size _ _ _ _ _ _ _ (.int .i64 s2.rows) (.int .i64 s2.cols) (.slice (some ⟨g4, 0, none⟩) s2.cs.length vd) (.int .i64 s2.cur) (.bool false) (.bool false) H6.out.box
    have H7 := Lib.hid (show Box w _ w.heap.size g4 vd { s2 with lk := false, ins := false } from ⟨SF.1, H6.out.own.away SF.2 (by intro e; injection e with e; exact H6.out.ne e), H6.out.ne, Nat.le_refl _, below_grown H6.out.kept SF.2 (Nat.le_refl _)⟩)
    have Z7 := Lib.hid (blk_g Z6.out SF.2 (by intro e; injection e with e; omega))
    clear hb H5 Y5 Z5 Z6 SF
    go_upto_region 6 with (fail)
    clear c0 c1 c2 c3 c4 c5 f0 f1 f2 f3 f4 f5 H6
    generalize (((((w6.setCell _ _).setCell _ _).setCell _ _).setCell _ _).setCell _ _).setCell _ _ = w7 at *
    obtain ⟨c0, c1, c2, c3, c4, c5⟩ := H7.out.cells
    obtain ⟨z0, z1, z2, z3, z4, z5⟩ := cells6 Z7.out
    obtain ⟨f0, f1, f2, f3, f4, f5⟩ := free6 Z7.out
    have SF := Lib.hid (H7.out.gave Z7.out (by have := HG4.out; omega) (by omega))
    simp only at c0 c1 c2 c3 c4 c5 SF
    go_wp2_with fail
    clear z0 z1 z2 z3 z4 z5 c0 c1 c2 c3 c4 c5 f0 f1 f2 f3 f4 f5
    generalize (((((w7.setCell _ _).setCell _ _).setCell _ _).setCell _ _).setCell _ _).setCell _ _ = w9 at *
    exact bodyPost_ret (v := .agg #[.int .i64 s2.rows, .int .i64 s2.cols, .slice (some ⟨g4, 0, none⟩) s2.cs.length vd, .int .i64 s2.cur, .bool false, .bool false]) (results_cell_row rfl _ _ (w.heap.size + 2) 24 _ (0, 0) _ rfl SF.out.1 Tryz.underlying24 rfl (by kernel_rfl)) rfl ⟨some ⟨g4, 0, none⟩, vd, by rw [HWR.out]; rfl, by rw [HWR.out]; exact SF.out.2.1, SF.out.2.2⟩
theorem write_any (s : S) (ad : Option Addr) (k : Nat) (cmd : Int) (fa fu fr : Bool) (al : Option Addr) (nl cl : Nat) (os : List Go.Proofs.YtpgbnnnfeaodmaaGreatDoor.Ord.O) (w : World) (h : CelsIn w (.slice ad s.cs.length k) s.cs) (hr : sright s = true) (h8 : Sound s.cs) (hl : s.cs.length < 10000) (hO : Str.OrdsIn w 0 (.slice al nl cl) os) (ho8 : Str.Sound os) (hol : os.length < 10000) (hw : pwrong s.cs.length os = none) :
    Calls Tryz.prog 98 #[.agg #[.int .i64 s.rows, .int .i64 s.cols, .slice ad s.cs.length k, .int .i64 s.cur, .bool s.lk, .bool s.ins], .agg #[.int .i64 cmd, .bool fa, .bool fu, .bool fr, .slice al nl cl]] w fun e w' => GaveA w w' (hwrite s fr fu os) e := by
  cases fr
  · exact write_f s ad k cmd fa fu al nl cl os w h hr h8 hl hO ho8 hol hw
  · exact write_t s ad k cmd fa fu al nl cl os w h hr h8 hl hO ho8 hol hw
end Hst
end Go.Proofs.YtpgbnnnfeaodmaaGreatDoor
/- The landed code of package host: Do. Written by tools/gen_hst_do.py. -/
namespace Go.Proofs.YtpgbnnnfeaodmaaGreatDoor
open Go.RowKit Sha Six Apd Cut Err Att Grd Fld Pnt Scr
set_option linter.unusedVariables false
namespace Hst
set_option maxRecDepth 100000 in
set_option maxHeartbeats 8000000 in
theorem do_ok (s : S) (ad : Option Addr) (k : Nat) (o : Str.Cm) (al : Option Addr) (nl cl : Nat) (w : World) (h : CelsIn w (.slice ad s.cs.length k) s.cs) (hr : sright s = true) (h8 : Sound s.cs) (hl : s.cs.length < 10000) (hO : Str.OrdsIn w 0 (.slice al nl cl) o.os) (ho8 : Str.Sound o.os) (hol : o.os.length < 10000) (hc : (Str.cwrite o s.cs.length).2.1 = 0) :
    Calls Tryz.prog 86 #[.agg #[.int .i64 s.rows, .int .i64 s.cols, .slice ad s.cs.length k, .int .i64 s.cur, .bool s.lk, .bool s.ins], .agg #[.int .i64 o.cmd, .bool o.a, .bool o.u, .bool o.r, .slice al nl cl]] w fun e w' => GaveS w w' (hdo s o) e := by
  have HA3 := Lib.hid (heap_alloc3 w (.cells #[.int .i64 s.rows, .int .i64 s.cols, .slice ad s.cs.length k, .int .i64 s.cur, .bool s.lk, .bool s.ins] 24) (.cells #[.int .i64 o.cmd, .bool o.a, .bool o.u, .bool o.r, .slice al nl cl] 82) (.cells #[.int .i64 0, .int .i64 0, .slice none 0 0, .int .i64 0, .bool false, .bool false] 24))
  have HB := Lib.hid (kept_trans (kept_trans (al_any w (.cells #[.int .i64 s.rows, .int .i64 s.cols, .slice ad s.cs.length k, .int .i64 s.cur, .bool s.lk, .bool s.ins] 24)) (al_any _ (.cells #[.int .i64 o.cmd, .bool o.a, .bool o.u, .bool o.r, .slice al nl cl] 82))) (al_any _ (.cells #[.int .i64 0, .int .i64 0, .slice none 0 0, .int .i64 0, .bool false, .bool false] 24)))
  have HX := Lib.hid HA3.out.1
  have HY := Lib.hid HA3.out.2.1
  have HZ := Lib.hid HA3.out.2.2
  have HP := Lib.hid (show 0 < s.cs.length from by have := (sright_parts hr).2; omega)
  have HS := Lib.hid fun W => size_any s.rows s.cols ad s.cs.length k s.cur s.lk s.ins W
  have HW := Lib.hid fun W (hb : Below (((w.alloc (.cells #[.int .i64 s.rows, .int .i64 s.cols, .slice ad s.cs.length k, .int .i64 s.cur, .bool s.lk, .bool s.ins] 24)).alloc (.cells #[.int .i64 o.cmd, .bool o.a, .bool o.u, .bool o.r, .slice al nl cl] 82)).alloc (.cells #[.int .i64 0, .int .i64 0, .slice none 0 0, .int .i64 0, .bool false, .bool false] 24)).heap.size (((w.alloc (.cells #[.int .i64 s.rows, .int .i64 s.cols, .slice ad s.cs.length k, .int .i64 s.cur, .bool s.lk, .bool s.ins] 24)).alloc (.cells #[.int .i64 o.cmd, .bool o.a, .bool o.u, .bool o.r, .slice al nl cl] 82)).alloc (.cells #[.int .i64 0, .int .i64 0, .slice none 0 0, .int .i64 0, .bool false, .bool false] 24)) W) => (Str.write_any o al nl cl s.cs.length W (hO.below (kept_trans HB.out hb)) ho8 (by omega) (by have := HP.out; omega) (by omega)).mono (R' := fun e w' => ∃ v, e = .returned (.tuple #[v, .nilIface]) ∧ Below W.heap.size W w') (by
    rintro e w' ⟨v, ev, rfl, hb', hwr⟩
    rcases hwr with ⟨_, rfl, _⟩ | ⟨h0, _⟩
    · exact ⟨v, rfl, hb'⟩
    · exact absurd hc h0)
  have HI := Lib.hid h
  have HOO := Lib.hid hO
  have HOX := Lib.hid fun W (hb : Below w.heap.size w W) => hO.below hb
  have HR := Lib.hid hr
  have H8 := Lib.hid h8
  have HL := Lib.hid hl
  have HO8 := Lib.hid ho8
  have HOL := Lib.hid hol
  have HCR := Lib.hid (cwrite_right hc)
  clear h hr h8 hl hO ho8 hol HA3 hc
  go_enter Tryz.func86, Tryz.ntmps86
  go_upto_region 1 with (fail)
  generalize ((w.alloc _).alloc _).alloc _ = w1 at *
  obtain ⟨c0, c1, c2, c3, c4, c5⟩ := cells6 HX.out
  obtain ⟨y0, y1, y2, y3, y4⟩ := cells5s HY.out
  go_region_held3 (fun w' => Below w1.heap.size w1 w' ∧ w'.cell? ⟨w.heap.size, 0, none⟩ = some (.int .i64 s.rows) ∧ w'.cell? ⟨w.heap.size, 1, none⟩ = some (.int .i64 s.cols) ∧ w'.cell? ⟨w.heap.size, 2, none⟩ = some (.slice ad s.cs.length k) ∧ w'.cell? ⟨w.heap.size, 3, none⟩ = some (.int .i64 s.cur) ∧ w'.cell? ⟨w.heap.size, 4, none⟩ = some (.bool s.lk) ∧ w'.cell? ⟨w.heap.size, 5, none⟩ = some (.bool s.ins) ∧ w'.cell? ⟨w.heap.size + 1, 0, none⟩ = some (.int .i64 o.cmd) ∧ w'.cell? ⟨w.heap.size + 1, 1, none⟩ = some (.bool o.a) ∧ w'.cell? ⟨w.heap.size + 1, 2, none⟩ = some (.bool o.u) ∧ w'.cell? ⟨w.heap.size + 1, 3, none⟩ = some (.bool o.r) ∧ w'.cell? ⟨w.heap.size + 1, 4, none⟩ = some (.slice al nl cl))
    (first | exact held11 HX.out HY.out (Below.refl _ _).drew | exact held11 HX.out HY.out (Below.refl _ _) | exact held11 HX.out HY.out (kept_trans (And.left (by assumption)) hb))
    (first
      | (go_at_call 85; refine (HS.out _).mono ?_; rintro e wa ⟨rfl, hb⟩)
      | (go_at_call 96; have hT := And.left (by assumption : Below w1.heap.size w1 _ ∧ _); refine (HW.out _ hT).mono ?_; rintro e w2 ⟨v, rfl, hb⟩))
  have hS := (by assumption : Below w1.heap.size w1 w2 ∧ _).1
  have X2 := Lib.hid (blk HX.out hS)
  have Y2 := Lib.hid (blk HY.out hS)
  have Z2 := Lib.hid (blk HZ.out hS)
  have K2 := kept_hid HB hS
  have S2 := (by assumption : Below w1.heap.size w1 w2 ∧ _)
  clear S2 hT hS HX HY HZ HS HW HB c0 c1 c2 c3 c4 c5 y0 y1 y2 y3 y4
  obtain ⟨c0, c1, c2, c3, c4, c5⟩ := cells6 X2.out
  obtain ⟨y0, y1, y2, y3, y4⟩ := cells5s Y2.out
  have I2 := Lib.hid (HI.out.below K2.out)
  have O2 := Lib.hid (HOO.out.below K2.out)
  rcases known_cases HCR.out.1 with h | h | h | h | h
  · -- Write
    have HPW := Lib.hid (show pwrong s.cs.length o.os = none from pwrong_all (HCR.out.2.1 (by rw [h]; rfl)))
    have HDO := Lib.hid (show hdo s o = hwrite s o.r o.u o.os from by unfold hdo; rw [if_neg (by omega), if_neg (by omega), if_neg (by omega)])
    obtain ⟨cmd, fa, fu, fr, os⟩ := o
    simp only at h y0 y1 y2 y3 y4 HPW HDO O2 HO8 HOL
    subst h
    have HC := Lib.hid fun W (hb : Below w2.heap.size w2 W) => write_any s ad k 241 fa fu fr al nl cl os W (I2.out.below hb) HR.out H8.out HL.out (O2.out.below hb) HO8.out HOL.out HPW.out
    clear HI HOO
    go_wp2_with fail
    with_reducible refine (HC.out _ (Below.refl _ _)).mono ?_
    rintro e w3 ⟨va, vc, rfl, ho, hb⟩
    generalize hwrite s fr fu os = t at *
    clear c0 c1 c2 c3 c4 c5 y0 y1 y2 y3 y4 X2 Y2 HC
    have Z3 := Lib.hid (blk Z2.out hb)
    have K3 := kept_hid K2 hb
    have HG := Lib.hid (show w.heap.size + 2 < w2.heap.size from there_lt Z2.out)
    obtain ⟨z0, z1, z2, z3, z4, z5⟩ := cells6 Z3.out
    obtain ⟨f0, f1, f2, f3, f4, f5⟩ := free6 Z3.out
    have SF := over6 w3 (w.heap.size + 2) _ _ _ _ _ _ _ (.int .i64 t.rows) (.int .i64 t.cols) (.slice va t.cs.length vc) (.int .i64 t.cur) (.bool t.lk) (.bool t.ins) Z3.out
    have Z9 := Lib.hid SF.1
    have O9 := Lib.hid ((OwnCels.away ho SF.2 (own_ne ho HG.out)).mono K2.out.size)
    have K9 := Lib.hid (below_grown K3.out SF.2 (by omega))
    clear SF ho hb
    go_wp2_with fail
    clear z0 z1 z2 z3 z4 z5 f0 f1 f2 f3 f4 f5
    generalize (((((w3.setCell _ _).setCell _ _).setCell _ _).setCell _ _).setCell _ _).setCell _ _ = w9 at *
    exact bodyPost_ret (v := .tuple #[.agg #[.int .i64 t.rows, .int .i64 t.cols, .slice va t.cs.length vc, .int .i64 t.cur, .bool t.lk, .bool t.ins], .nilIface]) (results_cell_row_tmp rfl _ _ _ (w.heap.size + 2) _ rfl (run_loadVar_row _ (w.heap.size + 2) 24 24 _ (0, 0) _ Z9.out Tryz.underlying24 rfl (by kernel_rfl)) .nilIface rfl) rfl ⟨va, vc, by rw [HDO.out], by rw [HDO.out]; exact O9.out, K9.out⟩
  · -- Erase
    have HPW := Lib.hid (show pwrong (herased s).cs.length o.os = none from by rw [show (herased s).cs.length = s.cs.length by simp [herased]]; exact pwrong_all (HCR.out.2.1 (by rw [h]; rfl)))
    have HDO := Lib.hid (show hdo s o = hwrite (herased s) o.r o.u o.os from by unfold hdo; rw [if_neg (by omega), if_neg (by omega), if_pos (by omega)])
    obtain ⟨cmd, fa, fu, fr, os⟩ := o
    simp only at h y0 y1 y2 y3 y4 HPW HDO O2 HO8 HOL
    subst h
    have HBL := Lib.hid fun W (hb : Below w2.heap.size w2 W) => blank_any s ad k W (I2.out.below hb) HR.out H8.out HL.out
    have HRE := Lib.hid (herased_right HR.out)
    have HLE := Lib.hid (show (herased s).cs.length = s.cs.length from by simp [herased])
    have HSE := Lib.hid (show Sound (herased s).cs from fun o ho => by rw [(List.mem_replicate.1 ho).2]; decide)
    clear HI HOO
    go_wp2_with fail
    with_reducible refine (HBL.out _ (Below.refl _ _)).mono ?_
    rintro e w4 ⟨va4, vd, rfl, ho, hb⟩
    clear c0 c1 c2 c3 c4 c5 y0 y1 y2 y3 y4 HBL
    generalize herased s = s1 at *
    have X4 := Lib.hid (blk X2.out hb)
    have Y4 := Lib.hid (blk Y2.out hb)
    have Z4 := Lib.hid (blk Z2.out hb)
    have hz2 := there_lt Z2.out
    obtain ⟨g4, e1, hg4, B5⟩ := Box.over (w0 := w) X4.out ho (by rw [HLE.out]; exact HP.out) (show w.heap.size < w2.heap.size by omega) (Nat.le_refl _) (kept_trans K2.out hb)
    subst e1
    have H5 := Lib.hid B5
    have SF := over6 w4 w.heap.size _ _ _ _ _ _ _ (.int .i64 s1.rows) (.int .i64 s1.cols) (.slice (some ⟨g4, 0, none⟩) s1.cs.length vd) (.int .i64 s1.cur) (.bool s1.lk) (.bool s1.ins) X4.out
    have Y5 := Lib.hid (blk_g Y4.out SF.2 (by intro e; injection e with e; omega))
    have Z5 := Lib.hid (blk_g Z4.out SF.2 (by intro e; injection e with e; omega))
    have O5 := Lib.hid fun W (hb : Below w.heap.size w W) => HOX.out W hb
    obtain ⟨c0, c1, c2, c3, c4, c5⟩ := cells6 X4.out
    obtain ⟨f0, f1, f2, f3, f4, f5⟩ := free6 X4.out
    clear ho hb hz2 Z4 Y4 SF B5 X2 Y2 Z2
    go_upto_region 9 with (fail)
    clear c0 c1 c2 c3 c4 c5 f0 f1 f2 f3 f4 f5 X4
    generalize (((((w4.setCell _ _).setCell _ _).setCell _ _).setCell _ _).setCell _ _).setCell _ _ = w5 at *
    obtain ⟨c0, c1, c2, c3, c4, c5⟩ := H5.out.cells
    obtain ⟨y0, y1, y2, y3, y4⟩ := cells5s Y5.out
    have HC := Lib.hid fun W (hb : Below w5.heap.size w5 W) => write_any s1 (some ⟨g4, 0, none⟩) vd 245 fa fu fr al nl cl os W (H5.out.own.to.below hb) HRE.out HSE.out (by rw [HLE.out]; exact HL.out) (O5.out W (kept_trans H5.out.kept hb)) HO8.out HOL.out HPW.out
    have K2 := Lib.hid H5.out.kept
    have Z2 := Z5
    clear Z5 Y5 O5
    obtain ⟨w2, rfl⟩ : ∃ w2 : World, w2 = w5 := ⟨_, rfl⟩
    go_wp2_with fail
    with_reducible refine (HC.out _ (Below.refl _ _)).mono ?_
    rintro e w3 ⟨va, vc, rfl, ho, hb⟩
    generalize hwrite s1 fr fu os = t at *
    clear c0 c1 c2 c3 c4 c5 y0 y1 y2 y3 y4 HC H5
    have Z3 := Lib.hid (blk Z2.out hb)
    have K3 := kept_hid K2 hb
    have HG := Lib.hid (show w.heap.size + 2 < w2.heap.size from there_lt Z2.out)
    obtain ⟨z0, z1, z2, z3, z4, z5⟩ := cells6 Z3.out
    obtain ⟨f0, f1, f2, f3, f4, f5⟩ := free6 Z3.out
    have SF := over6 w3 (w.heap.size + 2) _ _ _ _ _ _ _ (.int .i64 t.rows) (.int .i64 t.cols) (.slice va t.cs.length vc) (.int .i64 t.cur) (.bool t.lk) (.bool t.ins) Z3.out
    have Z9 := Lib.hid SF.1
    have O9 := Lib.hid ((OwnCels.away ho SF.2 (own_ne ho HG.out)).mono K2.out.size)
    have K9 := Lib.hid (below_grown K3.out SF.2 (by omega))
    clear SF ho hb
    go_wp2_with fail
    clear z0 z1 z2 z3 z4 z5 f0 f1 f2 f3 f4 f5
    generalize (((((w3.setCell _ _).setCell _ _).setCell _ _).setCell _ _).setCell _ _).setCell _ _ = w9 at *
    exact bodyPost_ret (v := .tuple #[.agg #[.int .i64 t.rows, .int .i64 t.cols, .slice va t.cs.length vc, .int .i64 t.cur, .bool t.lk, .bool t.ins], .nilIface]) (results_cell_row_tmp rfl _ _ _ (w.heap.size + 2) _ rfl (run_loadVar_row _ (w.heap.size + 2) 24 24 _ (0, 0) _ Z9.out Tryz.underlying24 rfl (by kernel_rfl)) .nilIface rfl) rfl ⟨va, vc, by rw [HDO.out], by rw [HDO.out]; exact O9.out, K9.out⟩
  · -- Clean
    have HDO := Lib.hid (show hdo s o = hclean s from by unfold hdo; rw [if_neg (by omega), if_pos (by omega)])
    obtain ⟨cmd, fa, fu, fr, os⟩ := o
    simp only at h y0 y1 y2 y3 y4 HDO
    subst h
    have HC := Lib.hid fun W (hb : Below w2.heap.size w2 W) => clean_any s ad k W (I2.out.below hb) HR.out H8.out HL.out
    clear HI HOO
    go_wp2_with fail
    with_reducible refine (HC.out _ (Below.refl _ _)).mono ?_
    rintro e w3 ⟨va, vc, rfl, ho, hb⟩
    generalize hclean s = t at *
    clear c0 c1 c2 c3 c4 c5 y0 y1 y2 y3 y4 X2 Y2 HC
    have Z3 := Lib.hid (blk Z2.out hb)
    have K3 := kept_hid K2 hb
    have HG := Lib.hid (show w.heap.size + 2 < w2.heap.size from there_lt Z2.out)
    obtain ⟨z0, z1, z2, z3, z4, z5⟩ := cells6 Z3.out
    obtain ⟨f0, f1, f2, f3, f4, f5⟩ := free6 Z3.out
    have SF := over6 w3 (w.heap.size + 2) _ _ _ _ _ _ _ (.int .i64 t.rows) (.int .i64 t.cols) (.slice va t.cs.length vc) (.int .i64 t.cur) (.bool t.lk) (.bool t.ins) Z3.out
    have Z9 := Lib.hid SF.1
    have O9 := Lib.hid ((OwnCels.away ho SF.2 (own_ne ho HG.out)).mono K2.out.size)
    have K9 := Lib.hid (below_grown K3.out SF.2 (by omega))
    clear SF ho hb
    go_wp2_with fail
    clear z0 z1 z2 z3 z4 z5 f0 f1 f2 f3 f4 f5
    generalize (((((w3.setCell _ _).setCell _ _).setCell _ _).setCell _ _).setCell _ _).setCell _ _ = w9 at *
    exact bodyPost_ret (v := .tuple #[.agg #[.int .i64 t.rows, .int .i64 t.cols, .slice va t.cs.length vc, .int .i64 t.cur, .bool t.lk, .bool t.ins], .nilIface]) (results_cell_row_tmp rfl _ _ _ (w.heap.size + 2) _ rfl (run_loadVar_row _ (w.heap.size + 2) 24 24 _ (0, 0) _ Z9.out Tryz.underlying24 rfl (by kernel_rfl)) .nilIface rfl) rfl ⟨va, vc, by rw [HDO.out], by rw [HDO.out]; exact O9.out, K9.out⟩
  all_goals
    have HDO := Lib.hid (show hdo s o = s from by unfold hdo; rw [if_pos (by omega)])
    obtain ⟨cmd, fa, fu, fr, os⟩ := o
    simp only at h y0 y1 y2 y3 y4 HDO
    subst h
    have HC := Lib.hid fun W (hb : Below w2.heap.size w2 W) => copy_any s ad k W (I2.out.below hb) (by have := HL.out; omega)
    clear HI HOO
    go_wp2_with fail
    with_reducible refine (HC.out _ (Below.refl _ _)).mono ?_
    rintro e w3 ⟨va, vc, rfl, ho, hb⟩
    clear c0 c1 c2 c3 c4 c5 y0 y1 y2 y3 y4 X2 Y2 HC
    have Z3 := Lib.hid (blk Z2.out hb)
    have K3 := kept_hid K2 hb
    have HG := Lib.hid (show w.heap.size + 2 < w2.heap.size from there_lt Z2.out)
    obtain ⟨z0, z1, z2, z3, z4, z5⟩ := cells6 Z3.out
    obtain ⟨f0, f1, f2, f3, f4, f5⟩ := free6 Z3.out
    have SF := over6 w3 (w.heap.size + 2) _ _ _ _ _ _ _ (.int .i64 s.rows) (.int .i64 s.cols) (.slice va s.cs.length vc) (.int .i64 s.cur) (.bool s.lk) (.bool s.ins) Z3.out
    have Z9 := Lib.hid SF.1
    have O9 := Lib.hid ((OwnCels.away ho SF.2 (own_ne ho HG.out)).mono K2.out.size)
    have K9 := Lib.hid (below_grown K3.out SF.2 (by omega))
    clear SF ho hb
    go_wp2_with fail
    clear z0 z1 z2 z3 z4 z5 f0 f1 f2 f3 f4 f5
    generalize (((((w3.setCell _ _).setCell _ _).setCell _ _).setCell _ _).setCell _ _).setCell _ _ = w9 at *
    exact bodyPost_ret (v := .tuple #[.agg #[.int .i64 s.rows, .int .i64 s.cols, .slice va s.cs.length vc, .int .i64 s.cur, .bool s.lk, .bool s.ins], .nilIface]) (results_cell_row_tmp rfl _ _ _ (w.heap.size + 2) _ rfl (run_loadVar_row _ (w.heap.size + 2) 24 24 _ (0, 0) _ Z9.out Tryz.underlying24 rfl (by kernel_rfl)) .nilIface rfl) rfl ⟨va, vc, by rw [HDO.out], by rw [HDO.out]; exact O9.out, K9.out⟩
end Hst
end Go.Proofs.YtpgbnnnfeaodmaaGreatDoor
