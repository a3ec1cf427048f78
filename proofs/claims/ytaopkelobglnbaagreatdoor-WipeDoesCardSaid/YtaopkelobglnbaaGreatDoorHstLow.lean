/- The landed code of package host: unlock, blank, Reset. Written by tools/gen_hst_code.py. -/
import Derived.Test.YtaopkelobglnbaaGreatDoorBunHst
import Derived.Test.YtaopkelobglnbaaGreatDoorBunHst
import Derived.Test.YtaopkelobglnbaaGreatDoorScrBox
import Derived.Test.YtaopkelobglnbaaGreatDoorBunGrd
import Derived.Deep.Cut
import Derived.Deep.RegionHeld3
namespace Go.Proofs.YtaopkelobglnbaaGreatDoor
open Go.RowKit Sha Six Apd Cut Err Att Grd Fld Pnt Scr
set_option linter.unusedVariables false
namespace Hst
set_option maxRecDepth 100000 in
set_option maxHeartbeats 8000000 in
theorem unlock_any (r c cur : Int) (ad : Option Addr) (n k : Nat) (lk ins : Bool) (w : World) :
    Calls Tryz.prog 62 #[.agg #[.int .i64 r, .int .i64 c, .slice ad n k, .int .i64 cur, .bool lk, .bool ins]] w fun e w' => e = .returned (.agg #[.int .i64 r, .int .i64 c, .slice ad n k, .int .i64 cur, .bool false, .bool false]) ∧ Below w.heap.size w w' := by
  have HB := Lib.hid (kept_trans (al_any w (.cells #[.int .i64 r, .int .i64 c, .slice ad n k, .int .i64 cur, .bool lk, .bool ins] 24)) (al_any _ (.cells #[.int .i64 0, .int .i64 0, .slice none 0 0, .int .i64 0, .bool false, .bool false] 24)))
  have HX := Lib.hid (heap_alloc2_old w (.cells #[.int .i64 r, .int .i64 c, .slice ad n k, .int .i64 cur, .bool lk, .bool ins] 24) (.cells #[.int .i64 0, .int .i64 0, .slice none 0 0, .int .i64 0, .bool false, .bool false] 24))
  have HZ := Lib.hid (heap_alloc2_new w (.cells #[.int .i64 r, .int .i64 c, .slice ad n k, .int .i64 cur, .bool lk, .bool ins] 24) (.cells #[.int .i64 0, .int .i64 0, .slice none 0 0, .int .i64 0, .bool false, .bool false] 24))
  go_enter Tryz.func62, Tryz.ntmps62
  go_upto_region 1 with (fail)
  generalize (w.alloc _).alloc _ = w1 at *
  have X2 := Lib.hid (heap_setCell_same w1 w.heap.size 4 _ 24 (.bool false) HX.out)
  have X3 := Lib.hid (heap_setCell_same (w1.setCell ⟨w.heap.size, 4, none⟩ (.bool false)) w.heap.size 5 _ 24 (.bool false) X2.out)
  have g1 := gsetCell w1 w.heap.size 4 (.bool false)
  have g2 := gsetCell (w1.setCell ⟨w.heap.size, 4, none⟩ (.bool false)) w.heap.size 5 (.bool false)
  have g := gtrans g1 g2
  have Z3 := Lib.hid (blk_g HZ.out g (by intro e; injection e with e; omega))
  have K3 := Lib.hid (below_grown HB.out g (Nat.le_refl _))
  clear g g1 g2 HB HZ
  obtain ⟨c0, c1, c2, c3, c4, c5⟩ := cells6 HX.out
  obtain ⟨f0, f1, f2, f3, f4, f5⟩ := free6 HX.out
  obtain ⟨e0, e1, e2, e3, e4, e5⟩ := free6 X2.out
  go_upto_region 2 with (fail)
  clear c0 c1 c2 c3 c4 c5 f0 f1 f2 f3 f4 f5 e0 e1 e2 e3 e4 e5 HX X2
  generalize (w1.setCell _ _).setCell _ _ = w3 at *
  obtain ⟨c0, c1, c2, c3, c4, c5⟩ := cells6 X3.out
  obtain ⟨z0, z1, z2, z3, z4, z5⟩ := cells6 Z3.out
  obtain ⟨f0, f1, f2, f3, f4, f5⟩ := free6 Z3.out
  have SF := Lib.hid (over6 w3 (w.heap.size + 1) _ _ _ _ _ _ _ (.int .i64 r) (.int .i64 c) (.slice ad n k) (.int .i64 cur) (.bool false) (.bool false) Z3.out)
  go_wp2_with fail
  clear z0 z1 z2 z3 z4 z5 c0 c1 c2 c3 c4 c5 f0 f1 f2 f3 f4 f5
  generalize (((((w3.setCell _ _).setCell _ _).setCell _ _).setCell _ _).setCell _ _).setCell _ _ = w9 at *
  exact bodyPost_ret (v := .agg #[.int .i64 r, .int .i64 c, .slice ad n k, .int .i64 cur, .bool false, .bool false]) (results_cell_row rfl _ _ (w.heap.size + 1) 24 _ (0, 0) _ rfl SF.out.1 Tryz.underlying24 rfl (by kernel_rfl)) rfl ⟨rfl, below_grown K3.out SF.out.2 (by omega)⟩
set_option maxRecDepth 100000 in
set_option maxHeartbeats 8000000 in
theorem blank_any (s : S) (ad : Option Addr) (k : Nat) (w : World) (h : CelsIn w (.slice ad s.cs.length k) s.cs) (hr : sright s = true) (h8 : Sound s.cs) (hl : s.cs.length < 10000) :
    Calls Tryz.prog 45 #[.agg #[.int .i64 s.rows, .int .i64 s.cols, .slice ad s.cs.length k, .int .i64 s.cur, .bool s.lk, .bool s.ins]] w fun e w' => GaveA w w' (herased s) e := by
  obtain ⟨r, c, cs, cur, lk, ins⟩ := s
  simp only at *
  have HP := Lib.hid (show 0 < cs.length from by have := (sright_parts hr).2; simp only at this; omega)
  have HB := Lib.hid (kept_trans (al_any w (.cells #[.int .i64 r, .int .i64 c, .slice ad cs.length k, .int .i64 cur, .bool lk, .bool ins] 24)) (al_any _ (.cells #[.int .i64 0, .int .i64 0, .slice none 0 0, .int .i64 0, .bool false, .bool false] 24)))
  have HX := Lib.hid (heap_alloc2_old w (.cells #[.int .i64 r, .int .i64 c, .slice ad cs.length k, .int .i64 cur, .bool lk, .bool ins] 24) (.cells #[.int .i64 0, .int .i64 0, .slice none 0 0, .int .i64 0, .bool false, .bool false] 24))
  have HZ := Lib.hid (heap_alloc2_new w (.cells #[.int .i64 r, .int .i64 c, .slice ad cs.length k, .int .i64 cur, .bool lk, .bool ins] 24) (.cells #[.int .i64 0, .int .i64 0, .slice none 0 0, .int .i64 0, .bool false, .bool false] 24))
  have HI := Lib.hid (h.below HB.out)
  have HL := Lib.hid hl
  have HR := Lib.hid hr
  have H8 := Lib.hid h8
  have HC := Lib.hid fun W hb => copy_any ⟨r, c, cs, cur, lk, ins⟩ ad k W (HI.out.below hb) (by simp only; omega)
  simp only at HC
  clear h hr h8 hl
  go_enter Tryz.func45, Tryz.ntmps45
  go_upto_region 1 with (fail)
  generalize (w.alloc _).alloc _ = w1 at *
  have hzx := there_lt HZ.out
  obtain ⟨c0, c1, c2, c3, c4, c5⟩ := cells6 HX.out
  go_wp2_with fail
  with_reducible refine (HC.out _ (Below.refl _ _)).mono ?_
  rintro e w2 ⟨va, vc, rfl, ho, hb⟩
  clear c0 c1 c2 c3 c4 c5
  have X2 := Lib.hid (blk HX.out hb)
  have Z2 := Lib.hid (blk HZ.out hb)
  obtain ⟨g, e1, hg1, B3⟩ := Box.over (w0 := w) X2.out ho (by simpa [] using HP.out) (show w.heap.size < w1.heap.size by omega) (Nat.le_refl _) (kept_trans HB.out hb)
  subst e1
  have H3 := Lib.hid B3
  have SF := over6 w2 w.heap.size _ _ _ _ _ _ _ (.int .i64 ((⟨r, c, cs, cur, lk, ins⟩ : S)).rows) (.int .i64 ((⟨r, c, cs, cur, lk, ins⟩ : S)).cols) (.slice (some ⟨g, 0, none⟩) ((⟨r, c, cs, cur, lk, ins⟩ : S)).cs.length vc) (.int .i64 ((⟨r, c, cs, cur, lk, ins⟩ : S)).cur) (.bool ((⟨r, c, cs, cur, lk, ins⟩ : S)).lk) (.bool ((⟨r, c, cs, cur, lk, ins⟩ : S)).ins) X2.out
  have Z3 := Lib.hid (blk_g Z2.out SF.2 (by intro e; injection e with e; omega))
  have HG := Lib.hid (show w.heap.size + 1 < g from by omega)
  simp only at H3
  clear hzx ho hb Z2 HX HZ HB HI HC SF B3
  obtain ⟨c0, c1, c2, c3, c4, c5⟩ := cells6 X2.out
  obtain ⟨f0, f1, f2, f3, f4, f5⟩ := free6 X2.out
  go_upto_region 2 with (fail)
  clear c0 c1 c2 c3 c4 c5 f0 f1 f2 f3 f4 f5 X2
  generalize (((((w2.setCell _ _).setCell _ _).setCell _ _).setCell _ _).setCell _ _).setCell _ _ = w3 at *
  obtain ⟨c0, c1, c2, c3, c4, c5⟩ := H3.out.cells
  have HCL := run_clear_cels 22 H3.out.own HP.out
  obtain ⟨hrun, hown, hgr⟩ := HCL
  have hrun' : ∀ ty, (Builtin.clear_ #[22] ty #[.slice (some ⟨g, 0, none⟩) cs.length vc]).run Tryz.prog w3 = .ok (.tuple #[]) (w3.setCells g 0 (crow (List.replicate cs.length noC))) := fun ty => (run_clear_cels ty H3.out.own HP.out).1
  have B4 : Box w (w3.setCells g 0 (crow (List.replicate cs.length noC))) w.heap.size g vc ⟨r, c, List.replicate cs.length noC, cur, lk, ins⟩ := by
    refine ⟨?_, by simpa using hown, H3.out.ne, H3.out.le, below_grown H3.out.kept hgr H3.out.ge⟩
    have := blk_g H3.out.box hgr (by intro e; injection e with e; exact H3.out.ne e.symm)
    simpa [six] using this
  have H4 := Lib.hid B4
  have Z4 := Lib.hid (blk_g Z3.out hgr (by intro e; injection e with e; have := HG.out; omega))
  clear hrun hown hgr B4
  go_upto_region 3 with (fail)
  clear hrun' c0 c1 c2 c3 c4 c5 H3 Z3
  generalize w3.setCells _ _ _ = w4 at *
  obtain ⟨c0, c1, c2, c3, c4, c5⟩ := H4.out.cells
  obtain ⟨f0, f1, f2, f3, f4, f5⟩ := H4.out.free
  have H5 := Lib.hid (H4.out.cur 0)
  have Z5 := Lib.hid (blk_g Z4.out (gsetCell w4 w.heap.size 3 (.int .i64 0)) (by intro e; injection e with e; omega))
  go_upto_region 4 with (fail)
  clear c0 c1 c2 c3 c4 c5 f0 f1 f2 f3 f4 f5 H4 Z4
  generalize w4.setCell _ _ = w5 at *
  obtain ⟨c0, c1, c2, c3, c4, c5⟩ := H5.out.cells
  obtain ⟨z0, z1, z2, z3, z4, z5⟩ := cells6 Z5.out
  obtain ⟨f0, f1, f2, f3, f4, f5⟩ := free6 Z5.out
  have SF := Lib.hid (H5.out.gave Z5.out (by have := HG.out; omega) (by omega))
  simp only [List.length_replicate] at c0 c1 c2 c3 c4 c5 SF
  go_wp2_with fail
  clear z0 z1 z2 z3 z4 z5 c0 c1 c2 c3 c4 c5 f0 f1 f2 f3 f4 f5
  generalize (((((w5.setCell _ _).setCell _ _).setCell _ _).setCell _ _).setCell _ _).setCell _ _ = w9 at *
  exact bodyPost_ret (v := .agg #[.int .i64 r, .int .i64 c, .slice (some ⟨g, 0, none⟩) cs.length vc, .int .i64 0, .bool lk, .bool ins]) (results_cell_row rfl _ _ (w.heap.size + 1) 24 _ (0, 0) _ rfl (by simpa [six] using SF.out.1) Tryz.underlying24 rfl (by kernel_rfl)) rfl ⟨some ⟨g, 0, none⟩, vc, by simp [herased], by simpa [herased] using SF.out.2.1, SF.out.2.2⟩
/-- What the code makes of a right cell. -/
theorem unmod_code {all : Bool} {o : C} (h : cright o = true) : unmod all o = if (all || !o.p) = true then { o with m := false } else o := by
  obtain ⟨f, p, n, q, m, ch⟩ := o
  cases f
  · have : m = false := by revert h; cases m <;> simp [cright]
    subst this
    simp [unmod]
  · simp [unmod]
set_option maxRecDepth 100000 in
set_option maxHeartbeats 8000000 in
theorem reset_any (s : S) (ad : Option Addr) (k : Nat) (all : Bool) (w : World) (h : CelsIn w (.slice ad s.cs.length k) s.cs) (hr : sright s = true) (h8 : Sound s.cs) (hl : s.cs.length < 10000) :
    Calls Tryz.prog 60 #[.agg #[.int .i64 s.rows, .int .i64 s.cols, .slice ad s.cs.length k, .int .i64 s.cur, .bool s.lk, .bool s.ins], .bool all] w fun e w' => GaveA w w' (hreset s all) e := by
  obtain ⟨r, c, cs, cur, lk, ins⟩ := s
  simp only at *
  have HP := Lib.hid (show 0 < cs.length from by have := (sright_parts hr).2; simp only at this; omega)
  have HB := Lib.hid (kept_trans (al_any w (.cells #[.int .i64 r, .int .i64 c, .slice ad cs.length k, .int .i64 cur, .bool lk, .bool ins] 24)) (al_any _ (.cells #[.int .i64 0, .int .i64 0, .slice none 0 0, .int .i64 0, .bool false, .bool false] 24)))
  have HX := Lib.hid (heap_alloc2_old w (.cells #[.int .i64 r, .int .i64 c, .slice ad cs.length k, .int .i64 cur, .bool lk, .bool ins] 24) (.cells #[.int .i64 0, .int .i64 0, .slice none 0 0, .int .i64 0, .bool false, .bool false] 24))
  have HZ := Lib.hid (heap_alloc2_new w (.cells #[.int .i64 r, .int .i64 c, .slice ad cs.length k, .int .i64 cur, .bool lk, .bool ins] 24) (.cells #[.int .i64 0, .int .i64 0, .slice none 0 0, .int .i64 0, .bool false, .bool false] 24))
  have HI := Lib.hid (h.below HB.out)
  have HL := Lib.hid hl
  have HR := Lib.hid hr
  have H8 := Lib.hid h8
  have HC := Lib.hid fun W hb => copy_any ⟨r, c, cs, cur, lk, ins⟩ ad k W (HI.out.below hb) (by simp only; omega)
  simp only at HC
  have HCR := Lib.hid (show ∀ i, i < cs.length → cright (cs.getD i noC) = true from fun i hi => (sright_parts hr).2.2.2.2 _ (getD_mem hi))
  clear h hr h8 hl
  go_enter Tryz.func60, Tryz.ntmps60
  go_upto_region 1 with (fail)
  generalize (w.alloc _).alloc _ = w1 at *
  have hzx := there_lt HZ.out
  obtain ⟨c0, c1, c2, c3, c4, c5⟩ := cells6 HX.out
  go_wp2_with fail
  with_reducible refine (HC.out _ (Below.refl _ _)).mono ?_
  rintro e w2 ⟨va, vc, rfl, ho, hb⟩
  clear c0 c1 c2 c3 c4 c5
  have X2 := Lib.hid (blk HX.out hb)
  have Z2 := Lib.hid (blk HZ.out hb)
  obtain ⟨g, e1, hg1, B3⟩ := Box.over (w0 := w) X2.out ho (by simpa [] using HP.out) (show w.heap.size < w1.heap.size by omega) (Nat.le_refl _) (kept_trans HB.out hb)
  subst e1
  have H3 := Lib.hid B3
  have SF := over6 w2 w.heap.size _ _ _ _ _ _ _ (.int .i64 ((⟨r, c, cs, cur, lk, ins⟩ : S)).rows) (.int .i64 ((⟨r, c, cs, cur, lk, ins⟩ : S)).cols) (.slice (some ⟨g, 0, none⟩) ((⟨r, c, cs, cur, lk, ins⟩ : S)).cs.length vc) (.int .i64 ((⟨r, c, cs, cur, lk, ins⟩ : S)).cur) (.bool ((⟨r, c, cs, cur, lk, ins⟩ : S)).lk) (.bool ((⟨r, c, cs, cur, lk, ins⟩ : S)).ins) X2.out
  have Z3 := Lib.hid (blk_g Z2.out SF.2 (by intro e; injection e with e; omega))
  have HG := Lib.hid (show w.heap.size + 1 < g from by omega)
  simp only at H3
  clear hzx ho hb Z2 HX HZ HB HI HC SF B3
  obtain ⟨c0, c1, c2, c3, c4, c5⟩ := cells6 X2.out
  obtain ⟨f0, f1, f2, f3, f4, f5⟩ := free6 X2.out
  go_upto_region 2 with (fail)
  clear c0 c1 c2 c3 c4 c5 f0 f1 f2 f3 f4 f5 X2
  generalize (((((w2.setCell _ _).setCell _ _).setCell _ _).setCell _ _).setCell _ _).setCell _ _ = w3 at *
  obtain ⟨c0, c1, c2, c3, c4, c5⟩ := H3.out.cells
  go_wp2_with fail
  rw [← resetTo_zero all cs] at H3
  have HRL := Lib.hid fun q => resetTo_length all cs q
  go_loopg [12] (cs.length + 1) (fun mm ii wr => ∃ q : Nat, q ≤ cs.length ∧ mm = cs.length + 1 - q ∧ ii = .int .i64 q ∧ Hid (Box w wr w.heap.size g vc ⟨r, c, resetTo all cs q, cur, lk, ins⟩) ∧ Hid (wr.heap[w.heap.size + 1]? = some (.cells #[.int .i64 0, .int .i64 0, .slice none 0 0, .int .i64 0, .bool false, .bool false] 24 (0, 0))))
  case atStart => exact ⟨0, Nat.zero_le _, rfl, rfl, H3, Z3⟩
  case round =>
    obtain ⟨q, hq, rfl, rfl, H4, Z4⟩ := hrel
    clear H3 Z3
    have ew : IntKind.i64.wrap ((q : Int) + 1) = (q : Int) + 1 := by
      have := HL.out
      rw [IntWalk.i64_in] <;> omega
    obtain ⟨c0, c1, c2, c3, c4, c5⟩ := H4.out.cells
    rw [HRL.out] at c2
    by_cases hlt : q < cs.length
    · have HSA := Lib.hid (resetTo_same all cs hlt)
      have HSU := Lib.hid (resetTo_succ all cs hlt)
      have HGD := Lib.hid (resetTo_getD all cs q q (Nat.le_of_lt hlt))
      have HLD := Lib.hid (show q < (resetTo all cs q).length from by rw [resetTo_length]; exact hlt)
      have HUC := Lib.hid (unmod_code (all := all) (HCR.out q hlt))
      obtain ⟨yf, yp, yn, ys, ym, yc, ey⟩ := c_eta (cs.getD q noC)
      rw [ey] at HSA HSU HGD HUC
      rw [if_neg (Nat.lt_irrefl q)] at HGD
      have hi0 : (0 : Int) ≤ (q : Int) := by omega
      have hi1 : (q : Int) < (cs.length : Int) := by omega
      obtain ⟨⟨p0, p1, p2, p3, p4, p5⟩, fz⟩ := H4.out.spot HLD.out HGD.out
      have p2' : wr.cell? ⟨g, q * 6 + 1 + 1, none⟩ = some (.bool yn) := p2
      have p3' : wr.cell? ⟨g, q * 6 + 1 + 2, none⟩ = some (.int .i64 ys) := p3
      have p4' : wr.cell? ⟨g, q * 6 + 1 + 3, none⟩ = some (.bool ym) := p4
      have HA := al_any wr (.cells #[.bool yf, .bool yp, .bool yn, .int .i64 ys, .bool ym, .int .u8 (yc : Int)] 40)
      have H5 := Lib.hid (H4.out.below HA)
      have Z5 := Lib.hid (blk Z4.out HA)
      have Y5 := Lib.hid (heap_alloc_new wr (.cells #[.bool yf, .bool yp, .bool yn, .int .i64 ys, .bool ym, .int .u8 (yc : Int)] 40))
      clear HA fz ey H4 Z4
      go_upto_region 5 with (fail)
      clear c0 c1 c2 c3 c4 c5 p0 p1 p2 p3 p4 p5 p2' p3' p4'
      have HY := Lib.hid (show Y5 = Y5 from rfl)
      generalize wr.alloc _ = w5 at *
      generalize wr.heap.size = Y at *
      clear HY
      obtain ⟨y0, y1, y2, y3, y4, y5⟩ := cells6 Y5.out
      obtain ⟨c0, c1, c2, c3, c4, c5⟩ := H5.out.cells
      rw [HRL.out] at c2
      obtain ⟨⟨_, _, _, _, p4, _⟩, fz⟩ := H5.out.spot HLD.out HGD.out
      have q4' : w5.frozen? ⟨g, q * 6 + 1 + 3, none⟩ = false := fz.2.2.2.2.1
      have p4' : w5.cell? ⟨g, q * 6 + 1 + 3, none⟩ = some (.bool ym) := p4
      have SO := H5.out.setm HLD.out false
      rw [HGD.out] at SO
      have H6 := Lib.hid SO
      have Z6 := Lib.hid (blk_g Z5.out (gsetCell w5 g (q * 6 + 4) (.bool false)) (by intro e; injection e with e; have := HG.out; omega))
      clear SO fz
      cases all <;> cases yp
      all_goals first
        | (have HS2 := Lib.hid (HSA.out (by rw [HUC.out]; rfl))
           clear H6 Z6 HSA HSU HGD p4 p4' q4'
           go_wp2_with fail
           clear y0 y1 y2 y3 y4 y5 Y5
           go_roundg (cs.length + 1 - (q + 1))
           case measure => omega
           case rel => exact ⟨q + 1, by omega, rfl, by first | rfl | go_num, by rw [HS2.out]; exact H5, Z5⟩)
        | (have HS2 := Lib.hid HSU.out
           rw [HUC.out] at HS2
           simp only [Bool.true_or, Bool.or_true, Bool.not_false, Bool.not_true, if_true] at HS2
           clear HSA HSU HGD HUC H5 Z5
           go_upto_region 7 with (fail)
           clear c0 c1 c2 c3 c4 c5 p4 p4' q4' y0 y1 y2 y3 y4 y5 Y5
           generalize w5.setCell _ _ = wt at *
           go_wp2_with fail
           go_roundg (cs.length + 1 - (q + 1))
           case measure => omega
           case rel => exact ⟨q + 1, by omega, rfl, by first | rfl | go_num, by rw [HS2.out]; exact H6, Z6⟩)
    · obtain rfl : q = cs.length := by omega
      have hn0 : ¬ (cs.length : Int) < (cs.length : Int) := by omega
      rw [resetTo_all] at H4
      obtain ⟨f0, f1, f2, f3, f4, f5⟩ := free6 Z4.out
      obtain ⟨z0, z1, z2, z3, z4, z5⟩ := cells6 Z4.out
      have SF := Lib.hid (H4.out.gave Z4.out (by have := HG.out; omega) (by omega))
      simp only [resetC_length] at SF
      clear hlt HRL
      go_wp2_with fail
      clear z0 z1 z2 z3 z4 z5 c0 c1 c2 c3 c4 c5 f0 f1 f2 f3 f4 f5
      generalize (((((wr.setCell _ _).setCell _ _).setCell _ _).setCell _ _).setCell _ _).setCell _ _ = w9 at *
      exact bodyPost_ret (v := .agg #[.int .i64 r, .int .i64 c, .slice (some ⟨g, 0, none⟩) cs.length vc, .int .i64 cur, .bool lk, .bool ins]) (results_cell_row rfl _ _ (w.heap.size + 1) 24 _ (0, 0) _ rfl (by simpa [six, resetC_length] using SF.out.1) Tryz.underlying24 rfl (by kernel_rfl)) rfl ⟨some ⟨g, 0, none⟩, vc, by simp [hreset, resetC_length], by simpa [hreset, resetC_length] using SF.out.2.1, SF.out.2.2⟩
end Hst
end Go.Proofs.YtaopkelobglnbaaGreatDoor
