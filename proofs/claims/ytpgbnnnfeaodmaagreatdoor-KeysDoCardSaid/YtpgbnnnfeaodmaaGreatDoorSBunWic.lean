/- WipLow, WipLine, WipCode, WipOk in one text (by tools/bundle.py). -/
import Derived.Test.YtpgbnnnfeaodmaaGreatDoorSBunWip
import Derived.Test.YtpgbnnnfeaodmaaGreatDoorSBunSce
import Derived.Test.YtpgbnnnfeaodmaaGreatDoorSBunScr
import Derived.Test.YtpgbnnnfeaodmaaGreatDoorSBunHsc
import Derived.Test.YtpgbnnnfeaodmaaGreatDoorSBunErr
import Derived.Deep.Cut
import Derived.IntWalk
import Derived.Test.YtpgbnnnfeaodmaaGreatDoorSBunEdc
import Derived.Deep.LoopGhost
import Derived.Test.YtpgbnnnfeaodmaaGreatDoorSBunEdp
/- The landed code of package wipe: Wipes, wipeAll. Written by tools/gen_wip_code.py. -/
namespace Go.Proofs.YtpgbnnnfeaodmaaGreatDoor
open Go.RowKit Sha Six Apd Cut Err Att Grd Fld Scr
set_option linter.unusedVariables false
namespace Wip
open Edt
theorem wipes_any (kind : Int) (w : World) :
    Calls Tryz.prog 38 #[.int .i64 kind] w fun e w' => e = .returned (.bool (isWipe kind)) ∧ w = w' := by
  have HM := Lib.hid (show isWipe kind = (decide (12 ≤ kind) && decide (kind ≤ 14)) from rfl)
  generalize isWipe kind = res at HM ⊢
  by_cases h0 : 12 ≤ kind
  · have HE := Lib.hid (show res = decide (kind ≤ 14) by rw [HM.out]; simp [h0])
    clear HM
    go_enter Tryz.func38, Tryz.ntmps38
    go_wp2_with fail
    go_ret
    exact ⟨by rw [HE.out]; rfl, rfl⟩
  · have HE := Lib.hid (show res = false by rw [HM.out]; simp [h0])
    clear HM
    go_enter Tryz.func38, Tryz.ntmps38
    go_wp2_with fail
    go_ret
    exact ⟨by rw [HE.out]; rfl, rfl⟩
set_option maxRecDepth 100000 in
set_option maxHeartbeats 8000000 in
theorem all_any (s : S) (ad : Option Addr) (k : Nat) (w : World) (h : CelsIn w (.slice ad s.cs.length k) s.cs) (hr : sright s = true) (h8 : Sound s.cs) (hl : s.cs.length < 10000) :
    Calls Tryz.prog 61 #[.agg #[.int .i64 s.rows, .int .i64 s.cols, .slice ad s.cs.length k, .int .i64 s.cur, .bool s.lk, .bool s.ins]] w fun e w' => GaveE w w' (wall s) 0 (-1) e := by
  have HP := Lib.hid (show 0 < s.cs.length from by obtain ⟨_, _, h3, h4, _⟩ := sright_parts hr; omega)
  have HB := Lib.hid (kept_trans (al_any w (.cells #[.int .i64 s.rows, .int .i64 s.cols, .slice ad s.cs.length k, .int .i64 s.cur, .bool s.lk, .bool s.ins] 24)) (al_any _ (.cells #[.int .i64 0, .int .i64 0, .slice none 0 0, .int .i64 0, .bool false, .bool false] 24)))
  have HX := Lib.hid (heap_alloc2_old w (.cells #[.int .i64 s.rows, .int .i64 s.cols, .slice ad s.cs.length k, .int .i64 s.cur, .bool s.lk, .bool s.ins] 24) (.cells #[.int .i64 0, .int .i64 0, .slice none 0 0, .int .i64 0, .bool false, .bool false] 24))
  have HZ := Lib.hid (heap_alloc2_new w (.cells #[.int .i64 s.rows, .int .i64 s.cols, .slice ad s.cs.length k, .int .i64 s.cur, .bool s.lk, .bool s.ins] 24) (.cells #[.int .i64 0, .int .i64 0, .slice none 0 0, .int .i64 0, .bool false, .bool false] 24))
  have HI := Lib.hid (h.below HB.out)
  have HDO := fun W hb => Hst.do_ok s ad k ⟨111, false, false, false, []⟩ none 0 0 W (HI.out.below hb) hr h8 hl (Str.ordsIn_nil _ _) nofun (by decide) (Hst.clean_ok _)
  rw [show Hst.hdo s ⟨111, false, false, false, []⟩ = Hst.hclean s from by simp [Hst.hdo]] at HDO
  have HHL := Lib.hid (Hst.hclean_length s)
  have hst : Hst.hclean s = ⟨s.rows, s.cols, (Hst.hclean s).cs, Hst.curOf s.cs, false, false⟩ := rfl
  have HW := Lib.hid (show wall s = ⟨s.rows, s.cols, (Hst.hclean s).cs, Hst.curOf s.cs, false, s.ins⟩ from rfl)
  simp only [Hst.GaveS] at HDO
  rw [hst] at HDO
  simp only at HDO
  clear hst
  generalize (Hst.hclean s).cs = ts at *
  generalize Hst.curOf s.cs = cu at *
  replace HDO := Lib.hid HDO
  clear h hr h8 hl
  go_enter Tryz.func61, Tryz.ntmps61
  go_upto_region 1 with (fail)
  have hzx := Lib.hid (there_lt HZ.out)
  generalize (w.alloc _).alloc _ = w1 at *
  obtain ⟨c0, c1, c2, c3, c4, c5⟩ := cells6 HX.out
  go_wp2_with fail
  with_reducible refine (HDO.out _ (Below.refl _ _)).mono ?_
  rintro e w2 ⟨va, vc, rfl, ho, hb⟩
  clear c0 c1 c2 c3 c4 c5 HDO
  have HT0 := Lib.hid (show 0 < ts.length by rw [HHL.out]; exact HP.out)
  obtain ⟨g, e1, hg1, hg2, B3⟩ := Box.new (w0 := w) (t := (⟨s.rows, s.cols, ts, cu, false, false⟩ : S)) ho HT0.out HB.out.size (kept_trans HB.out hb)
  subst e1
  have HA := al_any w2 (.cells #[.int .i64 s.rows, .int .i64 s.cols, .slice (some ⟨g, 0, none⟩) ts.length vc, .int .i64 cu, .bool false, .bool false] 24)
  have X3 := Lib.hid (blk HX.out (kept_trans hb HA))
  have Z3 := Lib.hid (blk HZ.out (kept_trans hb HA))
  have HG := Lib.hid (show w.heap.size + 1 < g from by have := hzx.out; omega)
  have HN := Lib.hid (show w.heap.size + 1 < w2.heap.size from by have := hzx.out; have := hb.size; omega)
  simp only at B3
  replace B3 := Lib.hid B3
  clear HA ho hb hg1 hg2 HX HZ HI HB hzx
  go_upto_region 2 with (fail)
  generalize w2.heap.size = N at *
  generalize w2.alloc _ = w3 at *
  obtain ⟨c0, c1, c2, c3, c4, c5⟩ := cells6 X3.out
  obtain ⟨d0, d1, d2, d3, d4, d5⟩ := B3.out.cells
  obtain ⟨f0, f1, f2, f3, f4, f5⟩ := B3.out.free
  have B4 := Lib.hid (B3.out.ins s.ins)
  have Z4 := Lib.hid (blk_g Z3.out (gsetCell w3 N 5 (.bool s.ins)) (by intro e; injection e with e; have := HN.out; omega))
  simp only at B4
  go_upto_region 3 with (fail)
  clear c0 c1 c2 c3 c4 c5 d0 d1 d2 d3 d4 d5 f0 f1 f2 f3 f4 f5 B3 Z3 X3
  generalize w3.setCell _ _ = w4 at *
  obtain ⟨d0, d1, d2, d3, d4, d5⟩ := B4.out.cells
  obtain ⟨z0, z1, z2, z3, z4, z5⟩ := cells6 Z4.out
  obtain ⟨f0, f1, f2, f3, f4, f5⟩ := free6 Z4.out
  have SF := Lib.hid (Box.gave (w0 := w) B4.out Z4.out (by have := HG.out; omega) (show w.heap.size ≤ w.heap.size + 1 by omega))
  simp only at SF
  go_wp2_with fail
  clear d0 d1 d2 d3 d4 d5 z0 z1 z2 z3 z4 z5 f0 f1 f2 f3 f4 f5
  generalize (((((w4.setCell _ _).setCell _ _).setCell _ _).setCell _ _).setCell _ _).setCell _ _ = w9 at *
  rw [HW.out]
  exact bodyPost_ret (v := .tuple #[.agg (six (some ⟨g, 0, none⟩) vc (⟨s.rows, s.cols, ts, cu, false, s.ins⟩ : S)), .nilIface]) (results_cell_row_tmp rfl _ _ _ (w.heap.size + 1) _ rfl (run_loadVar_row w9 (w.heap.size + 1) 24 24 _ (0, 0) _ SF.out.1 Tryz.underlying24 rfl (by kernel_rfl)) _ rfl) rfl ⟨some ⟨g, 0, none⟩, vc, .nilIface, rfl, SF.out.2.1.to, .inl ⟨rfl, rfl, rfl⟩, fun _ => ⟨rfl, SF.out.2.1⟩, SF.out.2.2⟩
end Wip
end Go.Proofs.YtpgbnnnfeaodmaaGreatDoor
/- wipeLine of package wipe. Written by tools/gen_wip_code.py. -/
namespace Go.Proofs.YtpgbnnnfeaodmaaGreatDoor
open Go.RowKit Sha Six Apd Cut Err Att Grd Fld Scr
set_option linter.unusedVariables false
namespace Wip
open Edt
theorem wq_drop {l : List Nat} {cs : List C} {v : Nat → Nat} {p : Nat} (hp : l.length = p + 1) : wq (l.drop p) (fun _ => 0) (wq l v cs p) (l.drop p).length = wq l (fun i => if i + 1 < l.length then v i else 0) cs l.length := by
  have e : l.drop p = [l.getD p 0] := by
    rw [List.getD_eq_getElem?_getD, List.getElem?_eq_getElem (by omega), Option.getD_some]
    rw [List.drop_eq_getElem_cons (by omega), List.drop_eq_nil_of_le (by omega)]
  rw [e, hp]
  show (wq l v cs p).set (l.getD p 0) { (wq l v cs p).getD (l.getD p 0) noC with c := 0 } = (wq l (fun i => if i + 1 < p + 1 then v i else 0) cs p).set (l.getD p 0) { (wq l (fun i => if i + 1 < p + 1 then v i else 0) cs p).getD (l.getD p 0) noC with c := if p + 1 < p + 1 then v p else 0 }
  rw [if_neg (by omega), wq_congr (v := fun i => if i + 1 < p + 1 then v i else 0) (v' := v) p fun i hi => if_pos (by omega)]
set_option maxRecDepth 100000 in
set_option maxHeartbeats 8000000 in
theorem line_13 (s : S) (ad : Option Addr) (k kk : Nat) (v : Value) (w : World) (h : CelsIn w (.slice ad s.cs.length k) s.cs) (hr : sright s = true) (hl : s.cs.length < 10000) (hcur : s.cur = (kk : Int)) (hk : kk < s.cs.length) (ho : open_ s.cs kk = true) (hv : IntsIn w v (line s.cs kk)) :
    Calls Tryz.prog 64 #[.agg #[.int .i64 s.rows, .int .i64 s.cols, .slice ad s.cs.length k, .int .i64 s.cur, .bool s.lk, .bool s.ins], v, .int .i64 13] w fun e w' => GaveA w w' (wl s kk (wv s kk 13)) e := by
  have HP := Lib.hid (show 0 < s.cs.length by omega)
  have HB := Lib.hid (kept_trans (al_any w (.cells #[.int .i64 s.rows, .int .i64 s.cols, .slice ad s.cs.length k, .int .i64 s.cur, .bool s.lk, .bool s.ins] 24)) (al_any _ (.cells #[.int .i64 0, .int .i64 0, .slice none 0 0, .int .i64 0, .bool false, .bool false] 24)))
  have HX := Lib.hid (heap_alloc2_old w (.cells #[.int .i64 s.rows, .int .i64 s.cols, .slice ad s.cs.length k, .int .i64 s.cur, .bool s.lk, .bool s.ins] 24) (.cells #[.int .i64 0, .int .i64 0, .slice none 0 0, .int .i64 0, .bool false, .bool false] 24))
  have HZ := Lib.hid (heap_alloc2_new w (.cells #[.int .i64 s.rows, .int .i64 s.cols, .slice ad s.cs.length k, .int .i64 s.cur, .bool s.lk, .bool s.ins] 24) (.cells #[.int .i64 0, .int .i64 0, .slice none 0 0, .int .i64 0, .bool false, .bool false] 24))
  have HI := Lib.hid (h.below HB.out)
  have HV := Lib.hid hv
  have HL := Lib.hid hl
  have HK := Lib.hid hk
  have HLE := Lib.hid (show (line s.cs kk).length ≤ s.cs.length from by rw [line_length]; exact lineLen_le hk)
  have HLP := Lib.hid (show 0 < (line s.cs kk).length from by rw [line_length]; exact (lineLen_pos hk ho).1)
  have Hhl := Lib.hid (line_hl hk)
  have Hhd := Lib.hid (line_hd hk)
  have HML := Lib.hid (modif_length s kk)
  have HM := Lib.hid fun W hb => modify_any s ad k kk W (HI.out.below hb) (right_sound hr) hl hk
  have HMR := Lib.hid (modif_rest s kk)
  have HFI := Lib.hid (show (wl s kk (wv s kk 13)).cs = wq (line s.cs kk) (wv s kk 13) (modif s kk).cs (line s.cs kk).length from rfl)
  have HWV := Lib.hid (show ∀ i, i + 1 < (line s.cs kk).length → ch s kk (i + 1) = ((modif s kk).cs.getD ((line s.cs kk).getD (i + 1) 0) noC).c from fun i hi => by
    rw [line_length] at hi
    unfold ch
    rw [modif_at hk, if_neg (line_nb hk hi)])
  have HT := Lib.hid (show wl s kk (wv s kk 13) = ⟨s.rows, s.cols, (wl s kk (wv s kk 13)).cs, (kk : Int), s.lk, s.ins⟩ from by
    rw [← hcur]; rfl)
  have HLLN := Lib.hid (line_length s.cs kk)
  clear h hv hr hl hk
  rw [hcur] at HB HX HZ HI HM ⊢
  have HCU := Lib.hid hcur
  clear hcur
  obtain ⟨la, lc, rfl⟩ := HV.out.form
  go_enter Tryz.func64, Tryz.ntmps64
  go_upto_region 1 with (fail)
  generalize (w.alloc _).alloc _ = w1 at *
  have hzx := there_lt HZ.out
  obtain ⟨c0, c1, c2, c3, c4, c5⟩ := cells6 HX.out
  go_wp2_with fail
  with_reducible refine (HM.out _ (Below.refl _ _)).mono ?_
  rintro e w2 ⟨va, vc, rfl, ho2, hb⟩
  clear c0 c1 c2 c3 c4 c5
  rw [HMR.out.1, HMR.out.2.1, HMR.out.2.2.1, HMR.out.2.2.2.1, HMR.out.2.2.2.2, HCU.out] at *
  generalize hmc : (modif s kk).cs = mc at *
  generalize hlt0 : line s.cs kk = L at *
  clear hmc hlt0
  have X2 := Lib.hid (blk HX.out hb)
  have Z2 := Lib.hid (blk HZ.out hb)
  obtain ⟨g, e1, hg1, B3⟩ := Box.over (w0 := w) (t := ⟨s.rows, s.cols, mc, (kk : Int), s.lk, s.ins⟩) X2.out ho2 (by simp only; rw [HML.out]; exact HP.out) (show w.heap.size < w1.heap.size by omega) (Nat.le_refl _) (kept_trans HB.out hb)
  subst e1
  have H3 := Lib.hid B3
  have SF := over6 w2 w.heap.size _ _ _ _ _ _ _ (.int .i64 s.rows) (.int .i64 s.cols) (.slice (some ⟨g, 0, none⟩) mc.length vc) (.int .i64 (kk : Int)) (.bool s.lk) (.bool s.ins) X2.out
  have Z3 := Lib.hid (blk_g Z2.out SF.2 (by intro e; injection e with e; omega))
  have HG := Lib.hid (show w.heap.size + 1 < g from by omega)
  simp only at H3
  clear hzx ho2 hb Z2 HX HZ HB HI HM SF B3
  obtain ⟨c0, c1, c2, c3, c4, c5⟩ := cells6 X2.out
  obtain ⟨f0, f1, f2, f3, f4, f5⟩ := free6 X2.out
  go_upto_region 2 with (fail)
  clear c0 c1 c2 c3 c4 c5 f0 f1 f2 f3 f4 f5 X2
  generalize (((((w2.setCell _ _).setCell _ _).setCell _ _).setCell _ _).setCell _ _).setCell _ _ = w3 at *
  have HL2 := Lib.hid (show L.length < 100000 from by have := HLE.out; have := HL.out; omega)
  have Hhl2 := Hhl
  have HFIN := Lib.hid (show wq L (fun _ => 0) mc L.length = (wl s kk (wv s kk 13)).cs from by
    rw [HFI.out]
    exact wq_congr _ fun i _ => by unfold wv; rw [if_neg (fun h => absurd h.1 (by decide))])
  go_wp2_with fail
  go_loopg [50] (L.length + 1) (fun mm ii wr => ∃ q : Nat, q ≤ L.length ∧ mm = L.length + 1 - q ∧ ii = .int .i64 q ∧ Hid (Box w wr w.heap.size g vc ⟨s.rows, s.cols, wq L (fun _ => 0) mc q, (kk : Int), s.lk, s.ins⟩) ∧ Hid (wr.heap[w.heap.size + 1]? = some (.cells #[.int .i64 0, .int .i64 0, .slice none 0 0, .int .i64 0, .bool false, .bool false] 24 (0, 0))))
  case atStart => exact ⟨0, Nat.zero_le _, rfl, rfl, H3, Z3⟩
  case round =>
    obtain ⟨q, hq, rfl, rfl, H4, Z4⟩ := hrel
    clear H3 Z3
    have ew : IntKind.i64.wrap ((q : Int) + 1) = (q : Int) + 1 := by
      have := HL2.out
      rw [IntWalk.i64_in] <;> omega
    by_cases hlt : q < L.length
    · have V4 := HV.out.below H4.out.kept
      obtain ⟨lb, lo, hla, d1⟩ := V4.cell hlt
      have HXL := Lib.hid (show L.getD q 0 < (wq L (fun _ => 0) mc q).length by rw [wq_length]; exact Hhl2.out q hlt)
      have HQ := Lib.hid hlt
      have hi0 : (0 : Int) ≤ (q : Int) := by omega
      have hi1 : (q : Int) < (L.length : Int) := by omega
      obtain ⟨xf, xp, xn, xs, xm, xc, ex⟩ := c_eta ((wq L (fun _ => 0) mc q).getD (L.getD q 0) noC)
      obtain ⟨⟨p0, p1, p2, p3, p4, p5⟩, _, _, _, _, _, z5⟩ := H4.out.spot HXL.out ex
      have HS := Lib.hid (show wq L (fun _ => 0) mc (q + 1) = (wq L (fun _ => 0) mc q).set (L.getD q 0) { (wq L (fun _ => 0) mc q).getD (L.getD q 0) noC with c := 0 } from rfl)
      have H5 := H4.out.setc HXL.out 0
      simp only at H5
      rw [← HS.out] at H5
      replace H5 := Lib.hid H5
      have Z5 := Lib.hid (blk_g Z4.out (gsetCell wr g (L.getD q 0 * 6 + 5) (.int .u8 ((0 : Nat) : Int))) (by intro e; injection e with e; have := HG.out; omega))
      obtain ⟨c0, c1, c2, c3, c4, c5⟩ := H4.out.cells
      have HWL := Lib.hid (wq_length L (fun _ => 0) mc q)
      simp only [HWL.out] at c2
      have hx1 : ((L.getD q 0 : Nat) : Int) < (mc.length : Int) := by have := HXL.out; rw [HWL.out] at this; omega
      have hx0 : (0 : Int) ≤ ((L.getD q 0 : Nat) : Int) := by omega
      simp only [show ((0 : Nat) : Int) = 0 from rfl] at H5 Z5
      clear hlt V4 ex HS H4 Z4 HXL HWL
      generalize hy : L.getD q 0 = x at *
      replace hy := Lib.hid hy
      subst hla
      go_upto_region 15 with (fail)
      clear c0 c1 c2 c3 c4 c5 p0 p1 p2 p3 p4 p5 z5 d1
      generalize wr.setCell _ _ = w6 at *
      go_wp2_with fail
      go_roundg (L.length + 1 - (q + 1))
      case measure => omega
      case rel => exact ⟨q + 1, HQ.out, rfl, by first | rfl | go_num, H5, Z5⟩
    · obtain rfl : q = L.length := by omega
      have hn0 : ¬ (L.length : Int) < (L.length : Int) := by omega
      clear hlt
      rw [HFIN.out] at H4
      generalize hfc : (wl s kk (wv s kk 13)).cs = fc at *
      replace hfc := Lib.hid hfc
      obtain ⟨c0, c1, c2, c3, c4, c5⟩ := H4.out.cells
      obtain ⟨z0, z1, z2, z3, z4, z5⟩ := cells6 Z4.out
      obtain ⟨f0, f1, f2, f3, f4, f5⟩ := free6 Z4.out
      have SF := Lib.hid (H4.out.gave Z4.out (by have := HG.out; omega) (by omega))
      simp only at c0 c1 c2 c3 c4 c5 SF
      go_wp2_with fail
      clear z0 z1 z2 z3 z4 z5 c0 c1 c2 c3 c4 c5 f0 f1 f2 f3 f4 f5
      generalize (((((wr.setCell _ _).setCell _ _).setCell _ _).setCell _ _).setCell _ _).setCell _ _ = w9 at *
      rw [HT.out]
      exact bodyPost_ret (v := .agg (six (some ⟨g, 0, none⟩) vc ⟨s.rows, s.cols, fc, (kk : Int), s.lk, s.ins⟩)) (results_cell_row rfl _ _ (w.heap.size + 1) 24 _ (0, 0) _ rfl SF.out.1 Tryz.underlying24 rfl (by kernel_rfl)) rfl ⟨some ⟨g, 0, none⟩, vc, rfl, SF.out.2.1, SF.out.2.2⟩
set_option maxRecDepth 100000 in
set_option maxHeartbeats 8000000 in
theorem line_12 (s : S) (ad : Option Addr) (k kk : Nat) (v : Value) (w : World) (h : CelsIn w (.slice ad s.cs.length k) s.cs) (hr : sright s = true) (hl : s.cs.length < 10000) (hcur : s.cur = (kk : Int)) (hk : kk < s.cs.length) (ho : open_ s.cs kk = true) (hv : IntsIn w v (line s.cs kk)) :
    Calls Tryz.prog 64 #[.agg #[.int .i64 s.rows, .int .i64 s.cols, .slice ad s.cs.length k, .int .i64 s.cur, .bool s.lk, .bool s.ins], v, .int .i64 12] w fun e w' => GaveA w w' (wl s kk (wv s kk 12)) e := by
  have HP := Lib.hid (show 0 < s.cs.length by omega)
  have HB := Lib.hid (kept_trans (al_any w (.cells #[.int .i64 s.rows, .int .i64 s.cols, .slice ad s.cs.length k, .int .i64 s.cur, .bool s.lk, .bool s.ins] 24)) (al_any _ (.cells #[.int .i64 0, .int .i64 0, .slice none 0 0, .int .i64 0, .bool false, .bool false] 24)))
  have HX := Lib.hid (heap_alloc2_old w (.cells #[.int .i64 s.rows, .int .i64 s.cols, .slice ad s.cs.length k, .int .i64 s.cur, .bool s.lk, .bool s.ins] 24) (.cells #[.int .i64 0, .int .i64 0, .slice none 0 0, .int .i64 0, .bool false, .bool false] 24))
  have HZ := Lib.hid (heap_alloc2_new w (.cells #[.int .i64 s.rows, .int .i64 s.cols, .slice ad s.cs.length k, .int .i64 s.cur, .bool s.lk, .bool s.ins] 24) (.cells #[.int .i64 0, .int .i64 0, .slice none 0 0, .int .i64 0, .bool false, .bool false] 24))
  have HI := Lib.hid (h.below HB.out)
  have HV := Lib.hid hv
  have HL := Lib.hid hl
  have HK := Lib.hid hk
  have HLE := Lib.hid (show (line s.cs kk).length ≤ s.cs.length from by rw [line_length]; exact lineLen_le hk)
  have HLP := Lib.hid (show 0 < (line s.cs kk).length from by rw [line_length]; exact (lineLen_pos hk ho).1)
  have Hhl := Lib.hid (line_hl hk)
  have Hhd := Lib.hid (line_hd hk)
  have HML := Lib.hid (modif_length s kk)
  have HM := Lib.hid fun W hb => modify_any s ad k kk W (HI.out.below hb) (right_sound hr) hl hk
  have HMR := Lib.hid (modif_rest s kk)
  have HFI := Lib.hid (show (wl s kk (wv s kk 12)).cs = wq (line s.cs kk) (wv s kk 12) (modif s kk).cs (line s.cs kk).length from rfl)
  have HWV := Lib.hid (show ∀ i, i + 1 < (line s.cs kk).length → ch s kk (i + 1) = ((modif s kk).cs.getD ((line s.cs kk).getD (i + 1) 0) noC).c from fun i hi => by
    rw [line_length] at hi
    unfold ch
    rw [modif_at hk, if_neg (line_nb hk hi)])
  have HT := Lib.hid (show wl s kk (wv s kk 12) = ⟨s.rows, s.cols, (wl s kk (wv s kk 12)).cs, (kk : Int), s.lk, s.ins⟩ from by
    rw [← hcur]; rfl)
  have HLLN := Lib.hid (line_length s.cs kk)
  clear h hv hr hl hk
  rw [hcur] at HB HX HZ HI HM ⊢
  have HCU := Lib.hid hcur
  clear hcur
  obtain ⟨la, lc, rfl⟩ := HV.out.form
  go_enter Tryz.func64, Tryz.ntmps64
  go_upto_region 1 with (fail)
  generalize (w.alloc _).alloc _ = w1 at *
  have hzx := there_lt HZ.out
  obtain ⟨c0, c1, c2, c3, c4, c5⟩ := cells6 HX.out
  go_wp2_with fail
  with_reducible refine (HM.out _ (Below.refl _ _)).mono ?_
  rintro e w2 ⟨va, vc, rfl, ho2, hb⟩
  clear c0 c1 c2 c3 c4 c5
  rw [HMR.out.1, HMR.out.2.1, HMR.out.2.2.1, HMR.out.2.2.2.1, HMR.out.2.2.2.2, HCU.out] at *
  generalize hmc : (modif s kk).cs = mc at *
  generalize hlt0 : line s.cs kk = L at *
  clear hmc hlt0
  have X2 := Lib.hid (blk HX.out hb)
  have Z2 := Lib.hid (blk HZ.out hb)
  obtain ⟨g, e1, hg1, B3⟩ := Box.over (w0 := w) (t := ⟨s.rows, s.cols, mc, (kk : Int), s.lk, s.ins⟩) X2.out ho2 (by simp only; rw [HML.out]; exact HP.out) (show w.heap.size < w1.heap.size by omega) (Nat.le_refl _) (kept_trans HB.out hb)
  subst e1
  have H3 := Lib.hid B3
  have SF := over6 w2 w.heap.size _ _ _ _ _ _ _ (.int .i64 s.rows) (.int .i64 s.cols) (.slice (some ⟨g, 0, none⟩) mc.length vc) (.int .i64 (kk : Int)) (.bool s.lk) (.bool s.ins) X2.out
  have Z3 := Lib.hid (blk_g Z2.out SF.2 (by intro e; injection e with e; omega))
  have HG := Lib.hid (show w.heap.size + 1 < g from by omega)
  simp only at H3
  clear hzx ho2 hb Z2 HX HZ HB HI HM SF B3
  obtain ⟨c0, c1, c2, c3, c4, c5⟩ := cells6 X2.out
  obtain ⟨f0, f1, f2, f3, f4, f5⟩ := free6 X2.out
  go_upto_region 2 with (fail)
  clear c0 c1 c2 c3 c4 c5 f0 f1 f2 f3 f4 f5 X2
  generalize (((((w2.setCell _ _).setCell _ _).setCell _ _).setCell _ _).setCell _ _).setCell _ _ = w3 at *
  obtain ⟨p, hp⟩ : ∃ p, L.length = p + 1 := ⟨L.length - 1, by have := HLP.out; omega⟩
  have HPP := Lib.hid hp
  obtain ⟨vf, hvf⟩ : ∃ vf : Nat → Nat, vf = (fun i => (mc.getD (L.getD (i + 1) 0) noC).c) := ⟨_, rfl⟩
  have HVF := Lib.hid (show ∀ i, vf i = (mc.getD (L.getD (i + 1) 0) noC).c from fun i => by rw [hvf])
  have HFIN := Lib.hid (show wq (L.drop p) (fun _ => 0) (wq L vf mc p) (L.drop p).length = (wl s kk (wv s kk 12)).cs from by
    rw [HFI.out, wq_drop hp]
    exact wq_congr _ fun i hi => by
      unfold wv
      rw [← HLLN.out]
      by_cases h1 : i + 1 < L.length
      · rw [if_pos h1, if_pos ⟨rfl, h1⟩, HWV.out i h1, hvf]
      · rw [if_neg h1, if_neg (fun h => h1 h.2)])
  have HLQ := Lib.hid (show L.length < 100000 from by have := HLE.out; have := HL.out; omega)
  have HV2 := Lib.hid (ints_l (k := p) HV.out (by omega))
  have HV1 := Lib.hid (ints_l (k := 1) HV.out (by omega))
  have hrun1 : ∀ W, (Instr.slice 75 (.slice la L.length lc) (some (.int .i64 1)) none none).run Tryz.prog W = .ok (.slice (cutI la 1 lc) (L.length - 1) (lc - 1)) W := fun W => run_lI la L.length lc 1 (by omega) W
  have hrunp : ∀ W, (Instr.slice 75 (.slice la L.length lc) (some (.int .i64 (p : Int))) none none).run Tryz.prog W = .ok (.slice (cutI la p lc) (L.length - p) (lc - p)) W := fun W => run_lI la L.length lc p (by omega) W
  obtain ⟨l1, hl1⟩ : ∃ x, cutI la 1 lc = x := ⟨_, rfl⟩
  obtain ⟨l2, hl2⟩ : ∃ x, cutI la p lc = x := ⟨_, rfl⟩
  rw [hl1] at hrun1 HV1
  rw [hl2] at hrunp HV2
  clear hl1 hl2
  have hlp1 : L.length - 1 = p := by omega
  have hlpp : L.length - p = 1 := by omega
  rw [hlp1] at hrun1 HV1
  rw [hlpp] at hrunp HV2
  rw [hp] at hrun1 hrunp
  have hwp : IntKind.i64.wrap (((p + 1 : Nat) : Int) - 1) = (p : Int) := by
    have := HLQ.out
    rw [show (((p + 1 : Nat) : Int) - 1) = (p : Int) by omega, IntWalk.i64_in] <;> omega
  have hwp2 : IntKind.i64.wrap ((p : Int) + 1 - 1) = (p : Int) := by
    rw [show ((p : Int) + 1 - 1) = (p : Int) by omega, IntWalk.i64_in] <;> (have := HLQ.out; omega)
  have hw64 : wrap64 (p : Int) = (p : Int) := by
    have := HLQ.out
    exact IntWalk.wrap64_in _ (by omega)
  rw [hp]
  have HDL := Lib.hid (show (L.drop p).length = 1 from by rw [List.length_drop]; omega)
  have HDG := Lib.hid (show (L.drop p).getD 0 0 = L.getD p 0 from by simp [List.getD_eq_getElem?_getD])
  clear hvf hlp1 hlpp hp
  go_wp2_with fail
  go_loopg [23] (p + 1) (fun mm ii wr => ∃ q : Nat, q ≤ p ∧ mm = p + 1 - q ∧ ii = .int .i64 q ∧ Hid (Box w wr w.heap.size g vc ⟨s.rows, s.cols, wq L vf mc q, (kk : Int), s.lk, s.ins⟩) ∧ Hid (wr.heap[w.heap.size + 1]? = some (.cells #[.int .i64 0, .int .i64 0, .slice none 0 0, .int .i64 0, .bool false, .bool false] 24 (0, 0))))
  case atStart => exact ⟨0, Nat.zero_le _, rfl, rfl, H3, Z3⟩
  case round =>
    obtain ⟨q, hq, rfl, rfl, H4, Z4⟩ := hrel
    clear H3 Z3
    have ew : IntKind.i64.wrap ((q : Int) + 1) = (q : Int) + 1 := by
      have := HLQ.out; have := HPP.out
      rw [IntWalk.i64_in] <;> omega
    by_cases hlt : q < p
    · have hq1 : q < L.length := by have := HPP.out; omega
      have hq2 : q + 1 < L.length := by have := HPP.out; omega
      have V4 := HV.out.below H4.out.kept
      obtain ⟨lb, lo, hla, d1⟩ := V4.cell hq1
      have V5 := HV1.out.below H4.out.kept
      obtain ⟨lb2, lo2, rfl, d2⟩ := V5.cell (i := q) (by rw [List.length_drop]; omega)
      rw [show (L.drop 1).getD q 0 = L.getD (q + 1) 0 from by simp [List.getD_eq_getElem?_getD]] at d2
      have HXL := Lib.hid (show L.getD q 0 < (wq L vf mc q).length by rw [wq_length]; exact Hhl.out q hq1)
      have HXM := Lib.hid (show L.getD (q + 1) 0 < (wq L vf mc q).length by rw [wq_length]; exact Hhl.out (q + 1) hq2)
      have HQ := Lib.hid hlt
      have hi0 : (0 : Int) ≤ (q : Int) := by omega
      have hi1 : (q : Int) < (p : Int) := by omega
      have hi2 : (q : Int) < ((p + 1 : Nat) : Int) := by omega
      have hi3 : (q : Int) < (p : Int) + 1 := by omega
      have HNX := Lib.hid ((wq_at (v := vf) Hhl.out Hhd.out q (by omega)).2 (L.getD (q + 1) 0) fun i hi he => by
        have := Hhd.out _ _ hq2 (show i < L.length by omega) he
        omega)
      obtain ⟨xf, xp, xn, xs, xm, xc, ex⟩ := c_eta ((wq L vf mc q).getD (L.getD q 0) noC)
      obtain ⟨⟨p0, p1, p2, p3, p4, p5⟩, _, _, _, _, _, z5⟩ := H4.out.spot HXL.out ex
      obtain ⟨yf, yp, yn, ys, ym, yc, ey⟩ := c_eta ((wq L vf mc q).getD (L.getD (q + 1) 0) noC)
      obtain ⟨⟨_, _, _, _, _, q5⟩, _⟩ := H4.out.spot HXM.out ey
      have HYC := Lib.hid (show vf q = yc from by rw [HVF.out, ← HNX.out, ey])
      have HS := Lib.hid (show wq L vf mc (q + 1) = (wq L vf mc q).set (L.getD q 0) { (wq L vf mc q).getD (L.getD q 0) noC with c := vf q } from rfl)
      have H5 := H4.out.setc HXL.out (vf q)
      simp only at H5
      rw [← HS.out, HYC.out] at H5
      replace H5 := Lib.hid H5
      have Z5 := Lib.hid (blk_g Z4.out (gsetCell wr g (L.getD q 0 * 6 + 5) (.int .u8 ((yc : Nat) : Int))) (by intro e; injection e with e; have := HG.out; omega))
      obtain ⟨c0, c1, c2, c3, c4, c5⟩ := H4.out.cells
      have HWL := Lib.hid (wq_length L vf mc q)
      simp only [HWL.out] at c2
      have hx1 : ((L.getD q 0 : Nat) : Int) < (mc.length : Int) := by have := HXL.out; rw [HWL.out] at this; omega
      have hx0 : (0 : Int) ≤ ((L.getD q 0 : Nat) : Int) := by omega
      have hy1 : ((L.getD (q + 1) 0 : Nat) : Int) < (mc.length : Int) := by have := HXM.out; rw [HWL.out] at this; omega
      have hy0 : (0 : Int) ≤ ((L.getD (q + 1) 0 : Nat) : Int) := by omega
      clear hlt V4 V5 ex ey HS H4 Z4 HXL HXM HWL hq1 hq2 HYC HNX
      generalize L.getD q 0 = x at *
      generalize L.getD (q + 1) 0 = y at *
      subst hla
      go_upto_region 8 with (fail)
      go_region
      all_goals
        have H6 := Lib.hid (H5.out.below (Below.refl _ _).drew)
        have Z6 := Lib.hid (blk Z5.out (Below.refl _ _).drew)
        clear c0 c1 c2 c3 c4 c5 p0 p1 p2 p3 p4 p5 z5 q5 d1 d2 H5 Z5
        generalize (wr.setCell _ _).drew = w6 at *
        go_wp2_with fail
        go_roundg (p + 1 - (q + 1))
        case measure => omega
        case rel => exact ⟨q + 1, HQ.out, rfl, by first | rfl | go_num, H6, Z6⟩
    · obtain rfl : q = p := by omega
      have hn0 : ¬ (q : Int) < (q : Int) := by omega
      clear hlt
      have H3 := H4
      have Z3 := Z4
      clear H4 Z4
      obtain ⟨cs2, hcs2⟩ : ∃ cs2, wq L vf mc q = cs2 := ⟨_, rfl⟩
      have HCL := Lib.hid (show cs2.length = mc.length from by rw [← hcs2]; exact wq_length _ _ _ _)
      have Hhl2 := Lib.hid (show ∀ i, i < (L.drop q).length → (L.drop q).getD i 0 < cs2.length from fun i hi => by
        rw [HDL.out] at hi
        rw [show i = 0 by omega, HDG.out, HCL.out]
        exact Hhl.out q (by have := HPP.out; omega))
      rw [hcs2] at H3 HFIN
      have HL2 := Lib.hid (show (L.drop q).length < 100000 from by rw [HDL.out]; decide)
      rw [show (1 : Nat) = (L.drop q).length from HDL.out.symm] at HV2
      have hrun2 : ∀ W, (Instr.slice 75 (.slice la (q + 1) lc) (some (.int .i64 (q : Int))) none none).run Tryz.prog W = .ok (.slice l2 (L.drop q).length (lc - q)) W := by
        rw [HDL.out]; exact hrunp
      clear hrunp
      generalize L.drop q = M at *
      clear hcs2 ew
      generalize wr = w3 at *
      go_wp2_with fail
      go_loopg [50] (M.length + 1) (fun mm ii wr => ∃ q : Nat, q ≤ M.length ∧ mm = M.length + 1 - q ∧ ii = .int .i64 q ∧ Hid (Box w wr w.heap.size g vc ⟨s.rows, s.cols, wq M (fun _ => 0) cs2 q, (kk : Int), s.lk, s.ins⟩) ∧ Hid (wr.heap[w.heap.size + 1]? = some (.cells #[.int .i64 0, .int .i64 0, .slice none 0 0, .int .i64 0, .bool false, .bool false] 24 (0, 0))))
      case atStart => exact ⟨0, Nat.zero_le _, rfl, rfl, H3, Z3⟩
      case round =>
        obtain ⟨q, hq, rfl, rfl, H4, Z4⟩ := hrel
        clear H3 Z3
        have ew : IntKind.i64.wrap ((q : Int) + 1) = (q : Int) + 1 := by
          have := HL2.out
          rw [IntWalk.i64_in] <;> omega
        by_cases hlt : q < M.length
        · have V4 := HV2.out.below H4.out.kept
          obtain ⟨lb, lo, hla, d1⟩ := V4.cell hlt
          have HXL := Lib.hid (show M.getD q 0 < (wq M (fun _ => 0) cs2 q).length by rw [wq_length]; exact Hhl2.out q hlt)
          have HQ := Lib.hid hlt
          have hi0 : (0 : Int) ≤ (q : Int) := by omega
          have hi1 : (q : Int) < (M.length : Int) := by omega
          obtain ⟨xf, xp, xn, xs, xm, xc, ex⟩ := c_eta ((wq M (fun _ => 0) cs2 q).getD (M.getD q 0) noC)
          obtain ⟨⟨p0, p1, p2, p3, p4, p5⟩, _, _, _, _, _, z5⟩ := H4.out.spot HXL.out ex
          have HS := Lib.hid (show wq M (fun _ => 0) cs2 (q + 1) = (wq M (fun _ => 0) cs2 q).set (M.getD q 0) { (wq M (fun _ => 0) cs2 q).getD (M.getD q 0) noC with c := 0 } from rfl)
          have H5 := H4.out.setc HXL.out 0
          simp only at H5
          rw [← HS.out] at H5
          replace H5 := Lib.hid H5
          have Z5 := Lib.hid (blk_g Z4.out (gsetCell wr g (M.getD q 0 * 6 + 5) (.int .u8 ((0 : Nat) : Int))) (by intro e; injection e with e; have := HG.out; omega))
          obtain ⟨c0, c1, c2, c3, c4, c5⟩ := H4.out.cells
          have HWL := Lib.hid (wq_length M (fun _ => 0) cs2 q)
          simp only [HWL.out] at c2
          have hx1 : ((M.getD q 0 : Nat) : Int) < (cs2.length : Int) := by have := HXL.out; rw [HWL.out] at this; omega
          have hx0 : (0 : Int) ≤ ((M.getD q 0 : Nat) : Int) := by omega
          simp only [show ((0 : Nat) : Int) = 0 from rfl] at H5 Z5
          clear hlt V4 ex HS H4 Z4 HXL HWL
          generalize hy : M.getD q 0 = x at *
          replace hy := Lib.hid hy
          subst hla
          go_upto_region 15 with (fail)
          clear c0 c1 c2 c3 c4 c5 p0 p1 p2 p3 p4 p5 z5 d1
          generalize wr.setCell _ _ = w6 at *
          go_wp2_with fail
          go_roundg (M.length + 1 - (q + 1))
          case measure => omega
          case rel => exact ⟨q + 1, HQ.out, rfl, by first | rfl | go_num, H5, Z5⟩
        · obtain rfl : q = M.length := by omega
          have hn0 : ¬ (M.length : Int) < (M.length : Int) := by omega
          clear hlt
          rw [HFIN.out] at H4
          generalize hfc : (wl s kk (wv s kk 12)).cs = fc at *
          replace hfc := Lib.hid hfc
          obtain ⟨c0, c1, c2, c3, c4, c5⟩ := H4.out.cells
          obtain ⟨z0, z1, z2, z3, z4, z5⟩ := cells6 Z4.out
          obtain ⟨f0, f1, f2, f3, f4, f5⟩ := free6 Z4.out
          have SF := Lib.hid (H4.out.gave Z4.out (by have := HG.out; omega) (by omega))
          simp only at c0 c1 c2 c3 c4 c5 SF
          go_wp2_with fail
          clear z0 z1 z2 z3 z4 z5 c0 c1 c2 c3 c4 c5 f0 f1 f2 f3 f4 f5
          generalize (((((wr.setCell _ _).setCell _ _).setCell _ _).setCell _ _).setCell _ _).setCell _ _ = w9 at *
          rw [HT.out]
          exact bodyPost_ret (v := .agg (six (some ⟨g, 0, none⟩) vc ⟨s.rows, s.cols, fc, (kk : Int), s.lk, s.ins⟩)) (results_cell_row rfl _ _ (w.heap.size + 1) 24 _ (0, 0) _ rfl SF.out.1 Tryz.underlying24 rfl (by kernel_rfl)) rfl ⟨some ⟨g, 0, none⟩, vc, rfl, SF.out.2.1, SF.out.2.2⟩
end Wip
end Go.Proofs.YtpgbnnnfeaodmaaGreatDoor
/- The landed code of package wipe: Do. Written by tools/gen_wip_code.py. -/
namespace Go.Proofs.YtpgbnnnfeaodmaaGreatDoor
open Go.RowKit Sha Six Apd Cut Err Att Grd Fld Scr
set_option linter.unusedVariables false
namespace Wip
open Edt
set_option maxRecDepth 100000 in
set_option maxHeartbeats 8000000 in
theorem do_any (s : S) (ad : Option Addr) (k : Nat) (kind : Int) (w : World) (h : CelsIn w (.slice ad s.cs.length k) s.cs) (hr : sright s = true) (h8 : Sound s.cs) (hl : s.cs.length < 10000) :
    Calls Tryz.prog 39 #[.agg #[.int .i64 s.rows, .int .i64 s.cols, .slice ad s.cs.length k, .int .i64 s.cur, .bool s.lk, .bool s.ins], .int .i64 kind] w fun e w' => GaveE w w' (wdo s kind).1 ((wdo s kind).2.1 : Nat) (wdo s kind).2.2 e := by
  obtain ⟨kk, hk1, _, hk3⟩ := cur_nat hr
  obtain ⟨r, cc, cs, cur, lk, ins⟩ := s
  simp only at *
  subst hk1
  have HP := Lib.hid (show 0 < cs.length by omega)
  have HB := Lib.hid (kept_trans (al_any w (.cells #[.int .i64 r, .int .i64 cc, .slice ad cs.length k, .int .i64 (kk : Int), .bool lk, .bool ins] 24)) (al_any _ (.cells #[.int .i64 0, .int .i64 0, .slice none 0 0, .int .i64 0, .bool false, .bool false] 24)))
  have HX := Lib.hid (heap_alloc2_old w (.cells #[.int .i64 r, .int .i64 cc, .slice ad cs.length k, .int .i64 (kk : Int), .bool lk, .bool ins] 24) (.cells #[.int .i64 0, .int .i64 0, .slice none 0 0, .int .i64 0, .bool false, .bool false] 24))
  have HZ := Lib.hid (heap_alloc2_new w (.cells #[.int .i64 r, .int .i64 cc, .slice ad cs.length k, .int .i64 (kk : Int), .bool lk, .bool ins] 24) (.cells #[.int .i64 0, .int .i64 0, .slice none 0 0, .int .i64 0, .bool false, .bool false] 24))
  have HI := Lib.hid (h.below HB.out)
  have HR := Lib.hid hr
  have H8 := Lib.hid h8
  have HL := Lib.hid hl
  have HK := Lib.hid hk3
  have HWI := Lib.hid fun W => wipes_any kind W
  clear h hr h8 hl hk3
  cases hwi : isWipe kind with
  | false =>
    have HT := Lib.hid (show wdo ⟨r, cc, cs, (kk : Int), lk, ins⟩ kind = (⟨r, cc, cs, (kk : Int), lk, ins⟩, 1, -1) from wdo_1 hwi)
    rw [hwi] at HWI
    clear hwi
    go_enter Tryz.func39, Tryz.ntmps39
    go_upto_region 1 with (fail)
    generalize (w.alloc _).alloc _ = w1 at *
    go_wp2_with fail
    with_reducible refine (HWI.out _).mono ?_
    rintro e w2 ⟨rfl, rfl⟩
    obtain ⟨c0, c1, c2, c3, c4, c5⟩ := cells6 HX.out
    have SF := Lib.hid (lay_E (t := (⟨r, cc, cs, (kk : Int), lk, ins⟩ : S)) HZ.out HI.out (show Err.Told w1 (.iface 48 (.int .i64 1)) 1 (-1) from .inr (.inl ⟨rfl, rfl⟩)) HB.out (show w.heap.size ≤ w.heap.size + 1 by omega) HP.out)
    obtain ⟨f0, f1, f2, f3, f4, f5⟩ := free6 HZ.out
    obtain ⟨z0, z1, z2, z3, z4, z5⟩ := cells6 HZ.out
    go_wp2_with fail
    clear z0 z1 z2 z3 z4 z5 f0 f1 f2 f3 f4 f5 c0 c1 c2 c3 c4 c5
    generalize (((((w1.setCell _ _).setCell _ _).setCell _ _).setCell _ _).setCell _ _).setCell _ _ = w9 at *
    rw [HT.out]
    exact bodyPost_ret (v := .tuple #[.agg (six ad k (⟨r, cc, cs, (kk : Int), lk, ins⟩ : S)), .iface 48 (.int .i64 1)]) (results_cell_row_tmp rfl _ _ _ (w.heap.size + 1) _ rfl (run_loadVar_row w9 (w.heap.size + 1) 24 24 _ (0, 0) _ SF.out.1 Tryz.underlying24 rfl (by kernel_rfl)) _ rfl) rfl ⟨ad, k, _, rfl, SF.out.2.1, SF.out.2.2.1, fun h0 => absurd h0 (show ((1 : Nat) : Int) ≠ 0 by decide), SF.out.2.2.2⟩
  | true =>
    rw [hwi] at HWI
    cases lk with
    | true =>
      have HT := Lib.hid (show wdo ⟨r, cc, cs, (kk : Int), true, ins⟩ kind = (⟨r, cc, cs, (kk : Int), true, ins⟩, 7, -1) from wdo_7 hwi rfl)
      clear hwi
      go_enter Tryz.func39, Tryz.ntmps39
      go_upto_region 1 with (fail)
      generalize (w.alloc _).alloc _ = w1 at *
      go_wp2_with fail
      with_reducible refine (HWI.out _).mono ?_
      rintro e w2 ⟨rfl, rfl⟩
      obtain ⟨c0, c1, c2, c3, c4, c5⟩ := cells6 HX.out
      have SF := Lib.hid (lay_E (t := (⟨r, cc, cs, (kk : Int), true, ins⟩ : S)) HZ.out HI.out (show Err.Told w1 (.iface 48 (.int .i64 7)) 7 (-1) from .inr (.inl ⟨rfl, rfl⟩)) HB.out (show w.heap.size ≤ w.heap.size + 1 by omega) HP.out)
      obtain ⟨f0, f1, f2, f3, f4, f5⟩ := free6 HZ.out
      obtain ⟨z0, z1, z2, z3, z4, z5⟩ := cells6 HZ.out
      go_wp2_with fail
      clear z0 z1 z2 z3 z4 z5 f0 f1 f2 f3 f4 f5 c0 c1 c2 c3 c4 c5
      generalize (((((w1.setCell _ _).setCell _ _).setCell _ _).setCell _ _).setCell _ _).setCell _ _ = w9 at *
      rw [HT.out]
      exact bodyPost_ret (v := .tuple #[.agg (six ad k (⟨r, cc, cs, (kk : Int), true, ins⟩ : S)), .iface 48 (.int .i64 7)]) (results_cell_row_tmp rfl _ _ _ (w.heap.size + 1) _ rfl (run_loadVar_row w9 (w.heap.size + 1) 24 24 _ (0, 0) _ SF.out.1 Tryz.underlying24 rfl (by kernel_rfl)) _ rfl) rfl ⟨ad, k, _, rfl, SF.out.2.1, SF.out.2.2.1, fun h0 => absurd h0 (show ((7 : Nat) : Int) ≠ 0 by decide), SF.out.2.2.2⟩
    | false =>
      by_cases h14 : kind = 14
      · subst h14
        have HT := Lib.hid (show wdo ⟨r, cc, cs, (kk : Int), false, ins⟩ 14 = (wall ⟨r, cc, cs, (kk : Int), false, ins⟩, 0, -1) from wdo_14 rfl)
        have HAL := Lib.hid fun W hb => all_any ⟨r, cc, cs, (kk : Int), false, ins⟩ ad k W (HI.out.below hb) HR.out H8.out HL.out
        simp only [GaveE] at HAL
        generalize htd : wall ⟨r, cc, cs, (kk : Int), false, ins⟩ = td at *
        replace htd := Lib.hid htd
        clear hwi
        go_enter Tryz.func39, Tryz.ntmps39
        go_upto_region 1 with (fail)
        generalize (w.alloc _).alloc _ = w1 at *
        go_wp2_with fail
        with_reducible refine (HWI.out _).mono ?_
        rintro e w2 ⟨rfl, rfl⟩
        obtain ⟨c0, c1, c2, c3, c4, c5⟩ := cells6 HX.out
        go_wp2_with fail
        with_reducible refine (HAL.out _ (Below.refl _ _)).mono ?_
        rintro e wb ⟨pa, pc, ev, rfl, _, _, hn, hb⟩
        obtain ⟨rfl, hop⟩ := hn trivial
        clear hn HAL
        have ZB := Lib.hid (blk HZ.out hb)
        have hz3 := there_lt HZ.out
        have KB := kept_hid HB hb
        have SF := over6 wb (w.heap.size + 1) 24 _ _ _ _ _ _ (.int .i64 td.rows) (.int .i64 td.cols) (.slice pa td.cs.length pc) (.int .i64 td.cur) (.bool td.lk) (.bool td.ins) ZB.out
        have O9 := hop.away SF.2 (by intro e; have := own_ge hop _ e; omega)
        have O9 := Lib.hid (OwnCels.mono (b := w.heap.size) O9 (by have := HB.out.size; omega))
        have K9 := Lib.hid (below_grown KB.out SF.2 (show w.heap.size ≤ w.heap.size + 1 by omega))
        have Z9 := Lib.hid SF.1
        obtain ⟨f0, f1, f2, f3, f4, f5⟩ := free6 ZB.out
        obtain ⟨z0, z1, z2, z3, z4, z5⟩ := cells6 ZB.out
        clear SF hop hb hz3 c0 c1 c2 c3 c4 c5
        go_wp2_with fail
        clear ZB f0 f1 f2 f3 f4 f5 z0 z1 z2 z3 z4 z5
        generalize (((((wb.setCell _ _).setCell _ _).setCell _ _).setCell _ _).setCell _ _).setCell _ _ = w9 at *
        rw [HT.out]
        exact bodyPost_ret (v := .tuple #[.agg (six pa pc td), .nilIface]) (results_cell_row_tmp rfl _ _ _ (w.heap.size + 1) _ rfl (run_loadVar_row w9 (w.heap.size + 1) 24 24 _ (0, 0) _ Z9.out Tryz.underlying24 rfl (by kernel_rfl)) _ rfl) rfl ⟨pa, pc, .nilIface, rfl, O9.out.to, .inl ⟨rfl, rfl, rfl⟩, fun _ => ⟨rfl, O9.out⟩, K9.out⟩
      · have h14b : (kind == 14) = false := by simpa using h14
        have HLN := Lib.hid fun W hb => line_any ⟨r, cc, cs, (kk : Int), false, ins⟩ ad k kk W (HI.out.below hb) H8.out HL.out HK.out
        simp only at HLN
        cases ho : open_ cs kk with
        | false =>
          have HT := Lib.hid (show wdo ⟨r, cc, cs, (kk : Int), false, ins⟩ kind = (⟨r, cc, cs, (kk : Int), true, ins⟩, 8, (kk : Int)) from wdo_8 (s := ⟨r, cc, cs, (kk : Int), false, ins⟩) hwi rfl h14 ho)
          have HL0 : line cs kk = [] := line_closed ho
          rw [HL0] at HLN
          clear ho HL0 hwi h14
          go_enter Tryz.func39, Tryz.ntmps39
          go_upto_region 1 with (fail)
          generalize (w.alloc _).alloc _ = w1 at *
          go_wp2_with fail
          with_reducible refine (HWI.out _).mono ?_
          rintro e w2 ⟨rfl, rfl⟩
          obtain ⟨c0, c1, c2, c3, c4, c5⟩ := cells6 HX.out
          go_wp2_with fail
          with_reducible refine (HLN.out _ (Below.refl _ _)).mono ?_
          rintro e w2 ⟨v, rfl, hv, hb⟩
          clear c0 c1 c2 c3 c4 c5
          have X2 := Lib.hid (blk HX.out hb)
          have Z2 := Lib.hid (blk HZ.out hb)
          have I2 := Lib.hid (HI.out.below hb)
          have K2 := Lib.hid (kept_trans HB.out hb)
          obtain ⟨va, vc, rfl⟩ := hv.form
          clear hv hb HX HZ HI HB HLN
          rw [show ([] : List Nat).length = 0 from rfl]
          have HD := Lib.hid (deny_any ⟨r, cc, cs, (kk : Int), false, ins⟩ ad k 8 w2 I2.out HL.out HP.out (by decide))
          simp only [GaveE, deny] at HD
          obtain ⟨c0, c1, c2, c3, c4, c5⟩ := cells6 X2.out
          go_wp2_with fail
          with_reducible refine HD.out.mono ?_
          rintro e wd ⟨da, dc, dv, rfl, hcd, htd, _, hb⟩
          have Z3 := Lib.hid (blk Z2.out hb)
          have K3 := kept_hid K2 hb
          clear c0 c1 c2 c3 c4 c5 hb HD
          have SF := Lib.hid (lay_E (t := (⟨r, cc, cs, (kk : Int), true, ins⟩ : S)) Z3.out hcd htd K3.out (show w.heap.size ≤ w.heap.size + 1 by omega) HP.out)
          obtain ⟨f0, f1, f2, f3, f4, f5⟩ := free6 Z3.out
          obtain ⟨z0, z1, z2, z3, z4, z5⟩ := cells6 Z3.out
          go_wp2_with fail
          clear z0 z1 z2 z3 z4 z5 f0 f1 f2 f3 f4 f5
          generalize (((((wd.setCell _ _).setCell _ _).setCell _ _).setCell _ _).setCell _ _).setCell _ _ = w9 at *
          rw [HT.out]
          exact bodyPost_ret (v := .tuple #[.agg (six da dc (⟨r, cc, cs, (kk : Int), true, ins⟩ : S)), dv]) (results_cell_row_tmp rfl _ _ _ (w.heap.size + 1) _ rfl (run_loadVar_row w9 (w.heap.size + 1) 24 24 _ (0, 0) _ SF.out.1 Tryz.underlying24 rfl (by kernel_rfl)) _ rfl) rfl ⟨da, dc, _, rfl, SF.out.2.1, SF.out.2.2.1, fun h0 => absurd h0 (show ((8 : Nat) : Int) ≠ 0 by decide), SF.out.2.2.2⟩
        | true =>
          have HT := Lib.hid (show wdo ⟨r, cc, cs, (kk : Int), false, ins⟩ kind = (wl ⟨r, cc, cs, (kk : Int), false, ins⟩ kk (wv ⟨r, cc, cs, (kk : Int), false, ins⟩ kk kind), 0, -1) from wdo_0 (s := ⟨r, cc, cs, (kk : Int), false, ins⟩) hwi rfl h14 ho)
          have HLW := Lib.hid fun W v (hb : CelsIn W (.slice ad cs.length k) cs) (hv : IntsIn W v (line cs kk)) => (show Calls Tryz.prog 64 #[.agg #[.int .i64 r, .int .i64 cc, .slice ad cs.length k, .int .i64 (kk : Int), .bool false, .bool ins], v, .int .i64 kind] W fun e w' => GaveA W w' (wl ⟨r, cc, cs, (kk : Int), false, ins⟩ kk (wv ⟨r, cc, cs, (kk : Int), false, ins⟩ kk kind)) e from by
            have : kind = 12 ∨ kind = 13 := by
              unfold isWipe at hwi
              simp only [Bool.and_eq_true, decide_eq_true_eq] at hwi
              omega
            rcases this with rfl | rfl
            · exact line_12 ⟨r, cc, cs, (kk : Int), false, ins⟩ ad k kk v W hb HR.out HL.out rfl HK.out ho hv
            · exact line_13 ⟨r, cc, cs, (kk : Int), false, ins⟩ ad k kk v W hb HR.out HL.out rfl HK.out ho hv)
          simp only [GaveA] at HLW
          have hl0 : (((line cs kk).length : Int) == 0) = false := by
            have := (lineLen_pos HK.out ho).1
            rw [← line_length] at this
            rw [Bool.eq_false_iff]; intro h; rw [beq_iff_eq] at h; omega
          have HLP : ¬ (line cs kk) = [] := by
            have := (lineLen_pos HK.out ho).1
            intro h
            rw [← line_length, h] at this
            exact Nat.lt_irrefl _ this
          generalize htd : wl ⟨r, cc, cs, (kk : Int), false, ins⟩ kk (wv ⟨r, cc, cs, (kk : Int), false, ins⟩ kk kind) = td at *
          replace htd := Lib.hid htd
          clear ho hwi h14
          go_enter Tryz.func39, Tryz.ntmps39
          go_upto_region 1 with (fail)
          generalize (w.alloc _).alloc _ = w1 at *
          go_wp2_with fail
          with_reducible refine (HWI.out _).mono ?_
          rintro e w2 ⟨rfl, rfl⟩
          obtain ⟨c0, c1, c2, c3, c4, c5⟩ := cells6 HX.out
          go_wp2_with fail
          with_reducible refine (HLN.out _ (Below.refl _ _)).mono ?_
          rintro e w2 ⟨v, rfl, hv, hb⟩
          clear c0 c1 c2 c3 c4 c5
          have X2 := Lib.hid (blk HX.out hb)
          have Z2 := Lib.hid (blk HZ.out hb)
          have I2 := Lib.hid (HI.out.below hb)
          have K2 := Lib.hid (kept_trans HB.out hb)
          have HV := Lib.hid hv
          obtain ⟨va, vc, rfl⟩ := hv.form
          clear hv hb HX HZ HI HB HLN
          obtain ⟨c0, c1, c2, c3, c4, c5⟩ := cells6 X2.out
          go_wp2_with fail
          with_reducible refine (HLW.out _ _ I2.out HV.out).mono ?_
          rintro e wb ⟨pa, pc, rfl, hop, hb⟩
          clear HLW
          have ZB := Lib.hid (blk Z2.out hb)
          have hz3 := there_lt Z2.out
          have KB := kept_hid K2 hb
          have SF := over6 wb (w.heap.size + 1) 24 _ _ _ _ _ _ (.int .i64 td.rows) (.int .i64 td.cols) (.slice pa td.cs.length pc) (.int .i64 td.cur) (.bool td.lk) (.bool td.ins) ZB.out
          have O9 := hop.away SF.2 (by intro e; have := own_ge hop _ e; omega)
          have O9 := Lib.hid (OwnCels.mono (b := w.heap.size) O9 (by have := K2.out.size; omega))
          have K9 := Lib.hid (below_grown KB.out SF.2 (show w.heap.size ≤ w.heap.size + 1 by omega))
          have Z9 := Lib.hid SF.1
          obtain ⟨f0, f1, f2, f3, f4, f5⟩ := free6 ZB.out
          obtain ⟨z0, z1, z2, z3, z4, z5⟩ := cells6 ZB.out
          clear SF hop hb hz3 c0 c1 c2 c3 c4 c5
          go_wp2_with fail
          clear ZB f0 f1 f2 f3 f4 f5 z0 z1 z2 z3 z4 z5
          generalize (((((wb.setCell _ _).setCell _ _).setCell _ _).setCell _ _).setCell _ _).setCell _ _ = w9 at *
          rw [HT.out]
          exact bodyPost_ret (v := .tuple #[.agg (six pa pc td), .nilIface]) (results_cell_row_tmp rfl _ _ _ (w.heap.size + 1) _ rfl (run_loadVar_row w9 (w.heap.size + 1) 24 24 _ (0, 0) _ Z9.out Tryz.underlying24 rfl (by kernel_rfl)) _ rfl) rfl ⟨pa, pc, .nilIface, rfl, O9.out.to, .inl ⟨rfl, rfl, rfl⟩, fun _ => ⟨rfl, O9.out⟩, K9.out⟩
end Wip
end Go.Proofs.YtpgbnnnfeaodmaaGreatDoor
/- Keys that wipe on a screen that isn't locked, in the form of the laws' walks. Written by tools/gen_wip_ok.py. -/
namespace Go.Proofs.YtpgbnnnfeaodmaaGreatDoor
open Go.RowKit Sha Six Apd Cut Err Att Grd Fld Scr
set_option linter.unusedVariables false
namespace Wip
open Edt
end Wip
end Go.Proofs.YtpgbnnnfeaodmaaGreatDoor
