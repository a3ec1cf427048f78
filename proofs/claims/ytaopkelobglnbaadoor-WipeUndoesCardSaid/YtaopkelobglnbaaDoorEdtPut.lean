/- put of package edit: a letter into a line's cells. -/
import Derived.Test.YtaopkelobglnbaaDoorEdtPutq
import Derived.Test.YtaopkelobglnbaaDoorEdtDen
import Derived.Test.YtaopkelobglnbaaDoorEdtOn
import Derived.Deep.LoopGhost
namespace Go.Proofs.YtaopkelobglnbaaDoor
open Go.RowKit Sha Six Apd Cut Err Att Grd Fld Scr
set_option linter.unusedVariables false
namespace Edt
set_option maxRecDepth 100000 in
set_option maxHeartbeats 8000000 in
theorem put_any (s : S) (ad : Option Addr) (k kk ch : Nat) (v : Value) (w : World) (h : CelsIn w (.slice ad s.cs.length k) s.cs) (hr : sright s = true) (hl : s.cs.length < 10000) (hcur : s.cur = (kk : Int)) (hk : kk < s.cs.length) (ho : open_ s.cs kk = true) (hc : Att.char ch = true) (hc8 : ch < 256) (hv : IntsIn w v (lineTo s kk)) :
    Calls Tryd.prog 43 #[.agg #[.int .i64 s.rows, .int .i64 s.cols, .slice ad s.cs.length k, .int .i64 s.cur, .bool s.lk, .bool s.ins], .int .u8 (ch : Int), v] w fun e w' => GaveA w w' (typed s kk ch) e := by
  have HP := Lib.hid (show 0 < s.cs.length by omega)
  have HB := Lib.hid (kept_trans (al_any w (.cells #[.int .i64 s.rows, .int .i64 s.cols, .slice ad s.cs.length k, .int .i64 s.cur, .bool s.lk, .bool s.ins] 24)) (al_any _ (.cells #[.int .i64 0, .int .i64 0, .slice none 0 0, .int .i64 0, .bool false, .bool false] 24)))
  have HX := Lib.hid (heap_alloc2_old w (.cells #[.int .i64 s.rows, .int .i64 s.cols, .slice ad s.cs.length k, .int .i64 s.cur, .bool s.lk, .bool s.ins] 24) (.cells #[.int .i64 0, .int .i64 0, .slice none 0 0, .int .i64 0, .bool false, .bool false] 24))
  have HZ := Lib.hid (heap_alloc2_new w (.cells #[.int .i64 s.rows, .int .i64 s.cols, .slice ad s.cs.length k, .int .i64 s.cur, .bool s.lk, .bool s.ins] 24) (.cells #[.int .i64 0, .int .i64 0, .slice none 0 0, .int .i64 0, .bool false, .bool false] 24))
  have HI := Lib.hid (h.below HB.out)
  have HV := Lib.hid hv
  have HL := Lib.hid hl
  have HK := Lib.hid hk
  have HLL := Lib.hid (show (lineTo s kk).length = far s kk + 1 from lineTo_length hk ho)
  have HFL := Lib.hid (show far s kk + 1 ≤ s.cs.length from by have := far_lt hk ho; have := lineLen_le hk; omega)
  have Hhl := Lib.hid (lineTo_hl hk ho)
  have Hhd := Lib.hid (lineTo_hd hk ho)
  have HPL := Lib.hid (putq_laid (c := ch) hk ho)
  have HML := Lib.hid (modif_length s kk)
  have HSL := Lib.hid (right_sound (typed_right hr hk ho hc))
  have HM := Lib.hid fun W hb => modify_any s ad k kk W (HI.out.below hb) (right_sound hr) hl hk
  have HMR := Lib.hid (modif_rest s kk)
  have HT := Lib.hid (show typed s kk ch = ⟨s.rows, s.cols, laid s kk ch, (goes (laid s kk ch) kk : Nat), s.lk, s.ins⟩ from rfl)
  have HLLE := Lib.hid (laid_length s kk ch)
  have HSL2 := Lib.hid (show Sound (laid s kk ch) from HSL.out)
  clear h hv hr hl hk hc HSL
  rw [hcur] at HB HX HZ HI HM ⊢
  have HCU := Lib.hid hcur
  clear hcur
  obtain ⟨la, lc, rfl⟩ := HV.out.form
  go_enter Tryd.func43, Tryd.ntmps43
  go_upto_region 1 with (fail)
  generalize (w.alloc _).alloc _ = w1 at *
  have hzx := there_lt HZ.out
  obtain ⟨c0, c1, c2, c3, c4, c5⟩ := cells6 HX.out
  go_wp2_with fail
  with_reducible refine (HM.out _ (Below.refl _ _)).mono ?_
  rintro e w2 ⟨va, vc, rfl, ho2, hb⟩
  clear c0 c1 c2 c3 c4 c5
  rw [HMR.out.1, HMR.out.2.1, HMR.out.2.2.1, HMR.out.2.2.2.1, HMR.out.2.2.2.2, HCU.out] at *
  generalize hmc : (modif s kk).cs = mc at *
  generalize hlt : lineTo s kk = L at *
  have HEC := Lib.hid (show ∀ q, (putq L mc ch q).length = mc.length from putq_length L mc ch)
  clear hmc hlt
  have X2 := Lib.hid (blk HX.out hb)
  have Z2 := Lib.hid (blk HZ.out hb)
  obtain ⟨g, e1, hg1, B3⟩ := Box.over (w0 := w) (t := ⟨s.rows, s.cols, mc, (kk : Int), s.lk, s.ins⟩) X2.out ho2 (by simp only; rw [HML.out]; exact HP.out) (show w.heap.size < w1.heap.size by omega) (Nat.le_refl _) (kept_trans HB.out hb)
  subst e1
  have H3 := Lib.hid B3
  have SF := over6 w2 w.heap.size _ _ _ _ _ _ _ (.int .i64 s.rows) (.int .i64 s.cols) (.slice (some ⟨g, 0, none⟩) mc.length vc) (.int .i64 (kk : Int)) (.bool s.lk) (.bool s.ins) X2.out
  have Z3 := Lib.hid (blk_g Z2.out SF.2 (by intro e; injection e with e; omega))
  have HG := Lib.hid (show w.heap.size + 1 < g from by omega)
  simp only at H3
  clear hzx ho2 hb Z2 HX HZ HB HI HM SF B3
  obtain ⟨c0, c1, c2, c3, c4, c5⟩ := cells6 X2.out
  obtain ⟨f0, f1, f2, f3, f4, f5⟩ := free6 X2.out
  go_upto_region 2 with (fail)
  clear c0 c1 c2 c3 c4 c5 f0 f1 f2 f3 f4 f5 X2
  generalize (((((w2.setCell _ _).setCell _ _).setCell _ _).setCell _ _).setCell _ _).setCell _ _ = w3 at *
  have HLQ := Lib.hid (show L.length < 100000 by have := HL.out; have := HFL.out; have := HLL.out; omega)
  go_wp2_with fail
  go_loopg [1, 15] (L.length + 1) (fun mm cc ii wr => ∃ q : Nat, q ≤ L.length ∧ mm = L.length + 1 - q ∧ ii = .int .i64 q ∧ cc = .int .u8 ((chr mc L ch q : Nat) : Int) ∧ Hid (Box w wr w.heap.size g vc ⟨s.rows, s.cols, putq L mc ch q, (kk : Int), s.lk, s.ins⟩) ∧ Hid (wr.heap[w.heap.size + 1]? = some (.cells #[.int .i64 0, .int .i64 0, .slice none 0 0, .int .i64 0, .bool false, .bool false] 24 (0, 0))))
  case atStart => exact ⟨0, Nat.zero_le _, rfl, rfl, rfl, H3, Z3⟩
  case round =>
    obtain ⟨q, hq, rfl, rfl, rfl, H4, Z4⟩ := hrel
    clear H3 Z3
    have ew : IntKind.i64.wrap ((q : Int) + 1) = (q : Int) + 1 := by
      have := HLQ.out
      rw [IntWalk.i64_in] <;> omega
    by_cases hlt : q < L.length
    · have V4 := HV.out.below H4.out.kept
      obtain ⟨lb, lo, rfl, d1⟩ := V4.cell hlt
      have HXL := Lib.hid (show L.getD q 0 < (putq L mc ch q).length by rw [HEC.out]; exact Hhl.out q hlt)
      obtain ⟨hch1, hch2⟩ := putq_chr (c := ch) Hhl.out Hhd.out hlt
      have HQ := Lib.hid hlt
      have hi0 : (0 : Int) ≤ (q : Int) := by omega
      have hi1 : (q : Int) < (L.length : Int) := by omega
      obtain ⟨xf, xp, xn, xs, xm, xc, ex⟩ := c_eta ((putq L mc ch q).getD (L.getD q 0) noC)
      obtain ⟨⟨p0, p1, p2, p3, p4, p5⟩, _, _, _, _, _, z5⟩ := H4.out.spot HXL.out ex
      have HS := Lib.hid (show putq L mc ch (q + 1) = (putq L mc ch q).set (L.getD q 0) { (putq L mc ch q).getD (L.getD q 0) noC with c := chr mc L ch q } from rfl)
      have H5 := H4.out.setc HXL.out (chr mc L ch q)
      simp only at H5
      rw [← HS.out] at H5
      replace H5 := Lib.hid H5
      have Z5 := Lib.hid (blk_g Z4.out (gsetCell wr g (L.getD q 0 * 6 + 5) (.int .u8 ((chr mc L ch q : Nat) : Int))) (by intro e; injection e with e; have := HG.out; omega))
      rw [ex] at hch2
      simp only at hch2
      obtain ⟨c0, c1, c2, c3, c4, c5⟩ := H4.out.cells
      simp only [HEC.out] at c2
      rw [hch2] at p5
      have HXB := HXL.out
      rw [HEC.out] at HXB
      clear hlt V4 ex hch1 hch2 HS H4 Z4
      generalize chr mc L ch q = y at *
      generalize hy2 : chr mc L ch (q + 1) = y2 at *
      replace hy2 := Lib.hid hy2
      generalize L.getD q 0 = x at *
      have hx0 : (0 : Int) ≤ (x : Int) := by omega
      have hx1 : (x : Int) < (mc.length : Int) := by omega
      clear HXL HXB
      go_upto_region 5 with (fail)
      go_region
      all_goals
        have H6 := Lib.hid (H5.out.below (Below.refl _ _).drew)
        have Z6 := Lib.hid (blk Z5.out (Below.refl _ _).drew)
        clear c0 c1 c2 c3 c4 c5 p0 p1 p2 p3 p4 p5 z5 d1 H5 Z5
        generalize (wr.setCell _ _).drew = w6 at *
        go_wp2_with fail
        go_roundg (L.length + 1 - (q + 1))
        case measure => omega
        case rel => exact ⟨q + 1, HQ.out, rfl, by first | rfl | go_num, by rw [hy2.out], H6, Z6⟩
    · have hq2 : q = far s kk + 1 := by have := HLL.out; omega
      have hn0 : ¬ (q : Int) < (L.length : Int) := by omega
      rw [hq2, HPL.out] at H4
      clear hlt hq2
      generalize hld : laid s kk ch = ld at *
      replace hld := Lib.hid hld
      have HO := Lib.hid fun W hb => onward_any ⟨s.rows, s.cols, ld, (kk : Int), s.lk, s.ins⟩ (some ⟨g, 0, none⟩) vc kk W (H4.out.own.below hb).to HSL2.out (by simp only; rw [HLLE.out]; exact HL.out) (by simp only; rw [HLLE.out]; exact HK.out)
      simp only at HO
      obtain ⟨c0, c1, c2, c3, c4, c5⟩ := H4.out.cells
      simp only [HLLE.out] at HO c2
      rw [← HML.out] at HO c2
      go_wp2_with fail
      with_reducible refine (HO.out _ (Below.refl _ _)).mono ?_
      rintro e w5 ⟨rfl, hb⟩
      clear c0 c1 c2 c3 c4 c5 HO
      have H5 := Lib.hid (H4.out.below hb)
      have Z5 := Lib.hid (blk Z4.out hb)
      clear hb H4 Z4
      generalize goes ld kk = go at *
      obtain ⟨f0, f1, f2, f3, f4, f5⟩ := H5.out.free
      obtain ⟨c0, c1, c2, c3, c4, c5⟩ := H5.out.cells
      have H6 := Lib.hid (H5.out.cur (go : Int))
      have Z6 := Lib.hid (blk_g Z5.out (gsetCell w5 w.heap.size 3 (.int .i64 (go : Int))) (by intro e; injection e with e; omega))
      go_upto_region 8 with (fail)
      clear c0 c1 c2 c3 c4 c5 f0 f1 f2 f3 f4 f5 H5 Z5
      generalize w5.setCell _ _ = w6 at *
      obtain ⟨c0, c1, c2, c3, c4, c5⟩ := H6.out.cells
      obtain ⟨z0, z1, z2, z3, z4, z5⟩ := cells6 Z6.out
      obtain ⟨f0, f1, f2, f3, f4, f5⟩ := free6 Z6.out
      have SF := Lib.hid (H6.out.gave Z6.out (by have := HG.out; omega) (by omega))
      simp only at c0 c1 c2 c3 c4 c5 SF
      go_wp2_with fail
      clear z0 z1 z2 z3 z4 z5 c0 c1 c2 c3 c4 c5 f0 f1 f2 f3 f4 f5
      generalize (((((w6.setCell _ _).setCell _ _).setCell _ _).setCell _ _).setCell _ _).setCell _ _ = w9 at *
      rw [HT.out]
      exact bodyPost_ret (v := .agg #[.int .i64 s.rows, .int .i64 s.cols, .slice (some ⟨g, 0, none⟩) ld.length vc, .int .i64 (go : Int), .bool s.lk, .bool s.ins]) (results_cell_row rfl _ _ (w.heap.size + 1) 24 _ (0, 0) _ rfl SF.out.1 Tryd.underlying24 rfl (by kernel_rfl)) rfl ⟨some ⟨g, 0, none⟩, vc, rfl, SF.out.2.1, SF.out.2.2⟩
end Edt
end Go.Proofs.YtaopkelobglnbaaDoor
