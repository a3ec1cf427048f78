/- wipeLine of package wipe. Written by tools/gen_wip_code.py. -/
import Derived.Test.YtaopkelobglnbaaGreatDoorWipSpec
import Derived.Test.YtaopkelobglnbaaGreatDoorEdtDen
import Derived.Test.YtaopkelobglnbaaGreatDoorScrNew
import Derived.Deep.LoopGhost
import Derived.Deep.Cut
import Derived.IntWalk
namespace Go.Proofs.YtaopkelobglnbaaGreatDoor
open Go.RowKit Sha Six Apd Cut Err Att Grd Fld Scr
set_option linter.unusedVariables false
namespace Wip
open Edt
theorem wq_drop {l : List Nat} {cs : List C} {v : Nat → Nat} {p : Nat} (hp : l.length = p + 1) : wq (l.drop p) (fun _ => 0) (wq l v cs p) (l.drop p).length = wq l (fun i => if i + 1 < l.length then v i else 0) cs l.length := by
  have e : l.drop p = [l.getD p 0] := by
    rw [List.getD_eq_getElem?_getD, List.getElem?_eq_getElem (by omega), Option.getD_some]
    rw [List.drop_eq_getElem_cons (by omega), List.drop_eq_nil_of_le (by omega)]
  rw [e, hp]
  show (wq l v cs p).set (l.getD p 0) { (wq l v cs p).getD (l.getD p 0) noC with c := 0 } = (wq l (fun i => if i + 1 < p + 1 then v i else 0) cs p).set (l.getD p 0) { (wq l (fun i => if i + 1 < p + 1 then v i else 0) cs p).getD (l.getD p 0) noC with c := if p + 1 < p + 1 then v p else 0 }
  rw [if_neg (by omega), wq_congr (v := fun i => if i + 1 < p + 1 then v i else 0) (v' := v) p fun i hi => if_pos (by omega)]
set_option maxRecDepth 100000 in
set_option maxHeartbeats 8000000 in
theorem line_13 (s : S) (ad : Option Addr) (k kk : Nat) (v : Value) (w : World) (h : CelsIn w (.slice ad s.cs.length k) s.cs) (hr : sright s = true) (hl : s.cs.length < 10000) (hcur : s.cur = (kk : Int)) (hk : kk < s.cs.length) (ho : open_ s.cs kk = true) (hv : IntsIn w v (line s.cs kk)) :
    Calls Tryz.prog 16 #[.agg #[.int .i64 s.rows, .int .i64 s.cols, .slice ad s.cs.length k, .int .i64 s.cur, .bool s.lk, .bool s.ins], v, .int .i64 13] w fun e w' => GaveA w w' (wl s kk (wv s kk 13)) e := by
  have HP := Lib.hid (show 0 < s.cs.length by omega)
  have HB := Lib.hid (kept_trans (al_any w (.cells #[.int .i64 s.rows, .int .i64 s.cols, .slice ad s.cs.length k, .int .i64 s.cur, .bool s.lk, .bool s.ins] 24)) (al_any _ (.cells #[.int .i64 0, .int .i64 0, .slice none 0 0, .int .i64 0, .bool false, .bool false] 24)))
  have HX := Lib.hid (heap_alloc2_old w (.cells #[.int .i64 s.rows, .int .i64 s.cols, .slice ad s.cs.length k, .int .i64 s.cur, .bool s.lk, .bool s.ins] 24) (.cells #[.int .i64 0, .int .i64 0, .slice none 0 0, .int .i64 0, .bool false, .bool false] 24))
  have HZ := Lib.hid (heap_alloc2_new w (.cells #[.int .i64 s.rows, .int .i64 s.cols, .slice ad s.cs.length k, .int .i64 s.cur, .bool s.lk, .bool s.ins] 24) (.cells #[.int .i64 0, .int .i64 0, .slice none 0 0, .int .i64 0, .bool false, .bool false] 24))
  have HI := Lib.hid (h.below HB.out)
  have HV := Lib.hid hv
  have HL := Lib.hid hl
  have HK := Lib.hid hk
  have HLE := Lib.hid (show (line s.cs kk).length ≤ s.cs.length from by rw [line_length]; exact lineLen_le hk)
  have HLP := Lib.hid (show 0 < (line s.cs kk).length from by rw [line_length]; exact (lineLen_pos hk ho).1)
  have Hhl := Lib.hid (line_hl hk)
  have Hhd := Lib.hid (line_hd hk)
  have HML := Lib.hid (modif_length s kk)
  have HM := Lib.hid fun W hb => modify_any s ad k kk W (HI.out.below hb) (right_sound hr) hl hk
  have HMR := Lib.hid (modif_rest s kk)
  have HFI := Lib.hid (show (wl s kk (wv s kk 13)).cs = wq (line s.cs kk) (wv s kk 13) (modif s kk).cs (line s.cs kk).length from rfl)
  have HWV := Lib.hid (show ∀ i, i + 1 < (line s.cs kk).length → ch s kk (i + 1) = ((modif s kk).cs.getD ((line s.cs kk).getD (i + 1) 0) noC).c from fun i hi => by
    rw [line_length] at hi
    unfold ch
    rw [modif_at hk, if_neg (line_nb hk hi)])
  have HT := Lib.hid (show wl s kk (wv s kk 13) = ⟨s.rows, s.cols, (wl s kk (wv s kk 13)).cs, (kk : Int), s.lk, s.ins⟩ from by
    rw [← hcur]; rfl)
  have HLLN := Lib.hid (line_length s.cs kk)
  clear h hv hr hl hk
  rw [hcur] at HB HX HZ HI HM ⊢
  have HCU := Lib.hid hcur
  clear hcur
  obtain ⟨la, lc, rfl⟩ := HV.out.form
  go_enter Tryz.func16, Tryz.ntmps16
  go_upto_region 1 with (fail)
  generalize (w.alloc _).alloc _ = w1 at *
  have hzx := there_lt HZ.out
  obtain ⟨c0, c1, c2, c3, c4, c5⟩ := cells6 HX.out
  go_wp2_with fail
  with_reducible refine (HM.out _ (Below.refl _ _)).mono ?_
  rintro e w2 ⟨va, vc, rfl, ho2, hb⟩
  clear c0 c1 c2 c3 c4 c5
  rw [HMR.out.1, HMR.out.2.1, HMR.out.2.2.1, HMR.out.2.2.2.1, HMR.out.2.2.2.2, HCU.out] at *
  generalize hmc : (modif s kk).cs = mc at *
  generalize hlt0 : line s.cs kk = L at *
  clear hmc hlt0
  have X2 := Lib.hid (blk HX.out hb)
  have Z2 := Lib.hid (blk HZ.out hb)
  obtain ⟨g, e1, hg1, B3⟩ := Box.over (w0 := w) (t := ⟨s.rows, s.cols, mc, (kk : Int), s.lk, s.ins⟩) X2.out ho2 (by simp only; rw [HML.out]; exact HP.out) (show w.heap.size < w1.heap.size by omega) (Nat.le_refl _) (kept_trans HB.out hb)
  subst e1
  have H3 := Lib.hid B3
  have SF := over6 w2 w.heap.size _ _ _ _ _ _ _ (.int .i64 s.rows) (.int .i64 s.cols) (.slice (some ⟨g, 0, none⟩) mc.length vc) (.int .i64 (kk : Int)) (.bool s.lk) (.bool s.ins) X2.out
  have Z3 := Lib.hid (blk_g Z2.out SF.2 (by intro e; injection e with e; omega))
  have HG := Lib.hid (show w.heap.size + 1 < g from by omega)
  simp only at H3
  clear hzx ho2 hb Z2 HX HZ HB HI HM SF B3
  obtain ⟨c0, c1, c2, c3, c4, c5⟩ := cells6 X2.out
  obtain ⟨f0, f1, f2, f3, f4, f5⟩ := free6 X2.out
  go_upto_region 2 with (fail)
  clear c0 c1 c2 c3 c4 c5 f0 f1 f2 f3 f4 f5 X2
  generalize (((((w2.setCell _ _).setCell _ _).setCell _ _).setCell _ _).setCell _ _).setCell _ _ = w3 at *
  have HL2 := Lib.hid (show L.length < 100000 from by have := HLE.out; have := HL.out; omega)
  have Hhl2 := Hhl
  have HFIN := Lib.hid (show wq L (fun _ => 0) mc L.length = (wl s kk (wv s kk 13)).cs from by
    rw [HFI.out]
    exact wq_congr _ fun i _ => by unfold wv; rw [if_neg (fun h => absurd h.1 (by decide))])
  go_wp2_with fail
  go_loopg [50] (L.length + 1) (fun mm ii wr => ∃ q : Nat, q ≤ L.length ∧ mm = L.length + 1 - q ∧ ii = .int .i64 q ∧ Hid (Box w wr w.heap.size g vc ⟨s.rows, s.cols, wq L (fun _ => 0) mc q, (kk : Int), s.lk, s.ins⟩) ∧ Hid (wr.heap[w.heap.size + 1]? = some (.cells #[.int .i64 0, .int .i64 0, .slice none 0 0, .int .i64 0, .bool false, .bool false] 24 (0, 0))))
  case atStart => exact ⟨0, Nat.zero_le _, rfl, rfl, H3, Z3⟩
  case round =>
    obtain ⟨q, hq, rfl, rfl, H4, Z4⟩ := hrel
    clear H3 Z3
    have ew : IntKind.i64.wrap ((q : Int) + 1) = (q : Int) + 1 := by
      have := HL2.out
      rw [IntWalk.i64_in] <;> omega
    by_cases hlt : q < L.length
    · have V4 := HV.out.below H4.out.kept
      obtain ⟨lb, lo, hla, d1⟩ := V4.cell hlt
      have HXL := Lib.hid (show L.getD q 0 < (wq L (fun _ => 0) mc q).length by rw [wq_length]; exact Hhl2.out q hlt)
      have HQ := Lib.hid hlt
      have hi0 : (0 : Int) ≤ (q : Int) := by omega
      have hi1 : (q : Int) < (L.length : Int) := by omega
      obtain ⟨xf, xp, xn, xs, xm, xc, ex⟩ := c_eta ((wq L (fun _ => 0) mc q).getD (L.getD q 0) noC)
      obtain ⟨⟨p0, p1, p2, p3, p4, p5⟩, _, _, _, _, _, z5⟩ := H4.out.spot HXL.out ex
      have HS := Lib.hid (show wq L (fun _ => 0) mc (q + 1) = (wq L (fun _ => 0) mc q).set (L.getD q 0) { (wq L (fun _ => 0) mc q).getD (L.getD q 0) noC with c := 0 } from rfl)
      have H5 := H4.out.setc HXL.out 0
      simp only at H5
      rw [← HS.out] at H5
      replace H5 := Lib.hid H5
      have Z5 := Lib.hid (blk_g Z4.out (gsetCell wr g (L.getD q 0 * 6 + 5) (.int .u8 ((0 : Nat) : Int))) (by intro e; injection e with e; have := HG.out; omega))
      obtain ⟨c0, c1, c2, c3, c4, c5⟩ := H4.out.cells
      have HWL := Lib.hid (wq_length L (fun _ => 0) mc q)
      simp only [HWL.out] at c2
      have hx1 : ((L.getD q 0 : Nat) : Int) < (mc.length : Int) := by have := HXL.out; rw [HWL.out] at this; omega
      have hx0 : (0 : Int) ≤ ((L.getD q 0 : Nat) : Int) := by omega
      simp only [show ((0 : Nat) : Int) = 0 from rfl] at H5 Z5
      clear hlt V4 ex HS H4 Z4 HXL HWL
      generalize hy : L.getD q 0 = x at *
      replace hy := Lib.hid hy
      subst hla
      go_upto_region 15 with (fail)
      clear c0 c1 c2 c3 c4 c5 p0 p1 p2 p3 p4 p5 z5 d1
      generalize wr.setCell _ _ = w6 at *
      go_wp2_with fail
      go_roundg (L.length + 1 - (q + 1))
      case measure => omega
      case rel => exact ⟨q + 1, HQ.out, rfl, by first | rfl | go_num, H5, Z5⟩
    · obtain rfl : q = L.length := by omega
      have hn0 : ¬ (L.length : Int) < (L.length : Int) := by omega
      clear hlt
      rw [HFIN.out] at H4
      generalize hfc : (wl s kk (wv s kk 13)).cs = fc at *
      replace hfc := Lib.hid hfc
      obtain ⟨c0, c1, c2, c3, c4, c5⟩ := H4.out.cells
      obtain ⟨z0, z1, z2, z3, z4, z5⟩ := cells6 Z4.out
      obtain ⟨f0, f1, f2, f3, f4, f5⟩ := free6 Z4.out
      have SF := Lib.hid (H4.out.gave Z4.out (by have := HG.out; omega) (by omega))
      simp only at c0 c1 c2 c3 c4 c5 SF
      go_wp2_with fail
      clear z0 z1 z2 z3 z4 z5 c0 c1 c2 c3 c4 c5 f0 f1 f2 f3 f4 f5
      generalize (((((wr.setCell _ _).setCell _ _).setCell _ _).setCell _ _).setCell _ _).setCell _ _ = w9 at *
      rw [HT.out]
      exact bodyPost_ret (v := .agg (six (some ⟨g, 0, none⟩) vc ⟨s.rows, s.cols, fc, (kk : Int), s.lk, s.ins⟩)) (results_cell_row rfl _ _ (w.heap.size + 1) 24 _ (0, 0) _ rfl SF.out.1 Tryz.underlying24 rfl (by kernel_rfl)) rfl ⟨some ⟨g, 0, none⟩, vc, rfl, SF.out.2.1, SF.out.2.2⟩
set_option maxRecDepth 100000 in
set_option maxHeartbeats 8000000 in
theorem line_12 (s : S) (ad : Option Addr) (k kk : Nat) (v : Value) (w : World) (h : CelsIn w (.slice ad s.cs.length k) s.cs) (hr : sright s = true) (hl : s.cs.length < 10000) (hcur : s.cur = (kk : Int)) (hk : kk < s.cs.length) (ho : open_ s.cs kk = true) (hv : IntsIn w v (line s.cs kk)) :
    Calls Tryz.prog 16 #[.agg #[.int .i64 s.rows, .int .i64 s.cols, .slice ad s.cs.length k, .int .i64 s.cur, .bool s.lk, .bool s.ins], v, .int .i64 12] w fun e w' => GaveA w w' (wl s kk (wv s kk 12)) e := by
  have HP := Lib.hid (show 0 < s.cs.length by omega)
  have HB := Lib.hid (kept_trans (al_any w (.cells #[.int .i64 s.rows, .int .i64 s.cols, .slice ad s.cs.length k, .int .i64 s.cur, .bool s.lk, .bool s.ins] 24)) (al_any _ (.cells #[.int .i64 0, .int .i64 0, .slice none 0 0, .int .i64 0, .bool false, .bool false] 24)))
  have HX := Lib.hid (heap_alloc2_old w (.cells #[.int .i64 s.rows, .int .i64 s.cols, .slice ad s.cs.length k, .int .i64 s.cur, .bool s.lk, .bool s.ins] 24) (.cells #[.int .i64 0, .int .i64 0, .slice none 0 0, .int .i64 0, .bool false, .bool false] 24))
  have HZ := Lib.hid (heap_alloc2_new w (.cells #[.int .i64 s.rows, .int .i64 s.cols, .slice ad s.cs.length k, .int .i64 s.cur, .bool s.lk, .bool s.ins] 24) (.cells #[.int .i64 0, .int .i64 0, .slice none 0 0, .int .i64 0, .bool false, .bool false] 24))
  have HI := Lib.hid (h.below HB.out)
  have HV := Lib.hid hv
  have HL := Lib.hid hl
  have HK := Lib.hid hk
  have HLE := Lib.hid (show (line s.cs kk).length ≤ s.cs.length from by rw [line_length]; exact lineLen_le hk)
  have HLP := Lib.hid (show 0 < (line s.cs kk).length from by rw [line_length]; exact (lineLen_pos hk ho).1)
  have Hhl := Lib.hid (line_hl hk)
  have Hhd := Lib.hid (line_hd hk)
  have HML := Lib.hid (modif_length s kk)
  have HM := Lib.hid fun W hb => modify_any s ad k kk W (HI.out.below hb) (right_sound hr) hl hk
  have HMR := Lib.hid (modif_rest s kk)
  have HFI := Lib.hid (show (wl s kk (wv s kk 12)).cs = wq (line s.cs kk) (wv s kk 12) (modif s kk).cs (line s.cs kk).length from rfl)
  have HWV := Lib.hid (show ∀ i, i + 1 < (line s.cs kk).length → ch s kk (i + 1) = ((modif s kk).cs.getD ((line s.cs kk).getD (i + 1) 0) noC).c from fun i hi => by
    rw [line_length] at hi
    unfold ch
    rw [modif_at hk, if_neg (line_nb hk hi)])
  have HT := Lib.hid (show wl s kk (wv s kk 12) = ⟨s.rows, s.cols, (wl s kk (wv s kk 12)).cs, (kk : Int), s.lk, s.ins⟩ from by
    rw [← hcur]; rfl)
  have HLLN := Lib.hid (line_length s.cs kk)
  clear h hv hr hl hk
  rw [hcur] at HB HX HZ HI HM ⊢
  have HCU := Lib.hid hcur
  clear hcur
  obtain ⟨la, lc, rfl⟩ := HV.out.form
  go_enter Tryz.func16, Tryz.ntmps16
  go_upto_region 1 with (fail)
  generalize (w.alloc _).alloc _ = w1 at *
  have hzx := there_lt HZ.out
  obtain ⟨c0, c1, c2, c3, c4, c5⟩ := cells6 HX.out
  go_wp2_with fail
  with_reducible refine (HM.out _ (Below.refl _ _)).mono ?_
  rintro e w2 ⟨va, vc, rfl, ho2, hb⟩
  clear c0 c1 c2 c3 c4 c5
  rw [HMR.out.1, HMR.out.2.1, HMR.out.2.2.1, HMR.out.2.2.2.1, HMR.out.2.2.2.2, HCU.out] at *
  generalize hmc : (modif s kk).cs = mc at *
  generalize hlt0 : line s.cs kk = L at *
  clear hmc hlt0
  have X2 := Lib.hid (blk HX.out hb)
  have Z2 := Lib.hid (blk HZ.out hb)
  obtain ⟨g, e1, hg1, B3⟩ := Box.over (w0 := w) (t := ⟨s.rows, s.cols, mc, (kk : Int), s.lk, s.ins⟩) X2.out ho2 (by simp only; rw [HML.out]; exact HP.out) (show w.heap.size < w1.heap.size by omega) (Nat.le_refl _) (kept_trans HB.out hb)
  subst e1
  have H3 := Lib.hid B3
  have SF := over6 w2 w.heap.size _ _ _ _ _ _ _ (.int .i64 s.rows) (.int .i64 s.cols) (.slice (some ⟨g, 0, none⟩) mc.length vc) (.int .i64 (kk : Int)) (.bool s.lk) (.bool s.ins) X2.out
  have Z3 := Lib.hid (blk_g Z2.out SF.2 (by intro e; injection e with e; omega))
  have HG := Lib.hid (show w.heap.size + 1 < g from by omega)
  simp only at H3
  clear hzx ho2 hb Z2 HX HZ HB HI HM SF B3
  obtain ⟨c0, c1, c2, c3, c4, c5⟩ := cells6 X2.out
  obtain ⟨f0, f1, f2, f3, f4, f5⟩ := free6 X2.out
  go_upto_region 2 with (fail)
  clear c0 c1 c2 c3 c4 c5 f0 f1 f2 f3 f4 f5 X2
  generalize (((((w2.setCell _ _).setCell _ _).setCell _ _).setCell _ _).setCell _ _).setCell _ _ = w3 at *
  obtain ⟨p, hp⟩ : ∃ p, L.length = p + 1 := ⟨L.length - 1, by have := HLP.out; omega⟩
  have HPP := Lib.hid hp
  obtain ⟨vf, hvf⟩ : ∃ vf : Nat → Nat, vf = (fun i => (mc.getD (L.getD (i + 1) 0) noC).c) := ⟨_, rfl⟩
  have HVF := Lib.hid (show ∀ i, vf i = (mc.getD (L.getD (i + 1) 0) noC).c from fun i => by rw [hvf])
  have HFIN := Lib.hid (show wq (L.drop p) (fun _ => 0) (wq L vf mc p) (L.drop p).length = (wl s kk (wv s kk 12)).cs from by
    rw [HFI.out, wq_drop hp]
    exact wq_congr _ fun i hi => by
      unfold wv
      rw [← HLLN.out]
      by_cases h1 : i + 1 < L.length
      · rw [if_pos h1, if_pos ⟨rfl, h1⟩, HWV.out i h1, hvf]
      · rw [if_neg h1, if_neg (fun h => h1 h.2)])
  have HLQ := Lib.hid (show L.length < 100000 from by have := HLE.out; have := HL.out; omega)
  have HV2 := Lib.hid (ints_l (k := p) HV.out (by omega))
  have HV1 := Lib.hid (ints_l (k := 1) HV.out (by omega))
  have hrun1 : ∀ W, (Instr.slice 43 (.slice la L.length lc) (some (.int .i64 1)) none none).run Tryz.prog W = .ok (.slice (cutI la 1 lc) (L.length - 1) (lc - 1)) W := fun W => run_lI la L.length lc 1 (by omega) W
  have hrunp : ∀ W, (Instr.slice 43 (.slice la L.length lc) (some (.int .i64 (p : Int))) none none).run Tryz.prog W = .ok (.slice (cutI la p lc) (L.length - p) (lc - p)) W := fun W => run_lI la L.length lc p (by omega) W
  obtain ⟨l1, hl1⟩ : ∃ x, cutI la 1 lc = x := ⟨_, rfl⟩
  obtain ⟨l2, hl2⟩ : ∃ x, cutI la p lc = x := ⟨_, rfl⟩
  rw [hl1] at hrun1 HV1
  rw [hl2] at hrunp HV2
  clear hl1 hl2
  have hlp1 : L.length - 1 = p := by omega
  have hlpp : L.length - p = 1 := by omega
  rw [hlp1] at hrun1 HV1
  rw [hlpp] at hrunp HV2
  rw [hp] at hrun1 hrunp
  have hwp : IntKind.i64.wrap (((p + 1 : Nat) : Int) - 1) = (p : Int) := by
    have := HLQ.out
    rw [show (((p + 1 : Nat) : Int) - 1) = (p : Int) by omega, IntWalk.i64_in] <;> omega
  have hwp2 : IntKind.i64.wrap ((p : Int) + 1 - 1) = (p : Int) := by
    rw [show ((p : Int) + 1 - 1) = (p : Int) by omega, IntWalk.i64_in] <;> (have := HLQ.out; omega)
  have hw64 : wrap64 (p : Int) = (p : Int) := by
    have := HLQ.out
    exact IntWalk.wrap64_in _ (by omega)
  rw [hp]
  have HDL := Lib.hid (show (L.drop p).length = 1 from by rw [List.length_drop]; omega)
  have HDG := Lib.hid (show (L.drop p).getD 0 0 = L.getD p 0 from by simp [List.getD_eq_getElem?_getD])
  clear hvf hlp1 hlpp hp
  go_wp2_with fail
  go_loopg [23] (p + 1) (fun mm ii wr => ∃ q : Nat, q ≤ p ∧ mm = p + 1 - q ∧ ii = .int .i64 q ∧ Hid (Box w wr w.heap.size g vc ⟨s.rows, s.cols, wq L vf mc q, (kk : Int), s.lk, s.ins⟩) ∧ Hid (wr.heap[w.heap.size + 1]? = some (.cells #[.int .i64 0, .int .i64 0, .slice none 0 0, .int .i64 0, .bool false, .bool false] 24 (0, 0))))
  case atStart => exact ⟨0, Nat.zero_le _, rfl, rfl, H3, Z3⟩
  case round =>
    obtain ⟨q, hq, rfl, rfl, H4, Z4⟩ := hrel
    clear H3 Z3
    have ew : IntKind.i64.wrap ((q : Int) + 1) = (q : Int) + 1 := by
      have := HLQ.out; have := HPP.out
      rw [IntWalk.i64_in] <;> omega
    by_cases hlt : q < p
    · have hq1 : q < L.length := by have := HPP.out; omega
      have hq2 : q + 1 < L.length := by have := HPP.out; omega
      have V4 := HV.out.below H4.out.kept
      obtain ⟨lb, lo, hla, d1⟩ := V4.cell hq1
      have V5 := HV1.out.below H4.out.kept
      obtain ⟨lb2, lo2, rfl, d2⟩ := V5.cell (i := q) (by rw [List.length_drop]; omega)
      rw [show (L.drop 1).getD q 0 = L.getD (q + 1) 0 from by simp [List.getD_eq_getElem?_getD]] at d2
      have HXL := Lib.hid (show L.getD q 0 < (wq L vf mc q).length by rw [wq_length]; exact Hhl.out q hq1)
      have HXM := Lib.hid (show L.getD (q + 1) 0 < (wq L vf mc q).length by rw [wq_length]; exact Hhl.out (q + 1) hq2)
      have HQ := Lib.hid hlt
      have hi0 : (0 : Int) ≤ (q : Int) := by omega
      have hi1 : (q : Int) < (p : Int) := by omega
      have hi2 : (q : Int) < ((p + 1 : Nat) : Int) := by omega
      have hi3 : (q : Int) < (p : Int) + 1 := by omega
      have HNX := Lib.hid ((wq_at (v := vf) Hhl.out Hhd.out q (by omega)).2 (L.getD (q + 1) 0) fun i hi he => by
        have := Hhd.out _ _ hq2 (show i < L.length by omega) he
        omega)
      obtain ⟨xf, xp, xn, xs, xm, xc, ex⟩ := c_eta ((wq L vf mc q).getD (L.getD q 0) noC)
      obtain ⟨⟨p0, p1, p2, p3, p4, p5⟩, _, _, _, _, _, z5⟩ := H4.out.spot HXL.out ex
      obtain ⟨yf, yp, yn, ys, ym, yc, ey⟩ := c_eta ((wq L vf mc q).getD (L.getD (q + 1) 0) noC)
      obtain ⟨⟨_, _, _, _, _, q5⟩, _⟩ := H4.out.spot HXM.out ey
      have HYC := Lib.hid (show vf q = yc from by rw [HVF.out, ← HNX.out, ey])
      have HS := Lib.hid (show wq L vf mc (q + 1) = (wq L vf mc q).set (L.getD q 0) { (wq L vf mc q).getD (L.getD q 0) noC with c := vf q } from rfl)
      have H5 := H4.out.setc HXL.out (vf q)
      simp only at H5
      rw [← HS.out, HYC.out] at H5
      replace H5 := Lib.hid H5
      have Z5 := Lib.hid (blk_g Z4.out (gsetCell wr g (L.getD q 0 * 6 + 5) (.int .u8 ((yc : Nat) : Int))) (by intro e; injection e with e; have := HG.out; omega))
      obtain ⟨c0, c1, c2, c3, c4, c5⟩ := H4.out.cells
      have HWL := Lib.hid (wq_length L vf mc q)
      simp only [HWL.out] at c2
      have hx1 : ((L.getD q 0 : Nat) : Int) < (mc.length : Int) := by have := HXL.out; rw [HWL.out] at this; omega
      have hx0 : (0 : Int) ≤ ((L.getD q 0 : Nat) : Int) := by omega
      have hy1 : ((L.getD (q + 1) 0 : Nat) : Int) < (mc.length : Int) := by have := HXM.out; rw [HWL.out] at this; omega
      have hy0 : (0 : Int) ≤ ((L.getD (q + 1) 0 : Nat) : Int) := by omega
      clear hlt V4 V5 ex ey HS H4 Z4 HXL HXM HWL hq1 hq2 HYC HNX
      generalize L.getD q 0 = x at *
      generalize L.getD (q + 1) 0 = y at *
      subst hla
      go_upto_region 8 with (fail)
      go_region
      all_goals
        have H6 := Lib.hid (H5.out.below (Below.refl _ _).drew)
        have Z6 := Lib.hid (blk Z5.out (Below.refl _ _).drew)
        clear c0 c1 c2 c3 c4 c5 p0 p1 p2 p3 p4 p5 z5 q5 d1 d2 H5 Z5
        generalize (wr.setCell _ _).drew = w6 at *
        go_wp2_with fail
        go_roundg (p + 1 - (q + 1))
        case measure => omega
        case rel => exact ⟨q + 1, HQ.out, rfl, by first | rfl | go_num, H6, Z6⟩
    · obtain rfl : q = p := by omega
      have hn0 : ¬ (q : Int) < (q : Int) := by omega
      clear hlt
      have H3 := H4
      have Z3 := Z4
      clear H4 Z4
      obtain ⟨cs2, hcs2⟩ : ∃ cs2, wq L vf mc q = cs2 := ⟨_, rfl⟩
      have HCL := Lib.hid (show cs2.length = mc.length from by rw [← hcs2]; exact wq_length _ _ _ _)
      have Hhl2 := Lib.hid (show ∀ i, i < (L.drop q).length → (L.drop q).getD i 0 < cs2.length from fun i hi => by
        rw [HDL.out] at hi
        rw [show i = 0 by omega, HDG.out, HCL.out]
        exact Hhl.out q (by have := HPP.out; omega))
      rw [hcs2] at H3 HFIN
      have HL2 := Lib.hid (show (L.drop q).length < 100000 from by rw [HDL.out]; decide)
      rw [show (1 : Nat) = (L.drop q).length from HDL.out.symm] at HV2
      have hrun2 : ∀ W, (Instr.slice 43 (.slice la (q + 1) lc) (some (.int .i64 (q : Int))) none none).run Tryz.prog W = .ok (.slice l2 (L.drop q).length (lc - q)) W := by
        rw [HDL.out]; exact hrunp
      clear hrunp
      generalize L.drop q = M at *
      clear hcs2 ew
      generalize wr = w3 at *
      go_wp2_with fail
      go_loopg [50] (M.length + 1) (fun mm ii wr => ∃ q : Nat, q ≤ M.length ∧ mm = M.length + 1 - q ∧ ii = .int .i64 q ∧ Hid (Box w wr w.heap.size g vc ⟨s.rows, s.cols, wq M (fun _ => 0) cs2 q, (kk : Int), s.lk, s.ins⟩) ∧ Hid (wr.heap[w.heap.size + 1]? = some (.cells #[.int .i64 0, .int .i64 0, .slice none 0 0, .int .i64 0, .bool false, .bool false] 24 (0, 0))))
      case atStart => exact ⟨0, Nat.zero_le _, rfl, rfl, H3, Z3⟩
      case round =>
        obtain ⟨q, hq, rfl, rfl, H4, Z4⟩ := hrel
        clear H3 Z3
        have ew : IntKind.i64.wrap ((q : Int) + 1) = (q : Int) + 1 := by
          have := HL2.out
          rw [IntWalk.i64_in] <;> omega
        by_cases hlt : q < M.length
        · have V4 := HV2.out.below H4.out.kept
          obtain ⟨lb, lo, hla, d1⟩ := V4.cell hlt
          have HXL := Lib.hid (show M.getD q 0 < (wq M (fun _ => 0) cs2 q).length by rw [wq_length]; exact Hhl2.out q hlt)
          have HQ := Lib.hid hlt
          have hi0 : (0 : Int) ≤ (q : Int) := by omega
          have hi1 : (q : Int) < (M.length : Int) := by omega
          obtain ⟨xf, xp, xn, xs, xm, xc, ex⟩ := c_eta ((wq M (fun _ => 0) cs2 q).getD (M.getD q 0) noC)
          obtain ⟨⟨p0, p1, p2, p3, p4, p5⟩, _, _, _, _, _, z5⟩ := H4.out.spot HXL.out ex
          have HS := Lib.hid (show wq M (fun _ => 0) cs2 (q + 1) = (wq M (fun _ => 0) cs2 q).set (M.getD q 0) { (wq M (fun _ => 0) cs2 q).getD (M.getD q 0) noC with c := 0 } from rfl)
          have H5 := H4.out.setc HXL.out 0
          simp only at H5
          rw [← HS.out] at H5
          replace H5 := Lib.hid H5
          have Z5 := Lib.hid (blk_g Z4.out (gsetCell wr g (M.getD q 0 * 6 + 5) (.int .u8 ((0 : Nat) : Int))) (by intro e; injection e with e; have := HG.out; omega))
          obtain ⟨c0, c1, c2, c3, c4, c5⟩ := H4.out.cells
          have HWL := Lib.hid (wq_length M (fun _ => 0) cs2 q)
          simp only [HWL.out] at c2
          have hx1 : ((M.getD q 0 : Nat) : Int) < (cs2.length : Int) := by have := HXL.out; rw [HWL.out] at this; omega
          have hx0 : (0 : Int) ≤ ((M.getD q 0 : Nat) : Int) := by omega
          simp only [show ((0 : Nat) : Int) = 0 from rfl] at H5 Z5
          clear hlt V4 ex HS H4 Z4 HXL HWL
          generalize hy : M.getD q 0 = x at *
          replace hy := Lib.hid hy
          subst hla
          go_upto_region 15 with (fail)
          clear c0 c1 c2 c3 c4 c5 p0 p1 p2 p3 p4 p5 z5 d1
          generalize wr.setCell _ _ = w6 at *
          go_wp2_with fail
          go_roundg (M.length + 1 - (q + 1))
          case measure => omega
          case rel => exact ⟨q + 1, HQ.out, rfl, by first | rfl | go_num, H5, Z5⟩
        · obtain rfl : q = M.length := by omega
          have hn0 : ¬ (M.length : Int) < (M.length : Int) := by omega
          clear hlt
          rw [HFIN.out] at H4
          generalize hfc : (wl s kk (wv s kk 12)).cs = fc at *
          replace hfc := Lib.hid hfc
          obtain ⟨c0, c1, c2, c3, c4, c5⟩ := H4.out.cells
          obtain ⟨z0, z1, z2, z3, z4, z5⟩ := cells6 Z4.out
          obtain ⟨f0, f1, f2, f3, f4, f5⟩ := free6 Z4.out
          have SF := Lib.hid (H4.out.gave Z4.out (by have := HG.out; omega) (by omega))
          simp only at c0 c1 c2 c3 c4 c5 SF
          go_wp2_with fail
          clear z0 z1 z2 z3 z4 z5 c0 c1 c2 c3 c4 c5 f0 f1 f2 f3 f4 f5
          generalize (((((wr.setCell _ _).setCell _ _).setCell _ _).setCell _ _).setCell _ _).setCell _ _ = w9 at *
          rw [HT.out]
          exact bodyPost_ret (v := .agg (six (some ⟨g, 0, none⟩) vc ⟨s.rows, s.cols, fc, (kk : Int), s.lk, s.ins⟩)) (results_cell_row rfl _ _ (w.heap.size + 1) 24 _ (0, 0) _ rfl SF.out.1 Tryz.underlying24 rfl (by kernel_rfl)) rfl ⟨some ⟨g, 0, none⟩, vc, rfl, SF.out.2.1, SF.out.2.2⟩
end Wip
end Go.Proofs.YtaopkelobglnbaaGreatDoor
