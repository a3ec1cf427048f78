/- Deny, Modify, Line of package edit. -/
import Derived.Test.YtaopkelobglnbaaGreatDoorEdtLow
namespace Go.Proofs.YtaopkelobglnbaaGreatDoor
open Go.RowKit Sha Six Apd Cut Err Att Grd Fld Scr
set_option linter.unusedVariables false
namespace Edt
set_option maxRecDepth 100000 in
set_option maxHeartbeats 8000000 in
theorem deny_any (s : S) (ad : Option Addr) (k : Nat) (code : Int) (w : World) (h : CelsIn w (.slice ad s.cs.length k) s.cs) (hl : s.cs.length < 10000) (hz : 0 < s.cs.length) (hc : code ≠ 0) :
    Calls Tryz.prog 15 #[.agg #[.int .i64 s.rows, .int .i64 s.cols, .slice ad s.cs.length k, .int .i64 s.cur, .bool s.lk, .bool s.ins], .iface 41 (.int .i64 code)] w fun e w' => GaveE w w' (deny s) code s.cur e := by
  obtain ⟨r, c, cs, cur, lk, ins⟩ := s
  simp only at *
  have HP := Lib.hid hz
  have HB := Lib.hid (kept_trans (al_any w (.cells #[.int .i64 r, .int .i64 c, .slice ad cs.length k, .int .i64 cur, .bool lk, .bool ins] 24)) (al_any _ (.cells #[.int .i64 0, .int .i64 0, .slice none 0 0, .int .i64 0, .bool false, .bool false] 24)))
  have HX := Lib.hid (heap_alloc2_old w (.cells #[.int .i64 r, .int .i64 c, .slice ad cs.length k, .int .i64 cur, .bool lk, .bool ins] 24) (.cells #[.int .i64 0, .int .i64 0, .slice none 0 0, .int .i64 0, .bool false, .bool false] 24))
  have HZ := Lib.hid (heap_alloc2_new w (.cells #[.int .i64 r, .int .i64 c, .slice ad cs.length k, .int .i64 cur, .bool lk, .bool ins] 24) (.cells #[.int .i64 0, .int .i64 0, .slice none 0 0, .int .i64 0, .bool false, .bool false] 24))
  have HI := Lib.hid (h.below HB.out)
  have HL := Lib.hid hl
  have HCC := Lib.hid hc
  have HC := Lib.hid fun W hb => copy_any ⟨r, c, cs, cur, lk, ins⟩ ad k W (HI.out.below hb) (by simp only; omega)
  simp only at HC
  clear h hl hz hc
  go_enter Tryz.func15, Tryz.ntmps15
  go_upto_region 1 with (fail)
  generalize (w.alloc _).alloc _ = w1 at *
  have hzx := there_lt HZ.out
  obtain ⟨c0, c1, c2, c3, c4, c5⟩ := cells6 HX.out
  go_wp2_with fail
  with_reducible refine (HC.out _ (Below.refl _ _)).mono ?_
  rintro e w2 ⟨va, vc, rfl, ho, hb⟩
  clear c0 c1 c2 c3 c4 c5
  have X2 := Lib.hid (blk HX.out hb)
  have Z2 := Lib.hid (blk HZ.out hb)
  obtain ⟨g, e1, hg1, B3⟩ := Box.over (w0 := w) X2.out ho (by simpa [] using HP.out) (show w.heap.size < w1.heap.size by omega) (Nat.le_refl _) (kept_trans HB.out hb)
  subst e1
  have H3 := Lib.hid B3
  have SF := over6 w2 w.heap.size _ _ _ _ _ _ _ (.int .i64 ((⟨r, c, cs, cur, lk, ins⟩ : S)).rows) (.int .i64 ((⟨r, c, cs, cur, lk, ins⟩ : S)).cols) (.slice (some ⟨g, 0, none⟩) ((⟨r, c, cs, cur, lk, ins⟩ : S)).cs.length vc) (.int .i64 ((⟨r, c, cs, cur, lk, ins⟩ : S)).cur) (.bool ((⟨r, c, cs, cur, lk, ins⟩ : S)).lk) (.bool ((⟨r, c, cs, cur, lk, ins⟩ : S)).ins) X2.out
  have Z3 := Lib.hid (blk_g Z2.out SF.2 (by intro e; injection e with e; omega))
  have HG := Lib.hid (show w.heap.size + 1 < g from by omega)
  simp only at H3
  clear hzx ho hb Z2 HX HZ HB HI HC SF B3
  obtain ⟨c0, c1, c2, c3, c4, c5⟩ := cells6 X2.out
  obtain ⟨f0, f1, f2, f3, f4, f5⟩ := free6 X2.out
  go_upto_region 2 with (fail)
  clear c0 c1 c2 c3 c4 c5 f0 f1 f2 f3 f4 f5 X2
  generalize (((((w2.setCell _ _).setCell _ _).setCell _ _).setCell _ _).setCell _ _).setCell _ _ = w3 at *
  obtain ⟨c0, c1, c2, c3, c4, c5⟩ := H3.out.cells
  obtain ⟨f0, f1, f2, f3, f4, f5⟩ := H3.out.free
  have H5 := Lib.hid (H3.out.lk true)
  have Z5 := Lib.hid (blk_g Z3.out (gsetCell w3 w.heap.size 4 (.bool true)) (by intro e; injection e with e; omega))
  go_upto_region 3 with (fail)
  clear c0 c1 c2 c3 c4 c5 f0 f1 f2 f3 f4 f5 H3 Z3
  generalize w3.setCell _ _ = w5 at *
  obtain ⟨c0, c1, c2, c3, c4, c5⟩ := H5.out.cells
  obtain ⟨z0, z1, z2, z3, z4, z5⟩ := cells6 Z5.out
  obtain ⟨f0, f1, f2, f3, f4, f5⟩ := free6 Z5.out
  have hzl := there_lt Z5.out
  have hxl : w.heap.size < w5.heap.size := by omega
  have SF := Lib.hid (H5.out.gave Z5.out (by have := HG.out; omega) (by omega))
  simp only at c0 c1 c2 c3 c4 c5 SF
  go_region
  all_goals
    clear c0 c1 c2 c3 c4 c5 z0 z1 z2 z3 z4 z5 f0 f1 f2 f3 f4 f5
    generalize hw9 : (((((w5.setCell _ _).setCell _ _).setCell _ _).setCell _ _).setCell _ _).setCell _ _ = w9 at *
    have hsz : w9.heap.size = w5.heap.size := by rw [← hw9]; simp
    have HN : ((w9.alloc (.cells #[.int .i64 cur, .iface 41 (.int .i64 code)] 60)).drew).heap[w5.heap.size]? = some (.cells #[.int .i64 cur, .iface 41 (.int .i64 code)] 60) := by rw [← hsz]; exact heap_alloc_new w9 _
    have HA := (al_any w9 (.cells #[.int .i64 cur, .iface 41 (.int .i64 code)] 60)).drew
    clear hw9
    have Z9 := Lib.hid (blk SF.out.1 HA)
    have O9 := Lib.hid (OwnCels.below SF.out.2.1 HA)
    have K9 := kept_hid (Lib.hid SF.out.2.2) HA
    have T9 := Lib.hid (show Err.Told _ (.iface 57 (.pointer (some ⟨w5.heap.size, 0, none⟩))) code cur from .inr (.inr ⟨0, w5.heap.size, rfl, cell_of_row _ _ 0 _ _ _ HN, w5.heap.size, cur, .iface 41 (.int .i64 code), rfl, cell_of_row _ _ 0 _ _ _ HN, cell_of_row _ _ 1 _ _ _ HN, rfl⟩))
    clear HN HA SF
    generalize (w9.alloc _).drew = wz at *
    go_wp2_with fail
    exact bodyPost_ret (v := .tuple #[.agg #[.int .i64 r, .int .i64 c, .slice (some ⟨g, 0, none⟩) cs.length vc, .int .i64 cur, .bool true, .bool ins], .iface 57 (.pointer (some ⟨w5.heap.size, 0, none⟩))]) (results_cell_row_tmp rfl _ _ _ (w.heap.size + 1) _ rfl (run_loadVar_row wz (w.heap.size + 1) 24 24 _ (0, 0) _ Z9.out Tryz.underlying24 rfl (by kernel_rfl)) _ rfl) rfl ⟨some ⟨g, 0, none⟩, vc, _, rfl, O9.out.to, T9.out, fun h0 => absurd h0 HCC.out, K9.out⟩
set_option maxRecDepth 100000 in
set_option maxHeartbeats 8000000 in
theorem modify_any (s : S) (ad : Option Addr) (k a : Nat) (w : World) (h : CelsIn w (.slice ad s.cs.length k) s.cs) (h8 : Sound s.cs) (hl : s.cs.length < 10000) (ha : a < s.cs.length) :
    Calls Tryz.prog 31 #[.agg #[.int .i64 s.rows, .int .i64 s.cols, .slice ad s.cs.length k, .int .i64 s.cur, .bool s.lk, .bool s.ins], .int .i64 (a : Int)] w fun e w' => GaveA w w' (modif s a) e := by
  obtain ⟨r, c, cs, cur, lk, ins⟩ := s
  simp only at *
  have HP := Lib.hid (show 0 < cs.length by omega)
  have HB := Lib.hid (kept_trans (al_any w (.cells #[.int .i64 r, .int .i64 c, .slice ad cs.length k, .int .i64 cur, .bool lk, .bool ins] 24)) (al_any _ (.cells #[.int .i64 0, .int .i64 0, .slice none 0 0, .int .i64 0, .bool false, .bool false] 24)))
  have HX := Lib.hid (heap_alloc2_old w (.cells #[.int .i64 r, .int .i64 c, .slice ad cs.length k, .int .i64 cur, .bool lk, .bool ins] 24) (.cells #[.int .i64 0, .int .i64 0, .slice none 0 0, .int .i64 0, .bool false, .bool false] 24))
  have HZ := Lib.hid (heap_alloc2_new w (.cells #[.int .i64 r, .int .i64 c, .slice ad cs.length k, .int .i64 cur, .bool lk, .bool ins] 24) (.cells #[.int .i64 0, .int .i64 0, .slice none 0 0, .int .i64 0, .bool false, .bool false] 24))
  have HI := Lib.hid (h.below HB.out)
  have HL := Lib.hid hl
  have HA := Lib.hid ha
  have H8 := Lib.hid h8
  have HC := Lib.hid fun W hb => copy_any ⟨r, c, cs, cur, lk, ins⟩ ad k W (HI.out.below hb) (by simp only; omega)
  simp only at HC
  clear h hl ha h8
  go_enter Tryz.func31, Tryz.ntmps31
  go_upto_region 1 with (fail)
  generalize (w.alloc _).alloc _ = w1 at *
  have hzx := there_lt HZ.out
  obtain ⟨c0, c1, c2, c3, c4, c5⟩ := cells6 HX.out
  go_wp2_with fail
  with_reducible refine (HC.out _ (Below.refl _ _)).mono ?_
  rintro e w2 ⟨va, vc, rfl, ho, hb⟩
  clear c0 c1 c2 c3 c4 c5
  have X2 := Lib.hid (blk HX.out hb)
  have Z2 := Lib.hid (blk HZ.out hb)
  obtain ⟨g, e1, hg1, B3⟩ := Box.over (w0 := w) X2.out ho (by simpa [] using HP.out) (show w.heap.size < w1.heap.size by omega) (Nat.le_refl _) (kept_trans HB.out hb)
  subst e1
  have H3 := Lib.hid B3
  have SF := over6 w2 w.heap.size _ _ _ _ _ _ _ (.int .i64 ((⟨r, c, cs, cur, lk, ins⟩ : S)).rows) (.int .i64 ((⟨r, c, cs, cur, lk, ins⟩ : S)).cols) (.slice (some ⟨g, 0, none⟩) ((⟨r, c, cs, cur, lk, ins⟩ : S)).cs.length vc) (.int .i64 ((⟨r, c, cs, cur, lk, ins⟩ : S)).cur) (.bool ((⟨r, c, cs, cur, lk, ins⟩ : S)).lk) (.bool ((⟨r, c, cs, cur, lk, ins⟩ : S)).ins) X2.out
  have Z3 := Lib.hid (blk_g Z2.out SF.2 (by intro e; injection e with e; omega))
  have HG := Lib.hid (show w.heap.size + 1 < g from by omega)
  simp only at H3
  clear hzx ho hb Z2 HX HZ HB HI HC SF B3
  obtain ⟨c0, c1, c2, c3, c4, c5⟩ := cells6 X2.out
  obtain ⟨f0, f1, f2, f3, f4, f5⟩ := free6 X2.out
  go_upto_region 2 with (fail)
  clear c0 c1 c2 c3 c4 c5 f0 f1 f2 f3 f4 f5 X2
  generalize (((((w2.setCell _ _).setCell _ _).setCell _ _).setCell _ _).setCell _ _).setCell _ _ = w3 at *
  have HF := Lib.hid (fbegin_any ⟨r, c, cs, cur, lk, ins⟩ (some ⟨g, 0, none⟩) vc a w3 H3.out.own.to H8.out HP.out HL.out HA.out)
  simp only at HF
  obtain ⟨c0, c1, c2, c3, c4, c5⟩ := H3.out.cells
  go_wp2_with fail
  with_reducible refine HF.out.mono ?_
  rintro e w4 ⟨rfl, hb⟩
  clear c0 c1 c2 c3 c4 c5 HF
  have H4 := Lib.hid (H3.out.below hb)
  have Z4 := Lib.hid (blk Z3.out hb)
  clear hb H3 Z3
  by_cases hb0 : begin_ cs a < 0
  · have HM := Lib.hid (show modif ⟨r, c, cs, cur, lk, ins⟩ a = ⟨r, c, cs, cur, lk, ins⟩ by unfold modif; rw [if_pos hb0])
    have hb1 : decide (0 ≤ begin_ cs a) = false := by simp; omega
    generalize begin_ cs a = bg at *
    clear hb0
    obtain ⟨c0, c1, c2, c3, c4, c5⟩ := H4.out.cells
    obtain ⟨z0, z1, z2, z3, z4, z5⟩ := cells6 Z4.out
    obtain ⟨f0, f1, f2, f3, f4, f5⟩ := free6 Z4.out
    have SF := Lib.hid (H4.out.gave Z4.out (by have := HG.out; omega) (by omega))
    simp only at c0 c1 c2 c3 c4 c5 SF
    go_wp2_with fail
    clear z0 z1 z2 z3 z4 z5 c0 c1 c2 c3 c4 c5 f0 f1 f2 f3 f4 f5
    generalize (((((w4.setCell _ _).setCell _ _).setCell _ _).setCell _ _).setCell _ _).setCell _ _ = w9 at *
    rw [HM.out]
    exact bodyPost_ret (v := .agg #[.int .i64 r, .int .i64 c, .slice (some ⟨g, 0, none⟩) cs.length vc, .int .i64 cur, .bool lk, .bool ins]) (results_cell_row rfl _ _ (w.heap.size + 1) 24 _ (0, 0) _ rfl SF.out.1 Tryz.underlying24 rfl (by kernel_rfl)) rfl ⟨some ⟨g, 0, none⟩, vc, rfl, SF.out.2.1, SF.out.2.2⟩
  · obtain ⟨b, hbe, hbl, _⟩ := begin_fat HA.out (show 0 ≤ begin_ cs a by omega)
    have HM := Lib.hid (show modif ⟨r, c, cs, cur, lk, ins⟩ a = ⟨r, c, cs.set b { cs.getD b noC with m := true }, cur, lk, ins⟩ by unfold modif; rw [if_neg hb0, hbe]; rfl)
    rw [hbe]
    clear hbe hb0
    obtain ⟨xf, xp, xn, xs, xm, xc, ex⟩ := c_eta (cs.getD b noC)
    obtain ⟨_, _, _, _, _, f4, _⟩ := H4.out.spot hbl ex
    have f4' : w4.frozen? ⟨g, b * 6 + 1 + 3, none⟩ = false := f4
    obtain ⟨⟨_, _, _, _, q4, _⟩, _⟩ := H4.out.spot hbl ex
    have q4' : w4.cell? ⟨g, b * 6 + 1 + 3, none⟩ = some (.bool xm) := q4
    have H5 := Lib.hid (show Box w (w4.setCell ⟨g, b * 6 + 1 + 3, none⟩ (.bool true)) w.heap.size g vc _ from H4.out.setm hbl true)
    have Z5 := Lib.hid (show (w4.setCell ⟨g, b * 6 + 1 + 3, none⟩ (.bool true)).heap[w.heap.size + 1]? = _ from blk_g Z4.out (gsetCell w4 g (b * 6 + 1 + 3) (.bool true)) (by intro e; injection e with e; have := HG.out; omega))
    have hi0 : (0 : Int) ≤ (b : Int) := by omega
    have hi1 : (b : Int) < (cs.length : Int) := by omega
    obtain ⟨c0, c1, c2, c3, c4, c5⟩ := H4.out.cells
    clear ex
    go_upto_region 5 with (fail)
    clear c0 c1 c2 c3 c4 c5 f4 f4' q4 q4' H4 Z4
    generalize w4.setCell _ _ = w5 at *
    obtain ⟨c0, c1, c2, c3, c4, c5⟩ := H5.out.cells
    obtain ⟨z0, z1, z2, z3, z4, z5⟩ := cells6 Z5.out
    obtain ⟨f0, f1, f2, f3, f4, f5⟩ := free6 Z5.out
    have SF := Lib.hid (H5.out.gave Z5.out (by have := HG.out; omega) (by omega))
    simp only [List.length_set] at c0 c1 c2 c3 c4 c5 SF
    go_wp2_with fail
    clear z0 z1 z2 z3 z4 z5 c0 c1 c2 c3 c4 c5 f0 f1 f2 f3 f4 f5
    generalize (((((w5.setCell _ _).setCell _ _).setCell _ _).setCell _ _).setCell _ _).setCell _ _ = w9 at *
    rw [HM.out]
    exact bodyPost_ret (v := .agg #[.int .i64 r, .int .i64 c, .slice (some ⟨g, 0, none⟩) cs.length vc, .int .i64 cur, .bool lk, .bool ins]) (results_cell_row rfl _ _ (w.heap.size + 1) 24 _ (0, 0) _ rfl (by simpa [six] using SF.out.1) Tryz.underlying24 rfl (by kernel_rfl)) rfl ⟨some ⟨g, 0, none⟩, vc, by simp, by simpa using SF.out.2.1, SF.out.2.2⟩
set_option maxRecDepth 100000 in
set_option maxHeartbeats 8000000 in
theorem line_any (s : S) (ad : Option Addr) (k a : Nat) (w : World) (h : CelsIn w (.slice ad s.cs.length k) s.cs) (h8 : Sound s.cs) (hl : s.cs.length < 10000) (ha : a < s.cs.length) :
    Calls Tryz.prog 14 #[.agg #[.int .i64 s.rows, .int .i64 s.cols, .slice ad s.cs.length k, .int .i64 s.cur, .bool s.lk, .bool s.ins], .int .i64 (a : Int)] w fun e w' => ∃ v, e = .returned v ∧ IntsIn w' v (line s.cs a) ∧ Below w.heap.size w w' := by
  have HB := Lib.hid (al_any w (.cells #[.int .i64 s.rows, .int .i64 s.cols, .slice ad s.cs.length k, .int .i64 s.cur, .bool s.lk, .bool s.ins] 24))
  have HX := Lib.hid (heap_alloc_new w (.cells #[.int .i64 s.rows, .int .i64 s.cols, .slice ad s.cs.length k, .int .i64 s.cur, .bool s.lk, .bool s.ins] 24))
  have HI := Lib.hid (h.below HB.out)
  have HP := Lib.hid (show 0 < s.cs.length by omega)
  have HR := Lib.hid fun W hb => fopen_any s ad k a W (HI.out.below hb) h8 HP.out hl ha
  have HC := Lib.hid fun W hb => fcells_any s ad k a W (HI.out.below hb) h8 HP.out hl ha
  have HCL := Lib.hid (cells_len s.cs a HP.out)
  have HL := Lib.hid hl
  have HA := Lib.hid ha
  clear h h8 hl ha
  go_enter Tryz.func14, Tryz.ntmps14
  go_upto_region 1 with (fail)
  generalize w.alloc _ = w1 at *
  obtain ⟨c0, c1, c2, c3, c4, c5⟩ := cells6 HX.out
  go_wp2_with fail
  with_reducible refine (HR.out _ (Below.refl _ _)).mono ?_
  rintro e w2 ⟨rfl, hb⟩
  have K2 := kept_hid HB hb
  have HC2 := Lib.hid (HC.out _ hb)
  have X2 := Lib.hid (blk HX.out hb)
  clear hb c0 c1 c2 c3 c4 c5 HC HR HX HI HB
  cases ho : open_ s.cs a with
  | false =>
    have HLN := Lib.hid (line_closed ho)
    clear ho
    go_wp2_with fail
    go_ret
    exact ⟨_, rfl, by rw [HLN.out]; exact ⟨none, 0, rfl, Nat.le_refl _, .inl rfl⟩, K2.out⟩
  | true =>
    obtain ⟨j, hj1, hj2, hj3, hj4⟩ := line_first HA.out ho
    clear ho
    have HJ1 := Lib.hid hj1
    have HJ2 := Lib.hid hj2
    have HJ3 := Lib.hid hj3
    have HJ4 := Lib.hid hj4
    clear hj1 hj2 hj3 hj4
    generalize cells s.cs a = xs at *
    obtain ⟨c0, c1, c2, c3, c4, c5⟩ := cells6 X2.out
    go_wp2_with fail
    with_reducible refine HC2.out.mono ?_
    rintro e w3 ⟨v, rfl, ho, hb⟩
    have K3 := kept_hid K2 hb
    have O3 := Lib.hid ho.to
    obtain ⟨va, vc, rfl⟩ := ho.form
    have HIX := Lib.hid (index_any _ xs a j w3 O3.out (by have := HCL.out; have := HL.out; omega) HJ1.out HJ2.out HJ3.out)
    clear hb ho c0 c1 c2 c3 c4 c5 HC2
    go_wp2_with fail
    with_reducible refine HIX.out.mono ?_
    rintro e w4 ⟨rfl, rfl⟩
    have hj0 : ¬ (j : Int) < 0 := by omega
    have hrun := run_lI va xs.length vc j (Nat.le_of_lt HJ1.out)
    go_wp2_with fail
    go_ret
    exact ⟨_, rfl, by rw [HJ4.out]; exact ints_l O3.out (Nat.le_of_lt HJ1.out), K3.out⟩
end Edt
end Go.Proofs.YtaopkelobglnbaaGreatDoor
