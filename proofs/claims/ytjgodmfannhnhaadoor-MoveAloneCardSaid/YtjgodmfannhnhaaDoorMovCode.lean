/- The landed code of package move: Do. Written by tools/gen_mov_code.py. -/
import Derived.Test.YtjgodmfannhnhaaDoorMovGoal
namespace Go.Proofs.YtjgodmfannhnhaaDoor
open Go.RowKit Sha Six Apd Cut Err Att Grd Fld Scr
set_option linter.unusedVariables false
namespace Mov
set_option maxRecDepth 100000 in
set_option maxHeartbeats 8000000 in
theorem do_any (s : S) (ad : Option Addr) (k : Nat) (kind : Int) (w : World) (h : CelsIn w (.slice ad s.cs.length k) s.cs) (hr : sright s = true) (h8 : Sound s.cs) (hl : s.cs.length < 10000) :
    Calls Tryd.prog 10 #[.agg #[.int .i64 s.rows, .int .i64 s.cols, .slice ad s.cs.length k, .int .i64 s.cur, .bool s.lk, .bool s.ins], .int .i64 kind] w fun e w' => GaveN w w' (mdo s kind).1 (mdo s kind).2 e := by
  have HGL := Lib.hid (gto_lt hr kind)
  obtain ⟨_, _, q3, q4, _⟩ := sright_parts hr
  obtain ⟨r, cc, cs, cur, lk, ins⟩ := s
  simp only at *
  have HP := Lib.hid (show 0 < cs.length by omega)
  have HB := Lib.hid (kept_trans (al_any w (.cells #[.int .i64 r, .int .i64 cc, .slice ad cs.length k, .int .i64 cur, .bool lk, .bool ins] 24)) (al_any _ (.cells #[.int .i64 0, .int .i64 0, .slice none 0 0, .int .i64 0, .bool false, .bool false] 24)))
  have HX := Lib.hid (heap_alloc2_old w (.cells #[.int .i64 r, .int .i64 cc, .slice ad cs.length k, .int .i64 cur, .bool lk, .bool ins] 24) (.cells #[.int .i64 0, .int .i64 0, .slice none 0 0, .int .i64 0, .bool false, .bool false] 24))
  have HZ := Lib.hid (heap_alloc2_new w (.cells #[.int .i64 r, .int .i64 cc, .slice ad cs.length k, .int .i64 cur, .bool lk, .bool ins] 24) (.cells #[.int .i64 0, .int .i64 0, .slice none 0 0, .int .i64 0, .bool false, .bool false] 24))
  have HI := Lib.hid (h.below HB.out)
  have HM := Lib.hid fun W => moves_any kind W
  have HCO := Lib.hid fun W hb => copy_any (⟨r, cc, cs, cur, lk, ins⟩ : S) ad k W (HI.out.below hb) (by simp only; omega)
  simp only [Copied] at HCO
  have HL := Lib.hid hl
  have HR := Lib.hid hr
  have H8 := Lib.hid h8
  clear h hr h8 hl q3 q4
  cases hm : isMove kind with
  | false =>
    have HT := Lib.hid (mdo_1 (s := (⟨r, cc, cs, cur, lk, ins⟩ : S)) hm)
    rw [hm] at HM
    clear hm
    go_enter Tryd.func10, Tryd.ntmps10
    go_upto_region 1 with (fail)
    generalize (w.alloc _).alloc _ = w1 at *
    obtain ⟨c0, c1, c2, c3, c4, c5⟩ := cells6 HX.out
    have SF := Lib.hid (lay_N (t := (⟨r, cc, cs, cur, lk, ins⟩ : S)) HZ.out HI.out HB.out (show w.heap.size ≤ w.heap.size + 1 by omega) HP.out)
    simp only at SF
    obtain ⟨f0, f1, f2, f3, f4, f5⟩ := free6 HZ.out
    obtain ⟨z0, z1, z2, z3, z4, z5⟩ := cells6 HZ.out
    go_wp2_with fail
    with_reducible refine (HM.out _).mono ?_
    rintro e w2 ⟨rfl, rfl⟩
    go_wp2_with fail
    clear z0 z1 z2 z3 z4 z5 f0 f1 f2 f3 f4 f5 c0 c1 c2 c3 c4 c5
    generalize (((((w1.setCell _ _).setCell _ _).setCell _ _).setCell _ _).setCell _ _).setCell _ _ = w9 at *
    rw [HT.out]
    exact bodyPost_ret (v := .tuple #[.agg (six ad k (⟨r, cc, cs, cur, lk, ins⟩ : S)), .iface 47 (.int .i64 1)]) (results_cell_row_tmp rfl _ _ _ (w.heap.size + 1) _ rfl (run_loadVar_row w9 (w.heap.size + 1) 24 24 _ (0, 0) _ SF.out.1 Tryd.underlying24 rfl (by kernel_rfl)) _ rfl) rfl ⟨ad, k, rfl, SF.out.2.1, fun h0 => absurd h0 (Nat.succ_ne_zero _), SF.out.2.2⟩
  | true =>
    rw [hm] at HM
    have HMV := Lib.hid hm
    clear hm
    cases lk with
    | true =>
      have HT := Lib.hid (mdo_7 (s := (⟨r, cc, cs, cur, true, ins⟩ : S)) HMV.out rfl)
      go_enter Tryd.func10, Tryd.ntmps10
      go_upto_region 1 with (fail)
      generalize (w.alloc _).alloc _ = w1 at *
      obtain ⟨c0, c1, c2, c3, c4, c5⟩ := cells6 HX.out
      have SF := Lib.hid (lay_N (t := (⟨r, cc, cs, cur, true, ins⟩ : S)) HZ.out HI.out HB.out (show w.heap.size ≤ w.heap.size + 1 by omega) HP.out)
      simp only at SF
      obtain ⟨f0, f1, f2, f3, f4, f5⟩ := free6 HZ.out
      obtain ⟨z0, z1, z2, z3, z4, z5⟩ := cells6 HZ.out
      go_wp2_with fail
      with_reducible refine (HM.out _).mono ?_
      rintro e w2 ⟨rfl, rfl⟩
      go_wp2_with fail
      clear z0 z1 z2 z3 z4 z5 f0 f1 f2 f3 f4 f5 c0 c1 c2 c3 c4 c5
      generalize (((((w1.setCell _ _).setCell _ _).setCell _ _).setCell _ _).setCell _ _).setCell _ _ = w9 at *
      rw [HT.out]
      exact bodyPost_ret (v := .tuple #[.agg (six ad k (⟨r, cc, cs, cur, true, ins⟩ : S)), .iface 47 (.int .i64 7)]) (results_cell_row_tmp rfl _ _ _ (w.heap.size + 1) _ rfl (run_loadVar_row w9 (w.heap.size + 1) 24 24 _ (0, 0) _ SF.out.1 Tryd.underlying24 rfl (by kernel_rfl)) _ rfl) rfl ⟨ad, k, rfl, SF.out.2.1, fun h0 => absurd h0 (Nat.succ_ne_zero _), SF.out.2.2⟩
    | false =>
      have HT := Lib.hid (mdo_0 (s := (⟨r, cc, cs, cur, false, ins⟩ : S)) HMV.out rfl)
      have HGC := Lib.hid fun (g vc : Nat) W (h : CelsIn W (.slice (some ⟨g, 0, none⟩) cs.length vc) cs) => goal_any (⟨r, cc, cs, cur, false, ins⟩ : S) (some ⟨g, 0, none⟩) vc kind W h HR.out H8.out HL.out HMV.out
      simp only at HGC HT
      generalize gto (⟨r, cc, cs, cur, false, ins⟩ : S) kind = to at *
      go_enter Tryd.func10, Tryd.ntmps10
      go_upto_region 1 with (fail)
      generalize (w.alloc _).alloc _ = w1 at *
      have hzx := there_lt HZ.out
      obtain ⟨c0, c1, c2, c3, c4, c5⟩ := cells6 HX.out
      go_upto_region 5 with (with_reducible refine (HM.out _).mono ?_; rintro e w2 ⟨rfl, rfl⟩)
      go_wp2_with fail
      with_reducible refine (HCO.out _ (Below.refl _ _)).mono ?_
      rintro e w2 ⟨va, vc, rfl, ho, hb⟩
      clear c0 c1 c2 c3 c4 c5
      have X2 := Lib.hid (blk HX.out hb)
      have Z2 := Lib.hid (blk HZ.out hb)
      obtain ⟨g, e1, hg1, B3⟩ := Box.over (w0 := w) (t := (⟨r, cc, cs, cur, false, ins⟩ : S)) X2.out ho HP.out (show w.heap.size < w1.heap.size by omega) (Nat.le_refl _) (kept_trans HB.out hb)
      subst e1
      have H3 := Lib.hid B3
      have SF := over6 w2 w.heap.size _ _ _ _ _ _ _ (.int .i64 r) (.int .i64 cc) (.slice (some ⟨g, 0, none⟩) cs.length vc) (.int .i64 cur) (.bool false) (.bool ins) X2.out
      have Z3 := Lib.hid (blk_g Z2.out SF.2 (by intro e; injection e with e; omega))
      have HG := Lib.hid (show w.heap.size + 1 < g from by omega)
      simp only at H3
      clear hzx ho hb Z2 HX HZ HB HI HCO SF B3
      obtain ⟨c0, c1, c2, c3, c4, c5⟩ := cells6 X2.out
      obtain ⟨f0, f1, f2, f3, f4, f5⟩ := free6 X2.out
      go_upto_region 6 with (fail)
      clear c0 c1 c2 c3 c4 c5 f0 f1 f2 f3 f4 f5 X2
      generalize (((((w2.setCell _ _).setCell _ _).setCell _ _).setCell _ _).setCell _ _).setCell _ _ = w3 at *
      obtain ⟨c0, c1, c2, c3, c4, c5⟩ := H3.out.cells
      go_wp2_with fail
      with_reducible refine (HGC.out g vc _ H3.out.own.to).mono ?_
      rintro e w4 ⟨rfl, hb⟩
      clear c0 c1 c2 c3 c4 c5
      have H4 := Lib.hid (H3.out.below hb)
      have Z4 := Lib.hid (blk Z3.out hb)
      have H5 := Lib.hid (H4.out.cur (to : Int))
      have Z5 := Lib.hid (blk_g Z4.out (gsetCell w4 w.heap.size 3 (.int .i64 (to : Int))) (by intro e; injection e with e; omega))
      simp only at H5
      clear H3 Z3 hb
      obtain ⟨c0, c1, c2, c3, c4, c5⟩ := H4.out.cells
      obtain ⟨f0, f1, f2, f3, f4, f5⟩ := H4.out.free
      go_upto_region 7 with (fail)
      clear c0 c1 c2 c3 c4 c5 f0 f1 f2 f3 f4 f5 H4 Z4
      generalize w4.setCell _ _ = w5 at *
      obtain ⟨c0, c1, c2, c3, c4, c5⟩ := H5.out.cells
      obtain ⟨z0, z1, z2, z3, z4, z5⟩ := cells6 Z5.out
      obtain ⟨f0, f1, f2, f3, f4, f5⟩ := free6 Z5.out
      have SF := Lib.hid (H5.out.gave Z5.out (by have := HG.out; omega) (by omega))
      simp only at SF
      go_wp2_with fail
      clear z0 z1 z2 z3 z4 z5 f0 f1 f2 f3 f4 f5 c0 c1 c2 c3 c4 c5
      generalize (((((w5.setCell _ _).setCell _ _).setCell _ _).setCell _ _).setCell _ _).setCell _ _ = w9 at *
      rw [HT.out]
      exact bodyPost_ret (v := .tuple #[.agg (six (some ⟨g, 0, none⟩) vc (⟨r, cc, cs, (to : Int), false, ins⟩ : S)), .nilIface]) (results_cell_row_tmp rfl _ _ _ (w.heap.size + 1) _ rfl (run_loadVar_row w9 (w.heap.size + 1) 24 24 _ (0, 0) _ SF.out.1 Tryd.underlying24 rfl (by kernel_rfl)) _ rfl) rfl ⟨(some ⟨g, 0, none⟩), vc, rfl, SF.out.2.1.to, fun _ => SF.out.2.1, SF.out.2.2⟩
end Mov
end Go.Proofs.YtjgodmfannhnhaaDoor
