/- The landed code of package wipe: Do. Written by tools/gen_wip_code.py. -/
import Derived.Test.YtaopkelobglnbaaGreatDoorWipLow
import Derived.Test.YtaopkelobglnbaaGreatDoorWipLine
import Derived.Test.YtaopkelobglnbaaGreatDoorScrLay
import Derived.Test.YtaopkelobglnbaaGreatDoorEdtFirst
import Derived.Deep.Cut
import Derived.IntWalk
namespace Go.Proofs.YtaopkelobglnbaaGreatDoor
open Go.RowKit Sha Six Apd Cut Err Att Grd Fld Scr
set_option linter.unusedVariables false
namespace Wip
open Edt
set_option maxRecDepth 100000 in
set_option maxHeartbeats 8000000 in
theorem do_any (s : S) (ad : Option Addr) (k : Nat) (kind : Int) (w : World) (h : CelsIn w (.slice ad s.cs.length k) s.cs) (hr : sright s = true) (h8 : Sound s.cs) (hl : s.cs.length < 10000) :
    Calls Tryz.prog 6 #[.agg #[.int .i64 s.rows, .int .i64 s.cols, .slice ad s.cs.length k, .int .i64 s.cur, .bool s.lk, .bool s.ins], .int .i64 kind] w fun e w' => GaveE w w' (wdo s kind).1 ((wdo s kind).2.1 : Nat) (wdo s kind).2.2 e := by
  obtain ⟨kk, hk1, _, hk3⟩ := cur_nat hr
  obtain ⟨r, cc, cs, cur, lk, ins⟩ := s
  simp only at *
  subst hk1
  have HP := Lib.hid (show 0 < cs.length by omega)
  have HB := Lib.hid (kept_trans (al_any w (.cells #[.int .i64 r, .int .i64 cc, .slice ad cs.length k, .int .i64 (kk : Int), .bool lk, .bool ins] 24)) (al_any _ (.cells #[.int .i64 0, .int .i64 0, .slice none 0 0, .int .i64 0, .bool false, .bool false] 24)))
  have HX := Lib.hid (heap_alloc2_old w (.cells #[.int .i64 r, .int .i64 cc, .slice ad cs.length k, .int .i64 (kk : Int), .bool lk, .bool ins] 24) (.cells #[.int .i64 0, .int .i64 0, .slice none 0 0, .int .i64 0, .bool false, .bool false] 24))
  have HZ := Lib.hid (heap_alloc2_new w (.cells #[.int .i64 r, .int .i64 cc, .slice ad cs.length k, .int .i64 (kk : Int), .bool lk, .bool ins] 24) (.cells #[.int .i64 0, .int .i64 0, .slice none 0 0, .int .i64 0, .bool false, .bool false] 24))
  have HI := Lib.hid (h.below HB.out)
  have HR := Lib.hid hr
  have H8 := Lib.hid h8
  have HL := Lib.hid hl
  have HK := Lib.hid hk3
  have HWI := Lib.hid fun W => wipes_any kind W
  clear h hr h8 hl hk3
  cases hwi : isWipe kind with
  | false =>
    have HT := Lib.hid (show wdo ⟨r, cc, cs, (kk : Int), lk, ins⟩ kind = (⟨r, cc, cs, (kk : Int), lk, ins⟩, 1, -1) from wdo_1 hwi)
    rw [hwi] at HWI
    clear hwi
    go_enter Tryz.func6, Tryz.ntmps6
    go_upto_region 1 with (fail)
    generalize (w.alloc _).alloc _ = w1 at *
    go_wp2_with fail
    with_reducible refine (HWI.out _).mono ?_
    rintro e w2 ⟨rfl, rfl⟩
    obtain ⟨c0, c1, c2, c3, c4, c5⟩ := cells6 HX.out
    have SF := Lib.hid (lay_E (t := (⟨r, cc, cs, (kk : Int), lk, ins⟩ : S)) HZ.out HI.out (show Err.Told w1 (.iface 41 (.int .i64 1)) 1 (-1) from .inr (.inl ⟨rfl, rfl⟩)) HB.out (show w.heap.size ≤ w.heap.size + 1 by omega) HP.out)
    obtain ⟨f0, f1, f2, f3, f4, f5⟩ := free6 HZ.out
    obtain ⟨z0, z1, z2, z3, z4, z5⟩ := cells6 HZ.out
    go_wp2_with fail
    clear z0 z1 z2 z3 z4 z5 f0 f1 f2 f3 f4 f5 c0 c1 c2 c3 c4 c5
    generalize (((((w1.setCell _ _).setCell _ _).setCell _ _).setCell _ _).setCell _ _).setCell _ _ = w9 at *
    rw [HT.out]
    exact bodyPost_ret (v := .tuple #[.agg (six ad k (⟨r, cc, cs, (kk : Int), lk, ins⟩ : S)), .iface 41 (.int .i64 1)]) (results_cell_row_tmp rfl _ _ _ (w.heap.size + 1) _ rfl (run_loadVar_row w9 (w.heap.size + 1) 24 24 _ (0, 0) _ SF.out.1 Tryz.underlying24 rfl (by kernel_rfl)) _ rfl) rfl ⟨ad, k, _, rfl, SF.out.2.1, SF.out.2.2.1, fun h0 => absurd h0 (show ((1 : Nat) : Int) ≠ 0 by decide), SF.out.2.2.2⟩
  | true =>
    rw [hwi] at HWI
    cases lk with
    | true =>
      have HT := Lib.hid (show wdo ⟨r, cc, cs, (kk : Int), true, ins⟩ kind = (⟨r, cc, cs, (kk : Int), true, ins⟩, 7, -1) from wdo_7 hwi rfl)
      clear hwi
      go_enter Tryz.func6, Tryz.ntmps6
      go_upto_region 1 with (fail)
      generalize (w.alloc _).alloc _ = w1 at *
      go_wp2_with fail
      with_reducible refine (HWI.out _).mono ?_
      rintro e w2 ⟨rfl, rfl⟩
      obtain ⟨c0, c1, c2, c3, c4, c5⟩ := cells6 HX.out
      have SF := Lib.hid (lay_E (t := (⟨r, cc, cs, (kk : Int), true, ins⟩ : S)) HZ.out HI.out (show Err.Told w1 (.iface 41 (.int .i64 7)) 7 (-1) from .inr (.inl ⟨rfl, rfl⟩)) HB.out (show w.heap.size ≤ w.heap.size + 1 by omega) HP.out)
      obtain ⟨f0, f1, f2, f3, f4, f5⟩ := free6 HZ.out
      obtain ⟨z0, z1, z2, z3, z4, z5⟩ := cells6 HZ.out
      go_wp2_with fail
      clear z0 z1 z2 z3 z4 z5 f0 f1 f2 f3 f4 f5 c0 c1 c2 c3 c4 c5
      generalize (((((w1.setCell _ _).setCell _ _).setCell _ _).setCell _ _).setCell _ _).setCell _ _ = w9 at *
      rw [HT.out]
      exact bodyPost_ret (v := .tuple #[.agg (six ad k (⟨r, cc, cs, (kk : Int), true, ins⟩ : S)), .iface 41 (.int .i64 7)]) (results_cell_row_tmp rfl _ _ _ (w.heap.size + 1) _ rfl (run_loadVar_row w9 (w.heap.size + 1) 24 24 _ (0, 0) _ SF.out.1 Tryz.underlying24 rfl (by kernel_rfl)) _ rfl) rfl ⟨ad, k, _, rfl, SF.out.2.1, SF.out.2.2.1, fun h0 => absurd h0 (show ((7 : Nat) : Int) ≠ 0 by decide), SF.out.2.2.2⟩
    | false =>
      by_cases h14 : kind = 14
      · subst h14
        have HT := Lib.hid (show wdo ⟨r, cc, cs, (kk : Int), false, ins⟩ 14 = (wall ⟨r, cc, cs, (kk : Int), false, ins⟩, 0, -1) from wdo_14 rfl)
        have HAL := Lib.hid fun W hb => all_any ⟨r, cc, cs, (kk : Int), false, ins⟩ ad k W (HI.out.below hb) HR.out H8.out HL.out
        simp only [GaveE] at HAL
        generalize htd : wall ⟨r, cc, cs, (kk : Int), false, ins⟩ = td at *
        replace htd := Lib.hid htd
        clear hwi
        go_enter Tryz.func6, Tryz.ntmps6
        go_upto_region 1 with (fail)
        generalize (w.alloc _).alloc _ = w1 at *
        go_wp2_with fail
        with_reducible refine (HWI.out _).mono ?_
        rintro e w2 ⟨rfl, rfl⟩
        obtain ⟨c0, c1, c2, c3, c4, c5⟩ := cells6 HX.out
        go_wp2_with fail
        with_reducible refine (HAL.out _ (Below.refl _ _)).mono ?_
        rintro e wb ⟨pa, pc, ev, rfl, _, _, hn, hb⟩
        obtain ⟨rfl, hop⟩ := hn trivial
        clear hn HAL
        have ZB := Lib.hid (blk HZ.out hb)
        have hz3 := there_lt HZ.out
        have KB := kept_hid HB hb
        have SF := over6 wb (w.heap.size + 1) 24 _ _ _ _ _ _ (.int .i64 td.rows) (.int .i64 td.cols) (.slice pa td.cs.length pc) (.int .i64 td.cur) (.bool td.lk) (.bool td.ins) ZB.out
        have O9 := hop.away SF.2 (by intro e; have := own_ge hop _ e; omega)
        have O9 := Lib.hid (OwnCels.mono (b := w.heap.size) O9 (by have := HB.out.size; omega))
        have K9 := Lib.hid (below_grown KB.out SF.2 (show w.heap.size ≤ w.heap.size + 1 by omega))
        have Z9 := Lib.hid SF.1
        obtain ⟨f0, f1, f2, f3, f4, f5⟩ := free6 ZB.out
        obtain ⟨z0, z1, z2, z3, z4, z5⟩ := cells6 ZB.out
        clear SF hop hb hz3 c0 c1 c2 c3 c4 c5
        go_wp2_with fail
        clear ZB f0 f1 f2 f3 f4 f5 z0 z1 z2 z3 z4 z5
        generalize (((((wb.setCell _ _).setCell _ _).setCell _ _).setCell _ _).setCell _ _).setCell _ _ = w9 at *
        rw [HT.out]
        exact bodyPost_ret (v := .tuple #[.agg (six pa pc td), .nilIface]) (results_cell_row_tmp rfl _ _ _ (w.heap.size + 1) _ rfl (run_loadVar_row w9 (w.heap.size + 1) 24 24 _ (0, 0) _ Z9.out Tryz.underlying24 rfl (by kernel_rfl)) _ rfl) rfl ⟨pa, pc, .nilIface, rfl, O9.out.to, .inl ⟨rfl, rfl, rfl⟩, fun _ => ⟨rfl, O9.out⟩, K9.out⟩
      · have h14b : (kind == 14) = false := by simpa using h14
        have HLN := Lib.hid fun W hb => line_any ⟨r, cc, cs, (kk : Int), false, ins⟩ ad k kk W (HI.out.below hb) H8.out HL.out HK.out
        simp only at HLN
        cases ho : open_ cs kk with
        | false =>
          have HT := Lib.hid (show wdo ⟨r, cc, cs, (kk : Int), false, ins⟩ kind = (⟨r, cc, cs, (kk : Int), true, ins⟩, 8, (kk : Int)) from wdo_8 (s := ⟨r, cc, cs, (kk : Int), false, ins⟩) hwi rfl h14 ho)
          have HL0 : line cs kk = [] := line_closed ho
          rw [HL0] at HLN
          clear ho HL0 hwi h14
          go_enter Tryz.func6, Tryz.ntmps6
          go_upto_region 1 with (fail)
          generalize (w.alloc _).alloc _ = w1 at *
          go_wp2_with fail
          with_reducible refine (HWI.out _).mono ?_
          rintro e w2 ⟨rfl, rfl⟩
          obtain ⟨c0, c1, c2, c3, c4, c5⟩ := cells6 HX.out
          go_wp2_with fail
          with_reducible refine (HLN.out _ (Below.refl _ _)).mono ?_
          rintro e w2 ⟨v, rfl, hv, hb⟩
          clear c0 c1 c2 c3 c4 c5
          have X2 := Lib.hid (blk HX.out hb)
          have Z2 := Lib.hid (blk HZ.out hb)
          have I2 := Lib.hid (HI.out.below hb)
          have K2 := Lib.hid (kept_trans HB.out hb)
          obtain ⟨va, vc, rfl⟩ := hv.form
          clear hv hb HX HZ HI HB HLN
          rw [show ([] : List Nat).length = 0 from rfl]
          have HD := Lib.hid (deny_any ⟨r, cc, cs, (kk : Int), false, ins⟩ ad k 8 w2 I2.out HL.out HP.out (by decide))
          simp only [GaveE, deny] at HD
          obtain ⟨c0, c1, c2, c3, c4, c5⟩ := cells6 X2.out
          go_wp2_with fail
          with_reducible refine HD.out.mono ?_
          rintro e wd ⟨da, dc, dv, rfl, hcd, htd, _, hb⟩
          have Z3 := Lib.hid (blk Z2.out hb)
          have K3 := kept_hid K2 hb
          clear c0 c1 c2 c3 c4 c5 hb HD
          have SF := Lib.hid (lay_E (t := (⟨r, cc, cs, (kk : Int), true, ins⟩ : S)) Z3.out hcd htd K3.out (show w.heap.size ≤ w.heap.size + 1 by omega) HP.out)
          obtain ⟨f0, f1, f2, f3, f4, f5⟩ := free6 Z3.out
          obtain ⟨z0, z1, z2, z3, z4, z5⟩ := cells6 Z3.out
          go_wp2_with fail
          clear z0 z1 z2 z3 z4 z5 f0 f1 f2 f3 f4 f5
          generalize (((((wd.setCell _ _).setCell _ _).setCell _ _).setCell _ _).setCell _ _).setCell _ _ = w9 at *
          rw [HT.out]
          exact bodyPost_ret (v := .tuple #[.agg (six da dc (⟨r, cc, cs, (kk : Int), true, ins⟩ : S)), dv]) (results_cell_row_tmp rfl _ _ _ (w.heap.size + 1) _ rfl (run_loadVar_row w9 (w.heap.size + 1) 24 24 _ (0, 0) _ SF.out.1 Tryz.underlying24 rfl (by kernel_rfl)) _ rfl) rfl ⟨da, dc, _, rfl, SF.out.2.1, SF.out.2.2.1, fun h0 => absurd h0 (show ((8 : Nat) : Int) ≠ 0 by decide), SF.out.2.2.2⟩
        | true =>
          have HT := Lib.hid (show wdo ⟨r, cc, cs, (kk : Int), false, ins⟩ kind = (wl ⟨r, cc, cs, (kk : Int), false, ins⟩ kk (wv ⟨r, cc, cs, (kk : Int), false, ins⟩ kk kind), 0, -1) from wdo_0 (s := ⟨r, cc, cs, (kk : Int), false, ins⟩) hwi rfl h14 ho)
          have HLW := Lib.hid fun W v (hb : CelsIn W (.slice ad cs.length k) cs) (hv : IntsIn W v (line cs kk)) => (show Calls Tryz.prog 16 #[.agg #[.int .i64 r, .int .i64 cc, .slice ad cs.length k, .int .i64 (kk : Int), .bool false, .bool ins], v, .int .i64 kind] W fun e w' => GaveA W w' (wl ⟨r, cc, cs, (kk : Int), false, ins⟩ kk (wv ⟨r, cc, cs, (kk : Int), false, ins⟩ kk kind)) e from by
            have : kind = 12 ∨ kind = 13 := by
              unfold isWipe at hwi
              simp only [Bool.and_eq_true, decide_eq_true_eq] at hwi
              omega
            rcases this with rfl | rfl
            · exact line_12 ⟨r, cc, cs, (kk : Int), false, ins⟩ ad k kk v W hb HR.out HL.out rfl HK.out ho hv
            · exact line_13 ⟨r, cc, cs, (kk : Int), false, ins⟩ ad k kk v W hb HR.out HL.out rfl HK.out ho hv)
          simp only [GaveA] at HLW
          have hl0 : (((line cs kk).length : Int) == 0) = false := by
            have := (lineLen_pos HK.out ho).1
            rw [← line_length] at this
            rw [Bool.eq_false_iff]; intro h; rw [beq_iff_eq] at h; omega
          have HLP : ¬ (line cs kk) = [] := by
            have := (lineLen_pos HK.out ho).1
            intro h
            rw [← line_length, h] at this
            exact Nat.lt_irrefl _ this
          generalize htd : wl ⟨r, cc, cs, (kk : Int), false, ins⟩ kk (wv ⟨r, cc, cs, (kk : Int), false, ins⟩ kk kind) = td at *
          replace htd := Lib.hid htd
          clear ho hwi h14
          go_enter Tryz.func6, Tryz.ntmps6
          go_upto_region 1 with (fail)
          generalize (w.alloc _).alloc _ = w1 at *
          go_wp2_with fail
          with_reducible refine (HWI.out _).mono ?_
          rintro e w2 ⟨rfl, rfl⟩
          obtain ⟨c0, c1, c2, c3, c4, c5⟩ := cells6 HX.out
          go_wp2_with fail
          with_reducible refine (HLN.out _ (Below.refl _ _)).mono ?_
          rintro e w2 ⟨v, rfl, hv, hb⟩
          clear c0 c1 c2 c3 c4 c5
          have X2 := Lib.hid (blk HX.out hb)
          have Z2 := Lib.hid (blk HZ.out hb)
          have I2 := Lib.hid (HI.out.below hb)
          have K2 := Lib.hid (kept_trans HB.out hb)
          have HV := Lib.hid hv
          obtain ⟨va, vc, rfl⟩ := hv.form
          clear hv hb HX HZ HI HB HLN
          obtain ⟨c0, c1, c2, c3, c4, c5⟩ := cells6 X2.out
          go_wp2_with fail
          with_reducible refine (HLW.out _ _ I2.out HV.out).mono ?_
          rintro e wb ⟨pa, pc, rfl, hop, hb⟩
          clear HLW
          have ZB := Lib.hid (blk Z2.out hb)
          have hz3 := there_lt Z2.out
          have KB := kept_hid K2 hb
          have SF := over6 wb (w.heap.size + 1) 24 _ _ _ _ _ _ (.int .i64 td.rows) (.int .i64 td.cols) (.slice pa td.cs.length pc) (.int .i64 td.cur) (.bool td.lk) (.bool td.ins) ZB.out
          have O9 := hop.away SF.2 (by intro e; have := own_ge hop _ e; omega)
          have O9 := Lib.hid (OwnCels.mono (b := w.heap.size) O9 (by have := K2.out.size; omega))
          have K9 := Lib.hid (below_grown KB.out SF.2 (show w.heap.size ≤ w.heap.size + 1 by omega))
          have Z9 := Lib.hid SF.1
          obtain ⟨f0, f1, f2, f3, f4, f5⟩ := free6 ZB.out
          obtain ⟨z0, z1, z2, z3, z4, z5⟩ := cells6 ZB.out
          clear SF hop hb hz3 c0 c1 c2 c3 c4 c5
          go_wp2_with fail
          clear ZB f0 f1 f2 f3 f4 f5 z0 z1 z2 z3 z4 z5
          generalize (((((wb.setCell _ _).setCell _ _).setCell _ _).setCell _ _).setCell _ _).setCell _ _ = w9 at *
          rw [HT.out]
          exact bodyPost_ret (v := .tuple #[.agg (six pa pc td), .nilIface]) (results_cell_row_tmp rfl _ _ _ (w.heap.size + 1) _ rfl (run_loadVar_row w9 (w.heap.size + 1) 24 24 _ (0, 0) _ Z9.out Tryz.underlying24 rfl (by kernel_rfl)) _ rfl) rfl ⟨pa, pc, .nilIface, rfl, O9.out.to, .inl ⟨rfl, rfl, rfl⟩, fun _ => ⟨rfl, O9.out⟩, K9.out⟩
end Wip
end Go.Proofs.YtaopkelobglnbaaGreatDoor
