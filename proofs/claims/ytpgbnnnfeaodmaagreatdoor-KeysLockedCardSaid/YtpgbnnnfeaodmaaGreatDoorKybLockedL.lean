/- The law KeysLocked. Written by tools/gen_kyb_laws.py. -/
import Derived.Test.YtpgbnnnfeaodmaaGreatDoorKybAwake
import Derived.Test.YtpgbnnnfeaodmaaGreatDoorBunGrd
import Derived.Test.YtpgbnnnfeaodmaaGreatDoorBunGrd
import Derived.Test.YtpgbnnnfeaodmaaGreatDoorOpnScr
import Derived.Test.YtpgbnnnfeaodmaaGreatDoorOpnKey
import Derived.StillTailTactics
import Derived.Deep.Cut
import Derived.Deep.RegionHeld3
namespace Go.Proofs.YtpgbnnnfeaodmaaGreatDoor
open Go.RowKit Sha Six Apd Cut Err Att Grd Fld Scr Edt
set_option linter.unusedVariables false
namespace Kyb
set_option maxRecDepth 100000 in
set_option maxHeartbeats 8000000 in
theorem locked_any (s : S) (ad : Option Addr) (k : Nat) (kind c : Int) (w : World) (h : CelsIn w (.slice ad s.cs.length k) s.cs) (hwf : Opn.Wf s.cs) (hm : s.cs.length ≤ maxLen) (wkind : (Lit.int .i64 kind).wf = true) (wc : (Lit.int .u8 c).wf = true) (hg : Handle w) :
    Calls Tryz.prog 5 #[.agg #[.int .i64 s.rows, .int .i64 s.cols, .slice ad s.cs.length k, .int .i64 s.cur, .bool s.lk, .bool s.ins], .agg #[.int .i64 kind, .int .u8 c]] w fun e w' => e = .returned (.bool true) ∧ Below w.heap.size w w' := by
  obtain ⟨b0c, b1c⟩ := Go.Proofs.YtpgbnnnfeaodmaaGreatDoor.Ord.wf_u8 wc
  obtain ⟨c, rfl⟩ := Int.eq_ofNat_of_zero_le b0c
  have HBc := Lib.hid (show c < 256 by omega)
  have HAW := Lib.hid fun W (hb : Below w.heap.size w W) => awake_any W (hand_of hg hb)
  have HB := Lib.hid (kept_trans (al_any w (.cells #[.int .i64 s.rows, .int .i64 s.cols, .slice ad s.cs.length k, .int .i64 s.cur, .bool s.lk, .bool s.ins] 24)) (al_any _ (.cells #[.int .i64 kind, .int .u8 (c : Int)] 26)))
  have HX := Lib.hid (heap_alloc2_old w (.cells #[.int .i64 s.rows, .int .i64 s.cols, .slice ad s.cs.length k, .int .i64 s.cur, .bool s.lk, .bool s.ins] 24) (.cells #[.int .i64 kind, .int .u8 (c : Int)] 26))
  have HY := Lib.hid (heap_alloc2_new w (.cells #[.int .i64 s.rows, .int .i64 s.cols, .slice ad s.cs.length k, .int .i64 s.cur, .bool s.lk, .bool s.ins] 24) (.cells #[.int .i64 kind, .int .u8 (c : Int)] 26))
  have HI := Lib.hid (h.below HB.out)
  have HF := Lib.hid fun W hb => rfew_any s ad k W (HI.out.below hb) (wf_sound hwf)
  have H8 := Lib.hid (wf_sound hwf)
  clear h hwf hm hg wkind wc b0c b1c
  cases hf : few s with
  | false =>
    rw [hf] at HF
    go_enter Tryz.func5, Tryz.ntmps5
    go_upto_region 1 with (fail)
    generalize (w.alloc _).alloc _ = w1 at *
    go_wp2_with fail
    with_reducible refine (HAW.out _ HB.out).mono ?_
    rintro e w2 ⟨rfl, hb⟩
    have K2 := Lib.hid hb
    have X2 := Lib.hid (blk HX.out hb)
    have Y2 := Lib.hid (blk HY.out hb)
    have K2' := kept_hid HB hb
    have I2 := Lib.hid (HI.out.below hb)
    clear hb
    obtain ⟨c0, c1, c2, c3, c4, c5⟩ := cells6 X2.out
    go_wp2_with fail
    with_reducible refine (HF.out _ K2.out).mono ?_
    rintro e w3 ⟨rfl, hb⟩
    have K3 := kept_hid K2' hb
    have X3 := Lib.hid (blk X2.out hb)
    have Y3 := Lib.hid (blk Y2.out hb)
    have I3 := Lib.hid (I2.out.below hb)
    clear hb c0 c1 c2 c3 c4 c5 K2 K2' X2 Y2 I2 HB HX HY HI HF
    go_wp2_with fail
    with_reducible refine (HAW.out _ K3.out).mono ?_
    rintro e w4 ⟨rfl, hb⟩
    have KE := kept_hid K3 hb
    clear hb
    go_wp2_with fail
    go_ret
    exact ⟨rfl, KE.out⟩
  | true =>
    rw [hf] at HF
    obtain ⟨q1, q2, q3⟩ := few_parts hf
    have HL := Lib.hid q1
    have HP := Lib.hid q2
    have HR := Lib.hid q3
    have HLT := Lib.hid (show s.cs.length < 10000 from by have := HL.out; omega)
    clear q1 q2 q3 hf
    go_enter Tryz.func5, Tryz.ntmps5
    go_upto_region 1 with (fail)
    generalize (w.alloc _).alloc _ = w1 at *
    go_wp2_with fail
    with_reducible refine (HAW.out _ HB.out).mono ?_
    rintro e w2 ⟨rfl, hb⟩
    have K2 := Lib.hid hb
    have X2 := Lib.hid (blk HX.out hb)
    have Y2 := Lib.hid (blk HY.out hb)
    have K2' := kept_hid HB hb
    have I2 := Lib.hid (HI.out.below hb)
    clear hb
    obtain ⟨c0, c1, c2, c3, c4, c5⟩ := cells6 X2.out
    go_wp2_with fail
    with_reducible refine (HF.out _ K2.out).mono ?_
    rintro e w3 ⟨rfl, hb⟩
    have K3 := kept_hid K2' hb
    have X3 := Lib.hid (blk X2.out hb)
    have Y3 := Lib.hid (blk Y2.out hb)
    have I3 := Lib.hid (I2.out.below hb)
    clear hb c0 c1 c2 c3 c4 c5 K2 K2' X2 Y2 I2 HB HX HY HI HF
    clear HAW
    have HTL := Lib.hid (kdo_length s kind c)
    have HK16 := Lib.hid (fun (h : kind = 16) => show ¬ (kdo s kind c).2.2.1 ≠ 0 from by subst h; rw [kdo_16]; exact fun h => h rfl)
    have HREF := Lib.hid fun h => kdo_ref (s := s) (kind := kind) (c := c) h
    have HLCK := Lib.hid fun hl h => kdo_locked (s := s) hl (kind := kind) (c := c) h
    have Q1 := Lib.hid (do_any s ad k c kind w3 I3.out HR.out H8.out HLT.out HBc.out)
    have Q2 := fun W (h : CelsIn W (.slice ad s.cs.length k) s.cs) => do_any s ad k 0 16 W h HR.out H8.out HLT.out (by decide)
    simp only [kdo_16] at Q2
    simp only [GaveK, show ((0 : Nat) : Int) = 0 from rfl] at Q2
    replace Q2 := Lib.hid Q2
    simp only [GaveK] at Q1
    generalize (kdo s kind c).2.2.2 = wh at *
    generalize (kdo s kind c).2.2.1 = code at *
    generalize (kdo s kind c).2.1 = asks at *
    generalize (kdo s kind c).1 = t at *
    generalize hlk : s.lk = lk at *
    replace hlk := Lib.hid hlk
    obtain ⟨c0, c1, c2, c3, c4, c5⟩ := cells6 X3.out
    obtain ⟨y0, y1⟩ := cells2 Y3.out
    go_wp2_with fail
    with_reducible refine Q1.out.mono ?_
    rintro e w4 ⟨va1, vc1, ev1, rfl, hc, ht, hn, hb⟩
    clear c0 c1 c2 c3 c4 c5 y0 y1
    have HA := al_any w4 (.cells #[.int .i64 t.rows, .int .i64 t.cols, .slice va1 t.cs.length vc1, .int .i64 t.cur, .bool t.lk, .bool t.ins] 24)
    have B1 := Lib.hid (heap_alloc_new w4 (.cells #[.int .i64 t.rows, .int .i64 t.cols, .slice va1 t.cs.length vc1, .int .i64 t.cur, .bool t.lk, .bool t.ins] 24))
    have C1 := Lib.hid (hc.below HA)
    have T1 := Lib.hid (Err.Told.below ht HA)
    have E1 := Lib.hid (fun h => (hn h).1)
    replace hb := kept_trans hb HA
    replace X3 := Lib.hid (blk X3.out hb)
    replace Y3 := Lib.hid (blk Y3.out hb)
    replace I3 := Lib.hid (I3.out.below hb)
    replace K3 := kept_hid K3 hb
    clear HA hc ht hn hb
    go_upto_region 4 with (fail)
    generalize w4.heap.size = N1 at *
    generalize w4.alloc _ = w4b at *
    by_cases hcode : code = 0
    · have hev := E1.out (by omega)
      subst hev
      cases lk with
      | true =>
        have hk16 : kind = 16 := by
          rcases Int.lt_trichotomy kind 16 with h | h | h
          · exact absurd (HLCK.out (by first | rfl | exact hlk.out) (by omega)).2.2 (by omega)
          · exact h
          · exact absurd (HLCK.out (by first | rfl | exact hlk.out) (by omega)).2.2 (by omega)
        subst hk16
        replace hcode := Lib.hid hcode
        obtain ⟨y0, y1⟩ := cells2 Y3.out
        obtain ⟨c0, c1, c2, c3, c4, c5⟩ := cells6 X3.out
        go_upto_region 11 with (fail)
        clear y0 y1 c0 c1 c2 c3 c4 c5
        have X9 := X3
        obtain ⟨c0, c1, c2, c3, c4, c5⟩ := cells6 X9.out
        go_wp2_with fail
        with_reducible refine (Q2.out _ I3.out).mono ?_
        rintro e wr ⟨va5, vc5, ev5, rfl, hc, ht, hn, hb⟩
        clear c0 c1 c2 c3 c4 c5
        have HN5 := Lib.hid (show w.heap.size < wr.heap.size from there_lt (blk X9.out hb))
        have HA := al_any wr (.cells #[.int .i64 s.rows, .int .i64 s.cols, .slice va5 s.cs.length vc5, .int .i64 s.cur, .bool false, .bool false] 24)
        have B5 := Lib.hid (heap_alloc_new wr (.cells #[.int .i64 s.rows, .int .i64 s.cols, .slice va5 s.cs.length vc5, .int .i64 s.cur, .bool false, .bool false] 24))
        have C5 := Lib.hid (hc.below HA)
        have T5 := Lib.hid (Err.Told.below ht HA)
        have E5 := Lib.hid (fun h => (hn h).1)
        replace hb := kept_trans hb HA
        replace X9 := Lib.hid (blk X9.out hb)
        replace I3 := Lib.hid (I3.out.below hb)
        replace K3 := kept_hid K3 hb
        clear HA hc ht hn hb
        go_upto_region 12 with (fail)
        generalize wr.heap.size = N5 at *
        generalize wr.alloc _ = wrb at *
        have hev5 := by first | exact E5.out rfl | exact E5.out trivial
        subst hev5
        obtain ⟨c0, c1, c2, c3, c4, c5⟩ := cells6 X9.out
        obtain ⟨e0, e1, e2, e3, e4, e5⟩ := cells6 B5.out
        obtain ⟨f0, f1, f2, f3, f4, f5⟩ := free6 B5.out
        have SO := gsetCell wrb N5 4 (.bool true)
        have B6 := heap_setCell_same wrb N5 4 _ 24 (.bool true) B5.out
        have SP := gsetCell (wrb.setCell ⟨N5, 4, none⟩ (.bool true)) N5 5 (.bool s.ins)
        have B7 := Lib.hid (show ((wrb.setCell ⟨N5, 4, none⟩ (.bool true)).setCell ⟨N5, 5, none⟩ (.bool s.ins)).heap[N5]? = some (.cells #[.int .i64 s.rows, .int .i64 s.cols, .slice va5 s.cs.length vc5, .int .i64 s.cur, .bool true, .bool s.ins] 24 (0, 0)) from heap_setCell_same (wrb.setCell ⟨N5, 4, none⟩ (.bool true)) N5 5 _ 24 (.bool s.ins) B6)
        have HNN := Lib.hid (show w.heap.size < N5 from HN5.out)
        have X7 := Lib.hid (blk_g (blk_g X9.out SO (by intro e; injection e with e; have := HNN.out; omega)) SP (by intro e; injection e with e; have := HNN.out; omega))
        have C6x := celsIn_away C5.out SO (fun y hy => (not_screen C5.out HP.out B5.out y hy).1)
        have C7 := Lib.hid (celsIn_away C6x SP (fun y hy => (not_screen C6x HP.out B6 y hy).1))
        have I6 := celsIn_away I3.out SO (fun y hy => (not_screen I3.out HP.out B5.out y hy).1)
        have I7 := Lib.hid (celsIn_away I6 SP (fun y hy => (not_screen I6 HP.out B6 y hy).1))
        have K7 := Lib.hid (below_grown (below_grown K3.out SO (by have := HNN.out; omega)) SP (by have := HNN.out; omega))
        obtain ⟨q0, q1, q2, q3, q4, q5⟩ := cells6 B6
        obtain ⟨g0, g1, g2, g3, g4, g5⟩ := free6 B6
        clear SO SP C6x I6 B6
        go_upto_region 16 with (fail)
        clear c0 c1 c2 c3 c4 c5 e0 e1 e2 e3 e4 e5 f0 f1 f2 f3 f4 f5 q0 q1 q2 q3 q4 q5 g0 g1 g2 g3 g4 g5 B5 X9
        generalize (wrb.setCell _ _).setCell _ _ = wq at *
        have HSF := Lib.hid (rsame_any s.rows s.cols s.cur true s.ins va5 s.cs.length vc5 ad s.cs.length k s.cs s.cs wq C7.out I7.out (by have := HL.out; omega))
        rw [decide_eq_true rfl] at HSF
        obtain ⟨c0, c1, c2, c3, c4, c5⟩ := cells6 X7.out
        obtain ⟨e0, e1, e2, e3, e4, e5⟩ := cells6 B7.out
        go_wp2_with fail
        with_reducible refine HSF.out.mono ?_
        rintro e wz ⟨rfl, hb⟩
        have KZ := kept_hid K7 hb
        clear hb
        go_wp2_with fail
        go_ret
        exact ⟨rfl, KZ.out⟩
      | false =>
        replace hcode := Lib.hid hcode
        obtain ⟨y0, y1⟩ := cells2 Y3.out
        obtain ⟨c0, c1, c2, c3, c4, c5⟩ := cells6 X3.out
        go_upto_region 11 with (fail)
        clear y0 y1 c0 c1 c2 c3 c4 c5
        have X9 := X3
        obtain ⟨c0, c1, c2, c3, c4, c5⟩ := cells6 X9.out
        go_wp2_with fail
        with_reducible refine (Q2.out _ I3.out).mono ?_
        rintro e wr ⟨va5, vc5, ev5, rfl, hc, ht, hn, hb⟩
        clear c0 c1 c2 c3 c4 c5
        have HN5 := Lib.hid (show w.heap.size < wr.heap.size from there_lt (blk X9.out hb))
        have HA := al_any wr (.cells #[.int .i64 s.rows, .int .i64 s.cols, .slice va5 s.cs.length vc5, .int .i64 s.cur, .bool false, .bool false] 24)
        have B5 := Lib.hid (heap_alloc_new wr (.cells #[.int .i64 s.rows, .int .i64 s.cols, .slice va5 s.cs.length vc5, .int .i64 s.cur, .bool false, .bool false] 24))
        have C5 := Lib.hid (hc.below HA)
        have T5 := Lib.hid (Err.Told.below ht HA)
        have E5 := Lib.hid (fun h => (hn h).1)
        replace hb := kept_trans hb HA
        replace X9 := Lib.hid (blk X9.out hb)
        replace I3 := Lib.hid (I3.out.below hb)
        replace K3 := kept_hid K3 hb
        clear HA hc ht hn hb
        go_upto_region 12 with (fail)
        generalize wr.heap.size = N5 at *
        generalize wr.alloc _ = wrb at *
        have hev5 := by first | exact E5.out rfl | exact E5.out trivial
        subst hev5
        obtain ⟨c0, c1, c2, c3, c4, c5⟩ := cells6 X9.out
        obtain ⟨e0, e1, e2, e3, e4, e5⟩ := cells6 B5.out
        obtain ⟨f0, f1, f2, f3, f4, f5⟩ := free6 B5.out
        have SO := gsetCell wrb N5 4 (.bool false)
        have B6 := heap_setCell_same wrb N5 4 _ 24 (.bool false) B5.out
        have SP := gsetCell (wrb.setCell ⟨N5, 4, none⟩ (.bool false)) N5 5 (.bool s.ins)
        have B7 := Lib.hid (show ((wrb.setCell ⟨N5, 4, none⟩ (.bool false)).setCell ⟨N5, 5, none⟩ (.bool s.ins)).heap[N5]? = some (.cells #[.int .i64 s.rows, .int .i64 s.cols, .slice va5 s.cs.length vc5, .int .i64 s.cur, .bool false, .bool s.ins] 24 (0, 0)) from heap_setCell_same (wrb.setCell ⟨N5, 4, none⟩ (.bool false)) N5 5 _ 24 (.bool s.ins) B6)
        have HNN := Lib.hid (show w.heap.size < N5 from HN5.out)
        have X7 := Lib.hid (blk_g (blk_g X9.out SO (by intro e; injection e with e; have := HNN.out; omega)) SP (by intro e; injection e with e; have := HNN.out; omega))
        have C6x := celsIn_away C5.out SO (fun y hy => (not_screen C5.out HP.out B5.out y hy).1)
        have C7 := Lib.hid (celsIn_away C6x SP (fun y hy => (not_screen C6x HP.out B6 y hy).1))
        have I6 := celsIn_away I3.out SO (fun y hy => (not_screen I3.out HP.out B5.out y hy).1)
        have I7 := Lib.hid (celsIn_away I6 SP (fun y hy => (not_screen I6 HP.out B6 y hy).1))
        have K7 := Lib.hid (below_grown (below_grown K3.out SO (by have := HNN.out; omega)) SP (by have := HNN.out; omega))
        obtain ⟨q0, q1, q2, q3, q4, q5⟩ := cells6 B6
        obtain ⟨g0, g1, g2, g3, g4, g5⟩ := free6 B6
        clear SO SP C6x I6 B6
        go_upto_region 16 with (fail)
        clear c0 c1 c2 c3 c4 c5 e0 e1 e2 e3 e4 e5 f0 f1 f2 f3 f4 f5 q0 q1 q2 q3 q4 q5 g0 g1 g2 g3 g4 g5 B5 X9
        generalize (wrb.setCell _ _).setCell _ _ = wq at *
        have HSF := Lib.hid (rsame_any s.rows s.cols s.cur false s.ins va5 s.cs.length vc5 ad s.cs.length k s.cs s.cs wq C7.out I7.out (by have := HL.out; omega))
        rw [decide_eq_true rfl] at HSF
        obtain ⟨c0, c1, c2, c3, c4, c5⟩ := cells6 X7.out
        obtain ⟨e0, e1, e2, e3, e4, e5⟩ := cells6 B7.out
        go_wp2_with fail
        with_reducible refine HSF.out.mono ?_
        rintro e wz ⟨rfl, hb⟩
        have KZ := kept_hid K7 hb
        clear hb
        go_wp2_with fail
        go_ret
        exact ⟨rfl, KZ.out⟩
    · obtain ⟨et, evv, hev⟩ := told_iface T1.out (by omega)
      subst hev
      obtain ⟨ha, hts⟩ := HREF.out hcode
      subst ha
      cases lk with
      | true =>
        have ht : s = t := by
          rcases hts with h | h
          · exact h.symm
          · rw [h]
            have := hlk.out
            obtain ⟨r, cc, cs, cur, lk', ins⟩ := s
            simp only at this
            subst this
            rfl
        have hk16 : kind ≠ 16 := by
          intro h
          exact HK16.out h hcode
        subst ht
        clear hts
        rw [hlk.out] at B1
        replace hcode := Lib.hid hcode
        clear E1
        have HA := al_any w4b (.cells #[.int .i64 s.rows, .int .i64 s.cols, .slice va1 s.cs.length vc1, .int .i64 s.cur, .bool true, .bool s.ins] 24)
        have U6 := Lib.hid (heap_alloc_new w4b (.cells #[.int .i64 s.rows, .int .i64 s.cols, .slice va1 s.cs.length vc1, .int .i64 s.cur, .bool true, .bool s.ins] 24))
        have X6 := Lib.hid (blk X3.out HA)
        have Y6 := Lib.hid (blk Y3.out HA)
        have B6 := Lib.hid (blk B1.out HA)
        have I6 := Lib.hid (I3.out.below HA)
        have D6 := Lib.hid (C1.out.below HA)
        have K6 := kept_hid K3 HA
        have HW5 := Lib.hid (show w.heap.size < w4b.heap.size ∧ N1 < w4b.heap.size ∧ w.heap.size ≤ w4b.heap.size ∧ w.heap.size + 1 < w4b.heap.size from ⟨there_lt X3.out, there_lt B1.out, K3.out.size, there_lt Y3.out⟩)
        obtain ⟨c0, c1, c2, c3, c4, c5⟩ := cells6 B1.out
        clear HA X3 Y3 B1 I3 C1 K3
        go_upto_region 6 with (fail)
        clear c0 c1 c2 c3 c4 c5
        generalize w4b.heap.size = U at *
        generalize w4b.alloc _ = w6 at *
        have SO := gsetCell w6 U 4 (.bool true)
        have U7 := Lib.hid (heap_setCell_same w6 U 4 _ 24 (.bool true) U6.out)
        have X7 := Lib.hid (blk_g X6.out SO (by intro e; injection e with e; have := HW5.out.1; omega))
        have Y7 := Lib.hid (blk_g Y6.out SO (by intro e; injection e with e; have := HW5.out.2.2.2; omega))
        have B7 := Lib.hid (blk_g B6.out SO (by intro e; injection e with e; have := HW5.out.2.1; omega))
        have I7 := Lib.hid (celsIn_away I6.out SO (fun y hy => (not_screen I6.out HP.out U6.out y hy).1))
        have D7 := Lib.hid (celsIn_away D6.out SO (fun y hy => (not_screen D6.out HP.out U6.out y hy).1))
        have K7 := Lib.hid (below_grown K6.out SO HW5.out.2.2.1)
        obtain ⟨c0, c1, c2, c3, c4, c5⟩ := cells6 X6.out
        obtain ⟨e0, e1, e2, e3, e4, e5⟩ := cells6 U6.out
        obtain ⟨f0, f1, f2, f3, f4, f5⟩ := free6 U6.out
        go_upto_region 7 with (fail)
        clear c0 c1 c2 c3 c4 c5 e0 e1 e2 e3 e4 e5 f0 f1 f2 f3 f4 f5 SO U6 X6 Y6 B6 I6 D6 K6
        generalize w6.setCell _ _ = w7 at *
        have HSM := Lib.hid (rsame_any s.rows s.cols s.cur true s.ins va1 s.cs.length vc1 ad s.cs.length k s.cs s.cs w7 D7.out I7.out (by have := HL.out; omega))
        rw [decide_eq_true rfl] at HSM
        obtain ⟨c0, c1, c2, c3, c4, c5⟩ := cells6 X7.out
        obtain ⟨e0, e1, e2, e3, e4, e5⟩ := cells6 U7.out
        obtain ⟨d0, d1, d2, d3, d4, d5⟩ := cells6 B7.out
        go_wp2_with fail
        with_reducible refine HSM.out.mono ?_
        rintro e w8 ⟨rfl, hb⟩
        clear c0 c1 c2 c3 c4 c5 e0 e1 e2 e3 e4 e5 d0 d1 d2 d3 d4 d5 U7
        have X8 := Lib.hid (blk X7.out hb)
        have Y8 := Lib.hid (blk Y7.out hb)
        have B8 := Lib.hid (blk B7.out hb)
        have I8 := Lib.hid (I7.out.below hb)
        have D8 := Lib.hid (D7.out.below hb)
        have K8 := kept_hid K7 hb
        clear hb X7 Y7 B7 I7 D7 K7 HSM
        obtain ⟨c0, c1, c2, c3, c4, c5⟩ := cells6 X8.out
        obtain ⟨d0, d1, d2, d3, d4, d5⟩ := cells6 B8.out
        obtain ⟨y0, y1⟩ := cells2 Y8.out
        have e16 : (kind != 16) = true := by simpa using hk16
        have HSN := Lib.hid (rsame_any s.rows s.cols s.cur true s.ins va1 s.cs.length vc1 ad s.cs.length k s.cs s.cs w8 D8.out I8.out (by have := HL.out; omega))
        rw [decide_eq_true rfl] at HSN
        go_wp2_with fail
        with_reducible refine HSN.out.mono ?_
        rintro e w9 ⟨rfl, hb⟩
        clear c0 c1 c2 c3 c4 c5 d0 d1 d2 d3 d4 d5 y0 y1
        have X9 := Lib.hid (blk X8.out hb)
        have I9 := Lib.hid (I8.out.below hb)
        have K9 := kept_hid K8 hb
        clear hb X8 I8 K8 Y8 B8 D8
        go_upto_region 11 with (fail)
        obtain ⟨c0, c1, c2, c3, c4, c5⟩ := cells6 X9.out
        go_wp2_with fail
        with_reducible refine (Q2.out _ I9.out).mono ?_
        rintro e wr ⟨va5, vc5, ev5, rfl, hc, ht, hn, hb⟩
        clear c0 c1 c2 c3 c4 c5
        have HN5 := Lib.hid (show w.heap.size < wr.heap.size from there_lt (blk X9.out hb))
        have HA := al_any wr (.cells #[.int .i64 s.rows, .int .i64 s.cols, .slice va5 s.cs.length vc5, .int .i64 s.cur, .bool false, .bool false] 24)
        have B5 := Lib.hid (heap_alloc_new wr (.cells #[.int .i64 s.rows, .int .i64 s.cols, .slice va5 s.cs.length vc5, .int .i64 s.cur, .bool false, .bool false] 24))
        have C5 := Lib.hid (hc.below HA)
        have T5 := Lib.hid (Err.Told.below ht HA)
        have E5 := Lib.hid (fun h => (hn h).1)
        replace hb := kept_trans hb HA
        replace X9 := Lib.hid (blk X9.out hb)
        replace I9 := Lib.hid (I9.out.below hb)
        replace K9 := kept_hid K9 hb
        clear HA hc ht hn hb
        go_upto_region 12 with (fail)
        generalize wr.heap.size = N5 at *
        generalize wr.alloc _ = wrb at *
        have hev5 := by first | exact E5.out rfl | exact E5.out trivial
        subst hev5
        obtain ⟨c0, c1, c2, c3, c4, c5⟩ := cells6 X9.out
        obtain ⟨e0, e1, e2, e3, e4, e5⟩ := cells6 B5.out
        obtain ⟨f0, f1, f2, f3, f4, f5⟩ := free6 B5.out
        have SO := gsetCell wrb N5 4 (.bool true)
        have B6 := heap_setCell_same wrb N5 4 _ 24 (.bool true) B5.out
        have SP := gsetCell (wrb.setCell ⟨N5, 4, none⟩ (.bool true)) N5 5 (.bool s.ins)
        have B7 := Lib.hid (show ((wrb.setCell ⟨N5, 4, none⟩ (.bool true)).setCell ⟨N5, 5, none⟩ (.bool s.ins)).heap[N5]? = some (.cells #[.int .i64 s.rows, .int .i64 s.cols, .slice va5 s.cs.length vc5, .int .i64 s.cur, .bool true, .bool s.ins] 24 (0, 0)) from heap_setCell_same (wrb.setCell ⟨N5, 4, none⟩ (.bool true)) N5 5 _ 24 (.bool s.ins) B6)
        have HNN := Lib.hid (show w.heap.size < N5 from HN5.out)
        have X7 := Lib.hid (blk_g (blk_g X9.out SO (by intro e; injection e with e; have := HNN.out; omega)) SP (by intro e; injection e with e; have := HNN.out; omega))
        have C6x := celsIn_away C5.out SO (fun y hy => (not_screen C5.out HP.out B5.out y hy).1)
        have C7 := Lib.hid (celsIn_away C6x SP (fun y hy => (not_screen C6x HP.out B6 y hy).1))
        have I6 := celsIn_away I9.out SO (fun y hy => (not_screen I9.out HP.out B5.out y hy).1)
        have I7 := Lib.hid (celsIn_away I6 SP (fun y hy => (not_screen I6 HP.out B6 y hy).1))
        have K7 := Lib.hid (below_grown (below_grown K9.out SO (by have := HNN.out; omega)) SP (by have := HNN.out; omega))
        obtain ⟨q0, q1, q2, q3, q4, q5⟩ := cells6 B6
        obtain ⟨g0, g1, g2, g3, g4, g5⟩ := free6 B6
        clear SO SP C6x I6 B6
        go_upto_region 16 with (fail)
        clear c0 c1 c2 c3 c4 c5 e0 e1 e2 e3 e4 e5 f0 f1 f2 f3 f4 f5 q0 q1 q2 q3 q4 q5 g0 g1 g2 g3 g4 g5 B5 X9
        generalize (wrb.setCell _ _).setCell _ _ = wq at *
        have HSF := Lib.hid (rsame_any s.rows s.cols s.cur true s.ins va5 s.cs.length vc5 ad s.cs.length k s.cs s.cs wq C7.out I7.out (by have := HL.out; omega))
        rw [decide_eq_true rfl] at HSF
        obtain ⟨c0, c1, c2, c3, c4, c5⟩ := cells6 X7.out
        obtain ⟨e0, e1, e2, e3, e4, e5⟩ := cells6 B7.out
        go_wp2_with fail
        with_reducible refine HSF.out.mono ?_
        rintro e wz ⟨rfl, hb⟩
        have KZ := kept_hid K7 hb
        clear hb
        go_wp2_with fail
        go_ret
        exact ⟨rfl, KZ.out⟩
      | false =>
        obtain ⟨tl, ht⟩ : ∃ tl, t = ⟨s.rows, s.cols, s.cs, s.cur, tl, s.ins⟩ := by
          rcases hts with h | h
          · exact ⟨s.lk, h⟩
          · exact ⟨true, h⟩
        subst ht
        clear hts E1
        simp only at B1 C1
        replace hcode := Lib.hid hcode
        have HA := al_any w4b (.cells #[.int .i64 s.rows, .int .i64 s.cols, .slice va1 s.cs.length vc1, .int .i64 s.cur, .bool tl, .bool s.ins] 24)
        have U6 := Lib.hid (heap_alloc_new w4b (.cells #[.int .i64 s.rows, .int .i64 s.cols, .slice va1 s.cs.length vc1, .int .i64 s.cur, .bool tl, .bool s.ins] 24))
        have X6 := Lib.hid (blk X3.out HA)
        have Y6 := Lib.hid (blk Y3.out HA)
        have B6 := Lib.hid (blk B1.out HA)
        have I6 := Lib.hid (I3.out.below HA)
        have D6 := Lib.hid (C1.out.below HA)
        have K6 := kept_hid K3 HA
        have HW5 := Lib.hid (show w.heap.size < w4b.heap.size ∧ N1 < w4b.heap.size ∧ w.heap.size ≤ w4b.heap.size ∧ w.heap.size + 1 < w4b.heap.size from ⟨there_lt X3.out, there_lt B1.out, K3.out.size, there_lt Y3.out⟩)
        obtain ⟨c0, c1, c2, c3, c4, c5⟩ := cells6 B1.out
        clear HA X3 Y3 B1 I3 C1 K3
        go_upto_region 6 with (fail)
        clear c0 c1 c2 c3 c4 c5
        generalize w4b.heap.size = U at *
        generalize w4b.alloc _ = w6 at *
        have SO := gsetCell w6 U 4 (.bool false)
        have U7 := Lib.hid (heap_setCell_same w6 U 4 _ 24 (.bool false) U6.out)
        have X7 := Lib.hid (blk_g X6.out SO (by intro e; injection e with e; have := HW5.out.1; omega))
        have Y7 := Lib.hid (blk_g Y6.out SO (by intro e; injection e with e; have := HW5.out.2.2.2; omega))
        have B7 := Lib.hid (blk_g B6.out SO (by intro e; injection e with e; have := HW5.out.2.1; omega))
        have I7 := Lib.hid (celsIn_away I6.out SO (fun y hy => (not_screen I6.out HP.out U6.out y hy).1))
        have D7 := Lib.hid (celsIn_away D6.out SO (fun y hy => (not_screen D6.out HP.out U6.out y hy).1))
        have K7 := Lib.hid (below_grown K6.out SO HW5.out.2.2.1)
        obtain ⟨c0, c1, c2, c3, c4, c5⟩ := cells6 X6.out
        obtain ⟨e0, e1, e2, e3, e4, e5⟩ := cells6 U6.out
        obtain ⟨f0, f1, f2, f3, f4, f5⟩ := free6 U6.out
        go_upto_region 7 with (fail)
        clear c0 c1 c2 c3 c4 c5 e0 e1 e2 e3 e4 e5 f0 f1 f2 f3 f4 f5 SO U6 X6 Y6 B6 I6 D6 K6
        generalize w6.setCell _ _ = w7 at *
        have HSM := Lib.hid (rsame_any s.rows s.cols s.cur false s.ins va1 s.cs.length vc1 ad s.cs.length k s.cs s.cs w7 D7.out I7.out (by have := HL.out; omega))
        rw [decide_eq_true rfl] at HSM
        obtain ⟨c0, c1, c2, c3, c4, c5⟩ := cells6 X7.out
        obtain ⟨e0, e1, e2, e3, e4, e5⟩ := cells6 U7.out
        obtain ⟨d0, d1, d2, d3, d4, d5⟩ := cells6 B7.out
        go_wp2_with fail
        with_reducible refine HSM.out.mono ?_
        rintro e w8 ⟨rfl, hb⟩
        clear c0 c1 c2 c3 c4 c5 e0 e1 e2 e3 e4 e5 d0 d1 d2 d3 d4 d5 U7
        have X8 := Lib.hid (blk X7.out hb)
        have Y8 := Lib.hid (blk Y7.out hb)
        have B8 := Lib.hid (blk B7.out hb)
        have I8 := Lib.hid (I7.out.below hb)
        have D8 := Lib.hid (D7.out.below hb)
        have K8 := kept_hid K7 hb
        clear hb X7 Y7 B7 I7 D7 K7 HSM
        obtain ⟨c0, c1, c2, c3, c4, c5⟩ := cells6 X8.out
        obtain ⟨d0, d1, d2, d3, d4, d5⟩ := cells6 B8.out
        obtain ⟨y0, y1⟩ := cells2 Y8.out
        go_upto_region 11 with (fail)
        clear c0 c1 c2 c3 c4 c5 d0 d1 d2 d3 d4 d5 y0 y1
        have X9 := X8
        have I9 := I8
        have K9 := K8
        clear X8 I8 K8
        obtain ⟨c0, c1, c2, c3, c4, c5⟩ := cells6 X9.out
        go_wp2_with fail
        with_reducible refine (Q2.out _ I9.out).mono ?_
        rintro e wr ⟨va5, vc5, ev5, rfl, hc, ht, hn, hb⟩
        clear c0 c1 c2 c3 c4 c5
        have HN5 := Lib.hid (show w.heap.size < wr.heap.size from there_lt (blk X9.out hb))
        have HA := al_any wr (.cells #[.int .i64 s.rows, .int .i64 s.cols, .slice va5 s.cs.length vc5, .int .i64 s.cur, .bool false, .bool false] 24)
        have B5 := Lib.hid (heap_alloc_new wr (.cells #[.int .i64 s.rows, .int .i64 s.cols, .slice va5 s.cs.length vc5, .int .i64 s.cur, .bool false, .bool false] 24))
        have C5 := Lib.hid (hc.below HA)
        have T5 := Lib.hid (Err.Told.below ht HA)
        have E5 := Lib.hid (fun h => (hn h).1)
        replace hb := kept_trans hb HA
        replace X9 := Lib.hid (blk X9.out hb)
        replace I9 := Lib.hid (I9.out.below hb)
        replace K9 := kept_hid K9 hb
        clear HA hc ht hn hb
        go_upto_region 12 with (fail)
        generalize wr.heap.size = N5 at *
        generalize wr.alloc _ = wrb at *
        have hev5 := by first | exact E5.out rfl | exact E5.out trivial
        subst hev5
        obtain ⟨c0, c1, c2, c3, c4, c5⟩ := cells6 X9.out
        obtain ⟨e0, e1, e2, e3, e4, e5⟩ := cells6 B5.out
        obtain ⟨f0, f1, f2, f3, f4, f5⟩ := free6 B5.out
        have SO := gsetCell wrb N5 4 (.bool false)
        have B6 := heap_setCell_same wrb N5 4 _ 24 (.bool false) B5.out
        have SP := gsetCell (wrb.setCell ⟨N5, 4, none⟩ (.bool false)) N5 5 (.bool s.ins)
        have B7 := Lib.hid (show ((wrb.setCell ⟨N5, 4, none⟩ (.bool false)).setCell ⟨N5, 5, none⟩ (.bool s.ins)).heap[N5]? = some (.cells #[.int .i64 s.rows, .int .i64 s.cols, .slice va5 s.cs.length vc5, .int .i64 s.cur, .bool false, .bool s.ins] 24 (0, 0)) from heap_setCell_same (wrb.setCell ⟨N5, 4, none⟩ (.bool false)) N5 5 _ 24 (.bool s.ins) B6)
        have HNN := Lib.hid (show w.heap.size < N5 from HN5.out)
        have X7 := Lib.hid (blk_g (blk_g X9.out SO (by intro e; injection e with e; have := HNN.out; omega)) SP (by intro e; injection e with e; have := HNN.out; omega))
        have C6x := celsIn_away C5.out SO (fun y hy => (not_screen C5.out HP.out B5.out y hy).1)
        have C7 := Lib.hid (celsIn_away C6x SP (fun y hy => (not_screen C6x HP.out B6 y hy).1))
        have I6 := celsIn_away I9.out SO (fun y hy => (not_screen I9.out HP.out B5.out y hy).1)
        have I7 := Lib.hid (celsIn_away I6 SP (fun y hy => (not_screen I6 HP.out B6 y hy).1))
        have K7 := Lib.hid (below_grown (below_grown K9.out SO (by have := HNN.out; omega)) SP (by have := HNN.out; omega))
        obtain ⟨q0, q1, q2, q3, q4, q5⟩ := cells6 B6
        obtain ⟨g0, g1, g2, g3, g4, g5⟩ := free6 B6
        clear SO SP C6x I6 B6
        go_upto_region 16 with (fail)
        clear c0 c1 c2 c3 c4 c5 e0 e1 e2 e3 e4 e5 f0 f1 f2 f3 f4 f5 q0 q1 q2 q3 q4 q5 g0 g1 g2 g3 g4 g5 B5 X9
        generalize (wrb.setCell _ _).setCell _ _ = wq at *
        have HSF := Lib.hid (rsame_any s.rows s.cols s.cur false s.ins va5 s.cs.length vc5 ad s.cs.length k s.cs s.cs wq C7.out I7.out (by have := HL.out; omega))
        rw [decide_eq_true rfl] at HSF
        obtain ⟨c0, c1, c2, c3, c4, c5⟩ := cells6 X7.out
        obtain ⟨e0, e1, e2, e3, e4, e5⟩ := cells6 B7.out
        go_wp2_with fail
        with_reducible refine HSF.out.mono ?_
        rintro e wz ⟨rfl, hb⟩
        have KZ := kept_hid K7 hb
        clear hb
        go_wp2_with fail
        go_ret
        exact ⟨rfl, KZ.out⟩
end Kyb
end Go.Proofs.YtpgbnnnfeaodmaaGreatDoor
