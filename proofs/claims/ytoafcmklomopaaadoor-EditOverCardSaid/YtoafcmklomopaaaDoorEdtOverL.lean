/- The law EditOver. Written by tools/gen_edt_laws.py. -/
import Derived.Test.YtoafcmklomopaaaDoorEdtAwake
import Derived.Test.YtoafcmklomopaaaDoorEdtRtyp3
import Derived.Test.YtoafcmklomopaaaDoorBunGrd
import Derived.Test.YtoafcmklomopaaaDoorBunGrd
import Derived.Test.YtoafcmklomopaaaDoorOpnScr
import Derived.StillTailTactics
import Derived.Deep.Cut
import Derived.Deep.RegionHeld3
namespace Go.Proofs.YtoafcmklomopaaaDoor
open Go.RowKit Sha Six Apd Cut Err Att Grd Fld Scr
set_option linter.unusedVariables false
namespace Edt
set_option maxRecDepth 100000 in
set_option maxHeartbeats 8000000 in
theorem over_any (s : S) (ad : Option Addr) (k : Nat) (c : Int) (d : Int) (w : World) (h : CelsIn w (.slice ad s.cs.length k) s.cs) (hwf : Opn.Wf s.cs) (hm : s.cs.length ≤ maxLen) (wc : (Lit.int .u8 c).wf = true) (wd : (Lit.int .u8 d).wf = true) (hg : Handle w) :
    Calls Tryd.prog 7 #[.agg #[.int .i64 s.rows, .int .i64 s.cols, .slice ad s.cs.length k, .int .i64 s.cur, .bool s.lk, .bool s.ins], .int .u8 c, .int .u8 d] w fun e w' => e = .returned (.bool true) ∧ Below w.heap.size w w' := by
  obtain ⟨b0c, b1c⟩ := Go.Proofs.YtoafcmklomopaaaDoor.Ord.wf_u8 wc
  obtain ⟨c, rfl⟩ := Int.eq_ofNat_of_zero_le b0c
  have HBc := Lib.hid (show c < 256 by omega)
  obtain ⟨b0d, b1d⟩ := Go.Proofs.YtoafcmklomopaaaDoor.Ord.wf_u8 wd
  obtain ⟨d, rfl⟩ := Int.eq_ofNat_of_zero_le b0d
  have HBd := Lib.hid (show d < 256 by omega)
  have HG := Lib.hid fun W (hb : Below w.heap.size w W) => hand_of hg hb
  have HAW := Lib.hid fun W (hb : Below w.heap.size w W) => awake_any W (hand_of hg hb)
  have HB := Lib.hid (al_any w (.cells #[.int .i64 s.rows, .int .i64 s.cols, .slice ad s.cs.length k, .int .i64 s.cur, .bool s.lk, .bool s.ins] 24))
  have HX := Lib.hid (heap_alloc_new w (.cells #[.int .i64 s.rows, .int .i64 s.cols, .slice ad s.cs.length k, .int .i64 s.cur, .bool s.lk, .bool s.ins] 24))
  have HI := Lib.hid (h.below HB.out)
  have HF := Lib.hid fun W hb => rfew_any s ad k W (HI.out.below hb) (wf_sound hwf)
  have H8 := Lib.hid (wf_sound hwf)
  clear h hwf hm hg wc wd b0c b1c b0d b1d
  cases hf : few s with
  | false =>
    rw [hf] at HF
    go_enter Tryd.func7, Tryd.ntmps7
    go_upto_region 1 with (fail)
    generalize w.alloc _ = w1 at *
    go_wp2_with fail
    with_reducible refine (HAW.out _ HB.out).mono ?_
    rintro e w2 ⟨rfl, hb⟩
    have K2 := Lib.hid hb
    have X2 := Lib.hid (blk HX.out hb)
    have K2' := kept_hid HB hb
    have I2 := Lib.hid (HI.out.below hb)
    clear hb
    obtain ⟨c0, c1, c2, c3, c4, c5⟩ := cells6 X2.out
    go_wp2_with fail
    with_reducible refine (HF.out _ K2.out).mono ?_
    rintro e w3 ⟨rfl, hb⟩
    have K3 := kept_hid K2' hb
    have X3 := Lib.hid (blk X2.out hb)
    have I3 := Lib.hid (I2.out.below hb)
    clear hb c0 c1 c2 c3 c4 c5 K2 K2' X2 I2 HB HX HI HF
    go_wp2_with fail
    with_reducible refine (HAW.out _ K3.out).mono ?_
    rintro e w4 ⟨rfl, hb⟩
    have KE := kept_hid K3 hb
    clear hb
    go_wp2_with fail
    go_ret
    exact ⟨rfl, KE.out⟩
  | true =>
    rw [hf] at HF
    obtain ⟨q1, q2, q3⟩ := few_parts hf
    have HL := Lib.hid q1
    have HP := Lib.hid q2
    have HR := Lib.hid q3
    have HLT := Lib.hid (show s.cs.length < 10000 from by have := HL.out; omega)
    clear q1 q2 q3 hf
    go_enter Tryd.func7, Tryd.ntmps7
    go_upto_region 1 with (fail)
    generalize w.alloc _ = w1 at *
    go_wp2_with fail
    with_reducible refine (HAW.out _ HB.out).mono ?_
    rintro e w2 ⟨rfl, hb⟩
    have K2 := Lib.hid hb
    have X2 := Lib.hid (blk HX.out hb)
    have K2' := kept_hid HB hb
    have I2 := Lib.hid (HI.out.below hb)
    clear hb
    obtain ⟨c0, c1, c2, c3, c4, c5⟩ := cells6 X2.out
    go_wp2_with fail
    with_reducible refine (HF.out _ K2.out).mono ?_
    rintro e w3 ⟨rfl, hb⟩
    have K3 := kept_hid K2' hb
    have X3 := Lib.hid (blk X2.out hb)
    have I3 := Lib.hid (I2.out.below hb)
    clear hb c0 c1 c2 c3 c4 c5 K2 K2' X2 I2 HB HX HI HF
    clear HAW
    obtain ⟨s1, hs1⟩ : ∃ s1 : S, s1 = { s with ins := false } := ⟨_, rfl⟩
    have HI1 := Lib.hid (show s1.ins = false from by rw [hs1])
    have HR1 := Lib.hid (show sright s1 = true from by rw [hs1]; exact HR.out)
    have H81 := Lib.hid (show Sound s1.cs from by rw [hs1]; exact H8.out)
    have HL1 := Lib.hid (show s1.cs.length < 10000 from by rw [hs1]; exact HLT.out)
    have HCS := Lib.hid (show s1.cs = s.cs from by rw [hs1])
    obtain ⟨c0, c1, c2, c3, c4, c5⟩ := cells6 X3.out
    obtain ⟨f0, f1, f2, f3, f4, f5⟩ := free6 X3.out
    have SO := gsetCell w3 w.heap.size 5 (.bool false)
    have X4 := Lib.hid (show (w3.setCell ⟨w.heap.size, 5, none⟩ (.bool false)).heap[w.heap.size]? = some (.cells #[.int .i64 s1.rows, .int .i64 s1.cols, .slice ad s1.cs.length k, .int .i64 s1.cur, .bool s1.lk, .bool s1.ins] 24 (0, 0)) from by
      rw [hs1]
      exact heap_setCell_same w3 w.heap.size 5 _ 24 (.bool false) X3.out)
    have I4 := Lib.hid (show CelsIn (w3.setCell ⟨w.heap.size, 5, none⟩ (.bool false)) (.slice ad s1.cs.length k) s1.cs from by
      rw [HCS.out]
      exact celsIn_away I3.out SO (fun y hy => (not_screen I3.out HP.out X3.out y hy).1))
    have K4 := Lib.hid (below_grown K3.out SO (Nat.le_refl _))
    clear SO X3 I3 K3 hs1
    go_upto_region 4 with (fail)
    clear c0 c1 c2 c3 c4 c5 f0 f1 f2 f3 f4 f5
    generalize w3.setCell _ _ = w4 at *
    have HTL := Lib.hid (typ_length (s := s1) c)
    have HTR := Lib.hid (typ_right HR1.out c)
    have HTL2 := Lib.hid (typ_length (s := s1) d)
    have HCU := Lib.hid (show 0 ≤ s1.cur ∧ s1.cur < (s1.cs.length : Int) from by obtain ⟨_, _, q3, q4, _⟩ := sright_parts HR1.out; exact ⟨q3, q4⟩)
    have HOV := Lib.hid (show (typ s1 c).2.1 = 0 → (typ s1 d).2.1 = 0 → (typ { (typ s1 c).1 with cur := s1.cur } d).1 = (typ s1 d).1 ∧ (typ { (typ s1 c).1 with cur := s1.cur } d).2.1 = 0 from fun h1 h2 => by rw [over_typ HR1.out HI1.out h1 h2]; exact ⟨rfl, h2⟩)
    have Q1 := Lib.hid (type_any s1 ad k c w4 I4.out HR1.out H81.out HL1.out HBc.out)
    have Q2 := Lib.hid fun W (h : CelsIn W (.slice ad s1.cs.length k) s1.cs) => type_any s1 ad k d W h HR1.out H81.out HL1.out HBd.out
    simp only [GaveE] at Q1 Q2
    generalize (typ s1 c).2.2 = wh1 at *
    generalize (typ s1 c).2.1 = code1 at *
    generalize (typ s1 c).1 = t1 at *
    generalize (typ s1 d).2.2 = wh2 at *
    generalize (typ s1 d).2.1 = code2 at *
    generalize (typ s1 d).1 = t2 at *
    obtain ⟨c0, c1, c2, c3, c4, c5⟩ := cells6 X4.out
    go_wp2_with fail
    with_reducible refine Q1.out.mono ?_
    rintro e w5 ⟨va1, vc1, ev1, rfl, hc, ht, hn, hb⟩
    clear c0 c1 c2 c3 c4 c5
    have HNW := Lib.hid (show w.heap.size ≤ w5.heap.size from Nat.le_trans K4.out.size hb.size)
    have HA := al_any w5 (.cells #[.int .i64 t1.rows, .int .i64 t1.cols, .slice va1 t1.cs.length vc1, .int .i64 t1.cur, .bool t1.lk, .bool t1.ins] 24)
    have B1 := Lib.hid (heap_alloc_new w5 (.cells #[.int .i64 t1.rows, .int .i64 t1.cols, .slice va1 t1.cs.length vc1, .int .i64 t1.cur, .bool t1.lk, .bool t1.ins] 24))
    have C1 := Lib.hid (hc.below HA)
    have T1 := Lib.hid (Err.Told.below ht HA)
    have E1 := Lib.hid (fun h => (hn h).1)
    clear hn
    replace hb := kept_trans hb HA
    replace X4 := Lib.hid (blk X4.out hb)
    replace I4 := Lib.hid (I4.out.below hb)
    replace K4 := kept_hid K4 hb
    clear HA hc ht hb
    go_upto_region 5 with (fail)
    generalize w5.heap.size = N1 at *
    generalize w5.alloc _ = w5b at *
    obtain ⟨c0, c1, c2, c3, c4, c5⟩ := cells6 X4.out
    go_wp2_with fail
    with_reducible refine (Q2.out _ I4.out).mono ?_
    rintro e w6 ⟨va2, vc2, ev2, rfl, hc, ht, hn, hb⟩
    clear c0 c1 c2 c3 c4 c5
    have HNN := Lib.hid (show N1 < w6.heap.size from there_lt (blk B1.out hb))
    have HA := al_any w6 (.cells #[.int .i64 t2.rows, .int .i64 t2.cols, .slice va2 t2.cs.length vc2, .int .i64 t2.cur, .bool t2.lk, .bool t2.ins] 24)
    have B2 := Lib.hid (heap_alloc_new w6 (.cells #[.int .i64 t2.rows, .int .i64 t2.cols, .slice va2 t2.cs.length vc2, .int .i64 t2.cur, .bool t2.lk, .bool t2.ins] 24))
    have C2 := Lib.hid (hc.below HA)
    have T2 := Lib.hid (Err.Told.below ht HA)
    have E2 := Lib.hid (fun h => (hn h).1)
    clear hn
    replace hb := kept_trans hb HA
    replace X4 := Lib.hid (blk X4.out hb)
    replace B1 := Lib.hid (blk B1.out hb)
    replace I4 := Lib.hid (I4.out.below hb)
    replace C1 := Lib.hid (C1.out.below hb)
    replace T1 := Lib.hid (Err.Told.below T1.out hb)
    replace K4 := kept_hid K4 hb
    clear HA hc ht hb
    go_upto_region 6 with (fail)
    generalize w6.heap.size = N2 at *
    generalize w6.alloc _ = w6b at *
    by_cases h1 : code1 = 0
    · have e1 := E1.out (by omega)
      subst e1
      by_cases h2 : code2 = 0
      · have e2 := E2.out (by omega)
        subst e2
        have HOV2 := Lib.hid (HOV.out h1 h2)
        clear h1 h2 HOV T1 T2 E1 E2
        obtain ⟨c0, c1, c2, c3, c4, c5⟩ := cells6 X4.out
        obtain ⟨d0, d1, d2, d3, d4, d5⟩ := cells6 B1.out
        obtain ⟨f0, f1, f2, f3, f4, f5⟩ := free6 B1.out
        have SO := gsetCell w6b N1 3 (.int .i64 s1.cur)
        have D1 := Lib.hid (show (w6b.setCell ⟨N1, 3, none⟩ (.int .i64 s1.cur)).heap[N1]? = some (.cells #[.int .i64 t1.rows, .int .i64 t1.cols, .slice va1 t1.cs.length vc1, .int .i64 s1.cur, .bool t1.lk, .bool t1.ins] 24 (0, 0)) from heap_setCell_same w6b N1 3 _ 24 _ B1.out)
        have D2 := Lib.hid (blk_g B2.out SO (by intro e; injection e with e; have := HNN.out; omega))
        have G1 := Lib.hid (celsIn_away C1.out SO (fun y hy => (not_screen C1.out (by rw [HTL.out.1]; have := HCU.out; omega) B1.out y hy).1))
        have G2 := Lib.hid (celsIn_away C2.out SO (fun y hy => (not_screen C2.out (by rw [HTL2.out.1]; have := HCU.out; omega) B1.out y hy).1))
        have K5 := Lib.hid (below_grown K4.out SO HNW.out)
        clear SO B1 B2 C1 C2 K4 I4
        go_upto_region 9 with (fail)
        clear c0 c1 c2 c3 c4 c5 d0 d1 d2 d3 d4 d5 f0 f1 f2 f3 f4 f5
        generalize w6b.setCell _ _ = w7 at *
        have HTC := Lib.hid (right_cur HTR.out HCU.out.1 (by rw [HTL.out.1]; exact HCU.out.2))
        have Q3 := Lib.hid (type_any { t1 with cur := s1.cur } va1 vc1 d w7 G1.out HTC.out (right_sound HTC.out) (by simp only; rw [HTL.out.1]; exact HL1.out) HBd.out)
        simp only [GaveE] at Q3
        rw [HOV2.out.1, HOV2.out.2] at Q3
        generalize (typ { t1 with cur := s1.cur } d).2.2 = wh3 at *
        obtain ⟨c0, c1, c2, c3, c4, c5⟩ := cells6 D1.out
        go_wp2_with fail
        with_reducible refine Q3.out.mono ?_
        rintro e w8 ⟨va3, vc3, ev3, rfl, hc, ht, hn, hb⟩
        clear c0 c1 c2 c3 c4 c5
        have HA := al_any w8 (.cells #[.int .i64 t2.rows, .int .i64 t2.cols, .slice va3 t2.cs.length vc3, .int .i64 t2.cur, .bool t2.lk, .bool t2.ins] 24)
        have B3 := Lib.hid (heap_alloc_new w8 (.cells #[.int .i64 t2.rows, .int .i64 t2.cols, .slice va3 t2.cs.length vc3, .int .i64 t2.cur, .bool t2.lk, .bool t2.ins] 24))
        have C3 := Lib.hid (hc.below HA)
        have T3 := Lib.hid (Err.Told.below ht HA)
        have E3 := Lib.hid (fun h => (hn h).1)
        clear hn
        replace hb := kept_trans hb HA
        replace D2 := Lib.hid (blk D2.out hb)
        replace G2 := Lib.hid (G2.out.below hb)
        replace K5 := kept_hid K5 hb
        clear HA hc ht hb
        go_upto_region 10 with (fail)
        generalize w8.heap.size = N3 at *
        generalize w8.alloc _ = w8b at *
        have e3 := E3.out rfl
        subst e3
        have HSM := Lib.hid (rsame_any t2.rows t2.cols t2.cur t2.lk t2.ins va3 t2.cs.length vc3 va2 t2.cs.length vc2 t2.cs t2.cs w8b C3.out G2.out (by rw [HTL2.out.1]; have := HL1.out; omega))
        rw [decide_eq_true rfl] at HSM
        obtain ⟨c0, c1, c2, c3, c4, c5⟩ := cells6 B3.out
        obtain ⟨e0, e1, e2, e3, e4, e5⟩ := cells6 D2.out
        go_wp2_with fail
        with_reducible refine HSM.out.mono ?_
        rintro e w9 ⟨rfl, hb⟩
        replace K5 := kept_hid K5 hb
        clear hb
        go_wp2_with fail
        go_ret
        exact ⟨rfl, K5.out⟩
      · rcases T2.out with ⟨_, q1, _⟩ | ⟨rfl, _⟩ | ⟨_, _, rfl, _⟩
        · exact absurd q1 (by omega)
        all_goals
          clear h1 h2 HOV T1 T2 E1 E2
          go_wp2_with fail
          go_ret
          exact ⟨rfl, K4.out⟩
    · rcases T1.out with ⟨_, q1, _⟩ | ⟨rfl, _⟩ | ⟨_, _, rfl, _⟩
      · exact absurd q1 (by omega)
      all_goals
        clear h1 HOV T1 T2 E1 E2
        go_wp2_with fail
        go_ret
        exact ⟨rfl, K4.out⟩
end Edt
end Go.Proofs.YtoafcmklomopaaaDoor
