/- The law HostKeeps. Written by tools/gen_hst_laws.py. -/
import Derived.Test.YtkobodoejpioeaaDoorHstAwake
import Derived.Test.YtkobodoejpioeaaDoorBunHst
import Derived.Test.YtkobodoejpioeaaDoorBunStr
import Derived.Test.YtkobodoejpioeaaDoorBunHst
import Derived.Test.YtkobodoejpioeaaDoorBunGrd
import Derived.Test.YtkobodoejpioeaaDoorBunGrd
import Derived.Test.YtkobodoejpioeaaDoorOpnScr
import Derived.StillTailTactics
namespace Go.Proofs.YtkobodoejpioeaaDoor
open Go.RowKit Sha Six Apd Cut Err Att Grd Fld Pnt
set_option linter.unusedVariables false
namespace Hst
set_option maxRecDepth 100000 in
set_option maxHeartbeats 8000000 in
theorem keeps_any (s : S) (ad : Option Addr) (k : Nat) (cmd : Int) (fa fu fr : Bool) (ov : Value) (os : List Go.Proofs.YtkobodoejpioeaaDoor.Ord.O) (w : World) (h : CelsIn w (.slice ad s.cs.length k) s.cs) (hwf : Opn.Wf s.cs) (hm : s.cs.length ≤ maxLen) (hO : Str.OrdsIn w 0 ov os) (hos : ∀ o ∈ os, (∀ x ∈ o.t, x < 256) ∧ o.c < 256) (hom : os.length ≤ maxLen) (hg : Handle w) :
    Calls Tryd.prog 6 #[.agg #[.int .i64 s.rows, .int .i64 s.cols, .slice ad s.cs.length k, .int .i64 s.cur, .bool s.lk, .bool s.ins], .agg #[.int .i64 cmd, .bool fa, .bool fu, .bool fr, ov]] w fun e w' => e = .returned (.bool true) ∧ Below w.heap.size w w' := by
  have HAW := Lib.hid fun W (hb : Below w.heap.size w W) => awake_any W (hand_of hg hb)
  have HCO := Lib.hid fun W ev (c n : Int) (hb : Below w.heap.size w W) (ht : Err.Told W ev c n) => code_told ev c n W (hand_of hg hb) ht
  obtain ⟨al, cl, rfl, _, _⟩ := hO.form
  have HB := Lib.hid (kept_trans (al_any w (.cells #[.int .i64 s.rows, .int .i64 s.cols, .slice ad s.cs.length k, .int .i64 s.cur, .bool s.lk, .bool s.ins] 24)) (al_any _ (.cells #[.int .i64 cmd, .bool fa, .bool fu, .bool fr, .slice al os.length cl] 38)))
  have HX := Lib.hid (heap_alloc2_old w (.cells #[.int .i64 s.rows, .int .i64 s.cols, .slice ad s.cs.length k, .int .i64 s.cur, .bool s.lk, .bool s.ins] 24) (.cells #[.int .i64 cmd, .bool fa, .bool fu, .bool fr, .slice al os.length cl] 38))
  have HY := Lib.hid (heap_alloc2_new w (.cells #[.int .i64 s.rows, .int .i64 s.cols, .slice ad s.cs.length k, .int .i64 s.cur, .bool s.lk, .bool s.ins] 24) (.cells #[.int .i64 cmd, .bool fa, .bool fu, .bool fr, .slice al os.length cl] 38))
  have HI := Lib.hid (h.below HB.out)
  have HF := Lib.hid fun W hb => rfew_any s ad k W (HI.out.below hb) (wf_sound hwf)
  have H8 := Lib.hid (wf_sound hwf)
  have HO := Lib.hid hO
  have HFL := Lib.hid fun W hb => Str.few_any ⟨cmd, fa, fu, fr, os⟩ al os.length cl W (hO.below hb) hom
  simp only at HFL
  have HOS := Lib.hid hos
  clear h hwf hm hO hos hom hg
  cases hf : few s with
  | false =>
    rw [hf] at HF
    go_enter Tryd.func6, Tryd.ntmps6
    go_upto_region 1 with (fail)
    generalize (w.alloc _).alloc _ = w1 at *
    go_wp2_with fail
    with_reducible refine (HAW.out _ HB.out).mono ?_
    rintro e w2 ⟨rfl, hb⟩
    have K2 := Lib.hid hb
    have X2 := Lib.hid (blk HX.out hb)
    have K2' := kept_hid HB hb
    clear hb
    obtain ⟨c0, c1, c2, c3, c4, c5⟩ := cells6 X2.out
    go_wp2_with fail
    with_reducible refine (HF.out _ K2.out).mono ?_
    rintro e w3 ⟨rfl, hb⟩
    have K3 := kept_hid K2' hb
    clear hb c0 c1 c2 c3 c4 c5
    go_wp2_with fail
    with_reducible refine (HAW.out _ K3.out).mono ?_
    rintro e w4 ⟨rfl, hb⟩
    have KE := kept_hid K3 hb
    clear hb
    go_wp2_with fail
    go_ret
    exact ⟨rfl, KE.out⟩
  | true =>
    rw [hf] at HF
    cases hfl : Str.fewB os with
    | false =>
      rw [hfl] at HFL
      go_enter Tryd.func6, Tryd.ntmps6
      go_upto_region 1 with (fail)
      generalize (w.alloc _).alloc _ = w1 at *
      go_wp2_with fail
      with_reducible refine (HAW.out _ HB.out).mono ?_
      rintro e w2 ⟨rfl, hb⟩
      have K2 := Lib.hid hb
      have X2 := Lib.hid (blk HX.out hb)
      have Y2 := Lib.hid (blk HY.out hb)
      have K2' := kept_hid HB hb
      have I2 := Lib.hid (HI.out.below hb)
      clear hb
      obtain ⟨c0, c1, c2, c3, c4, c5⟩ := cells6 X2.out
      go_wp2_with fail
      with_reducible refine (HF.out _ K2.out).mono ?_
      rintro e w3 ⟨rfl, hb⟩
      have K3' := kept_hid K2' hb
      have X3' := Lib.hid (blk X2.out hb)
      have Y3' := Lib.hid (blk Y2.out hb)
      have I3' := Lib.hid (I2.out.below hb)
      clear hb c0 c1 c2 c3 c4 c5 K2 K2' X2 Y2 I2 HB HX HY HI HF
      obtain ⟨d0, d1, d2, d3, d4⟩ := cells5o Y3'.out
      go_wp2_with fail
      with_reducible refine (HFL.out _ K3'.out).mono ?_
      rintro e w4 ⟨rfl, hb⟩
      have K3 := kept_hid K3' hb
      have X3 := Lib.hid (blk X3'.out hb)
      have Y3 := Lib.hid (blk Y3'.out hb)
      have I3 := Lib.hid (I3'.out.below hb)
      clear hb d0 d1 d2 d3 d4 K3' X3' Y3' I3' HFL
      go_wp2_with fail
      with_reducible refine (HAW.out _ K3.out).mono ?_
      rintro e w5 ⟨rfl, hb⟩
      have KE := kept_hid K3 hb
      clear hb
      go_wp2_with fail
      go_ret
      exact ⟨rfl, KE.out⟩
    | true =>
      rw [hfl] at HFL
      obtain ⟨hol, hsd⟩ := few_sound hfl HOS.out
      have HOL := Lib.hid hol
      have HSD := Lib.hid hsd
      clear hol hsd hfl
      obtain ⟨q1, q2, q3⟩ := few_parts hf
      have HL := Lib.hid q1
      have HP := Lib.hid q2
      have HR := Lib.hid q3
      clear q1 q2 q3 hf
      have HLT := Lib.hid (show s.cs.length < 10000 from by have := HL.out; omega)
      by_cases hcw : (Str.cwrite ⟨cmd, fa, fu, fr, os⟩ s.cs.length).2.1 = 0
      · have HCW := Lib.hid hcw
        clear hcw
        go_enter Tryd.func6, Tryd.ntmps6
        go_upto_region 1 with (fail)
        generalize (w.alloc _).alloc _ = w1 at *
        go_wp2_with fail
        with_reducible refine (HAW.out _ HB.out).mono ?_
        rintro e w2 ⟨rfl, hb⟩
        have K2 := Lib.hid hb
        have X2 := Lib.hid (blk HX.out hb)
        have Y2 := Lib.hid (blk HY.out hb)
        have K2' := kept_hid HB hb
        have I2 := Lib.hid (HI.out.below hb)
        clear hb
        obtain ⟨c0, c1, c2, c3, c4, c5⟩ := cells6 X2.out
        go_wp2_with fail
        with_reducible refine (HF.out _ K2.out).mono ?_
        rintro e w3 ⟨rfl, hb⟩
        have K3' := kept_hid K2' hb
        have X3' := Lib.hid (blk X2.out hb)
        have Y3' := Lib.hid (blk Y2.out hb)
        have I3' := Lib.hid (I2.out.below hb)
        clear hb c0 c1 c2 c3 c4 c5 K2 K2' X2 Y2 I2 HB HX HY HI HF
        obtain ⟨d0, d1, d2, d3, d4⟩ := cells5o Y3'.out
        go_wp2_with fail
        with_reducible refine (HFL.out _ K3'.out).mono ?_
        rintro e w4 ⟨rfl, hb⟩
        have K3 := kept_hid K3' hb
        have X3 := Lib.hid (blk X3'.out hb)
        have Y3 := Lib.hid (blk Y3'.out hb)
        have I3 := Lib.hid (I3'.out.below hb)
        clear hb d0 d1 d2 d3 d4 K3' X3' Y3' I3' HFL
        have HRC := Lib.hid (rcopy_any s ad k w4 I3.out (by have := HL.out; omega))
        obtain ⟨c0, c1, c2, c3, c4, c5⟩ := cells6 X3.out
        go_upto_region 3 with (fail)
        go_wp2_with fail
        with_reducible refine HRC.out.mono ?_
        rintro e w5 ⟨va1, vc1, rfl, ho1, hb⟩
        clear HRC c0 c1 c2 c3 c4 c5
        have HA := al_any w5 (.cells #[.int .i64 s.rows, .int .i64 s.cols, .slice va1 s.cs.length vc1, .int .i64 s.cur, .bool s.lk, .bool s.ins] 24)
        have L6 := Lib.hid (heap_alloc_new w5 (.cells #[.int .i64 s.rows, .int .i64 s.cols, .slice va1 s.cs.length vc1, .int .i64 s.cur, .bool s.lk, .bool s.ins] 24))
        have X6 := Lib.hid (blk X3.out (kept_trans hb HA))
        have Y6 := Lib.hid (blk Y3.out (kept_trans hb HA))
        have I6 := Lib.hid (I3.out.below (kept_trans hb HA))
        have K6 := kept_hid K3 (kept_trans hb HA)
        have J6 := Lib.hid ((OwnCels.below ho1 HA).to)
        clear HA ho1 hb X3 Y3 I3 K3
        go_upto_region 4 with (fail)
        generalize w5.heap.size = B1 at *
        generalize w5.alloc _ = w6 at *
        obtain ⟨c0, c1, c2, c3, c4, c5⟩ := cells6 X6.out
        obtain ⟨d0, d1, d2, d3, d4⟩ := cells5o Y6.out
        have HDO := Lib.hid (do_ok s ad k ⟨cmd, fa, fu, fr, os⟩ al os.length cl w6 I6.out HR.out H8.out HLT.out (HO.out.below K6.out) HSD.out (by have := HOL.out; simp only; omega) HCW.out)
        have HPR := Lib.hid (hdo_rest s ⟨cmd, fa, fu, fr, os⟩)
        simp only [GaveS] at HDO
        generalize hdo s ⟨cmd, fa, fu, fr, os⟩ = st at *
        go_wp2_with fail
        with_reducible refine HDO.out.mono ?_
        rintro e w7 ⟨va, vc, rfl, ho, hb⟩
        clear c0 c1 c2 c3 c4 c5 d0 d1 d2 d3 d4 HDO
        obtain ⟨g, vd, e1, hg1, hg2, _⟩ := OwnCels.at ho (by rw [HPR.out.2.2]; exact HP.out)
        injection e1 with e1 e2 e3
        subst e1
        subst e3
        clear e2
        have HA := al_any w7 (.cells #[.int .i64 st.rows, .int .i64 st.cols, .slice (some ⟨g, 0, none⟩) st.cs.length vc, .int .i64 st.cur, .bool st.lk, .bool st.ins] 24)
        have T8 := Lib.hid (heap_alloc_new w7 (.cells #[.int .i64 st.rows, .int .i64 st.cols, .slice (some ⟨g, 0, none⟩) st.cs.length vc, .int .i64 st.cur, .bool st.lk, .bool st.ins] 24))
        have KW8 := Lib.hid (kept_trans hb HA)
        have O8 := Lib.hid (OwnCels.below ho HA)
        clear HA ho hb
        go_upto_region 5 with (fail)
        generalize w7.heap.size = B2 at *
        generalize w7.alloc _ = w8 at *
        have HRS := Lib.hid (reset_any s ad k true w8 (I6.out.below KW8.out) HR.out H8.out HLT.out)
        simp only [GaveA, hreset, resetC_length] at HRS
        have hB2 := there_lt T8.out
        obtain ⟨c0, c1, c2, c3, c4, c5⟩ := cells6 (blk X6.out KW8.out)
        go_wp2_with fail
        with_reducible refine HRS.out.mono ?_
        rintro e w9 ⟨va2, vc2, rfl, ho, hb⟩
        clear c0 c1 c2 c3 c4 c5 HRS
        obtain ⟨g', vd, e1, hg3, hg4, _⟩ := OwnCels.at ho (by rw [resetC_length]; exact HP.out)
        injection e1 with e1 e2 e3
        subst e1
        subst e3
        clear e2
        have HA := al_any w9 (.cells #[.int .i64 s.rows, .int .i64 s.cols, .slice (some ⟨g', 0, none⟩) s.cs.length vc2, .int .i64 s.cur, .bool s.lk, .bool s.ins] 24)
        have R10 := Lib.hid (heap_alloc_new w9 (.cells #[.int .i64 s.rows, .int .i64 s.cols, .slice (some ⟨g', 0, none⟩) s.cs.length vc2, .int .i64 s.cur, .bool s.lk, .bool s.ins] 24))
        have T10 := Lib.hid (blk T8.out (kept_trans hb HA))
        have KW10 := kept_hid KW8 (kept_trans hb HA)
        have O10 := Lib.hid (OwnCels.below O8.out (kept_trans hb HA))
        have hk8 := KW8.out.size
        have P10 := Lib.hid (OwnCels.mono (b := w6.heap.size) (OwnCels.below ho HA) hk8)
        have HSEP := Lib.hid (show w6.heap.size ≤ g ∧ g < B2 ∧ B2 < g' ∧ g' < w9.heap.size from by omega)
        clear HA ho hb T8 O8 KW8 hg1 hg2 hg3 hg4 hB2 hk8
        go_upto_region 8 with (fail)
        generalize w9.heap.size = B3 at *
        generalize w9.alloc _ = w10 at *
        have HSL := Lib.hid (show st.cs.length = s.cs.length from HPR.out.2.2)
        rw [show st.cs.length = s.cs.length from HPR.out.2.2] at T10 O10 ⊢
        go_wp2_with fail
        go_loopg [9] (s.cs.length + 1) (fun mm ii wr => ∃ q : Nat, q ≤ s.cs.length ∧ mm = s.cs.length + 1 - q ∧ ii = .int .i64 q ∧ Hid (Below w6.heap.size w6 wr) ∧ Hid (wr.heap[B2]? = some (.cells #[.int .i64 st.rows, .int .i64 st.cols, .slice (some ⟨g, 0, none⟩) s.cs.length vc, .int .i64 st.cur, .bool st.lk, .bool st.ins] 24 (0, 0))) ∧ Hid (wr.heap[B3]? = some (.cells #[.int .i64 s.rows, .int .i64 s.cols, .slice (some ⟨g', 0, none⟩) s.cs.length vc2, .int .i64 s.cur, .bool s.lk, .bool s.ins] 24 (0, 0))) ∧ ∃ ds es : List C, ds.length = s.cs.length ∧ es.length = s.cs.length ∧ Hid (OwnCels wr w6.heap.size (.slice (some ⟨g, 0, none⟩) s.cs.length vc) ds) ∧ Hid (OwnCels wr w6.heap.size (.slice (some ⟨g', 0, none⟩) s.cs.length vc2) es))
        case atStart => exact ⟨0, Nat.zero_le _, rfl, rfl, KW10, T10, R10, st.cs, _, HSL.out, resetC_length _ _, O10, P10⟩
        case round =>
          obtain ⟨q, hq, rfl, rfl, KW, TB, RB, ds, es, hds, hes, OD, OE⟩ := hrel
          clear KW10 T10 R10 O10 P10
          have ew : IntKind.i64.wrap ((q : Int) + 1) = (q : Int) + 1 := by
            have := HL.out
            rw [IntWalk.i64_in] <;> omega
          obtain ⟨c0, c1, c2, c3, c4, c5⟩ := cells6 TB.out
          by_cases hlt : q < s.cs.length
          · have HLDds := Lib.hid (show q < ds.length from by omega)
            have HLDes := Lib.hid (show q < es.length from by omega)
            have hi0 : (0 : Int) ≤ (q : Int) := by omega
            have hi1 : (q : Int) < (s.cs.length : Int) := by omega
            obtain ⟨yf, yp, yn, ys, ym, yc, ey⟩ := c_eta (ds.getD q noC)
            obtain ⟨⟨p0, p1, p2, p3, p4, p5⟩, fz⟩ := OwnCels.spot OD.out HLDds.out ey
            obtain ⟨q0, q1, q2, q3, q4, q5⟩ : wr.frozen? ⟨g, q * 6, none⟩ = false ∧ wr.frozen? ⟨g, q * 6 + 1, none⟩ = false ∧ wr.frozen? ⟨g, q * 6 + 2, none⟩ = false ∧ wr.frozen? ⟨g, q * 6 + 3, none⟩ = false ∧ wr.frozen? ⟨g, q * 6 + 4, none⟩ = false ∧ wr.frozen? ⟨g, q * 6 + 5, none⟩ = false := ⟨fz _, fz _, fz _, fz _, fz _, fz _⟩
            have SO := OwnCels.set OD.out HLDds.out ⟨false, false, false, 0, false, 7⟩
            simp only [show ((7 : Nat) : Int) = 7 from rfl] at SO
            have ODn := Lib.hid SO.1
            have TBn := Lib.hid (blk_g TB.out SO.2 (by intro e; injection e with e; have := HSEP.out; omega))
            have RBn := Lib.hid (blk_g RB.out SO.2 (by intro e; injection e with e; have := HSEP.out; omega))
            have OEn := Lib.hid (OwnCels.away OE.out SO.2 (by have := HSEP.out; simp [Value.ownBlock]; omega))
            have KWn := Lib.hid (below_grown KW.out SO.2 (by have := HSEP.out; omega))
            clear SO fz ey OD TB RB OE KW
            go_upto_region 12 with (fail)
            clear c0 c1 c2 c3 c4 c5 p0 p1 p2 p3 p4 p5 q0 q1 q2 q3 q4 q5
            generalize (((((wr.setCell _ _).setCell _ _).setCell _ _).setCell _ _).setCell _ _).setCell _ _ = wt at *
            have OD := ODn
            clear ODn
            have TB := TBn
            clear TBn
            have RB := RBn
            clear RBn
            have OE := OEn
            clear OEn
            have KW := KWn
            clear KWn
            obtain ⟨c0, c1, c2, c3, c4, c5⟩ := cells6 RB.out
            obtain ⟨yf, yp, yn, ys, ym, yc, ey⟩ := c_eta (es.getD q noC)
            obtain ⟨⟨p0, p1, p2, p3, p4, p5⟩, fz⟩ := OwnCels.spot OE.out HLDes.out ey
            obtain ⟨q0, q1, q2, q3, q4, q5⟩ : wt.frozen? ⟨g', q * 6, none⟩ = false ∧ wt.frozen? ⟨g', q * 6 + 1, none⟩ = false ∧ wt.frozen? ⟨g', q * 6 + 2, none⟩ = false ∧ wt.frozen? ⟨g', q * 6 + 3, none⟩ = false ∧ wt.frozen? ⟨g', q * 6 + 4, none⟩ = false ∧ wt.frozen? ⟨g', q * 6 + 5, none⟩ = false := ⟨fz _, fz _, fz _, fz _, fz _, fz _⟩
            have SO := OwnCels.set OE.out HLDes.out ⟨false, false, false, 0, false, 7⟩
            simp only [show ((7 : Nat) : Int) = 7 from rfl] at SO
            have OEn := Lib.hid SO.1
            have TBn := Lib.hid (blk_g TB.out SO.2 (by intro e; injection e with e; have := HSEP.out; omega))
            have RBn := Lib.hid (blk_g RB.out SO.2 (by intro e; injection e with e; have := HSEP.out; omega))
            have ODn := Lib.hid (OwnCels.away OD.out SO.2 (by have := HSEP.out; simp [Value.ownBlock]; omega))
            have KWn := Lib.hid (below_grown KW.out SO.2 (by have := HSEP.out; omega))
            clear SO fz ey OE TB RB OD KW
            go_upto_region 10 with (fail)
            clear c0 c1 c2 c3 c4 c5 p0 p1 p2 p3 p4 p5 q0 q1 q2 q3 q4 q5
            generalize (((((wt.setCell _ _).setCell _ _).setCell _ _).setCell _ _).setCell _ _).setCell _ _ = wu at *
            go_wp2_with fail
            go_roundg (s.cs.length + 1 - (q + 1))
            case measure => omega
            case rel => exact ⟨q + 1, by omega, rfl, by first | rfl | go_num, KWn, TBn, RBn, _, _, by rw [List.length_set]; exact hds, by rw [List.length_set]; exact hes, ODn, OEn⟩
          · obtain rfl : q = s.cs.length := by omega
            have hn0 : ¬ (s.cs.length : Int) < (s.cs.length : Int) := by omega
            have HSM := Lib.hid (rsame_any s.rows s.cols s.cur s.lk s.ins ad s.cs.length k va1 s.cs.length vc1 s.cs s.cs wr (I6.out.below KW.out) (J6.out.below KW.out) (by have := HL.out; omega))
            rw [decide_eq_true rfl] at HSM
            obtain ⟨d0, d1, d2, d3, d4, d5⟩ := cells6 (blk X6.out KW.out)
            obtain ⟨e0, e1, e2, e3, e4, e5⟩ := cells6 (blk L6.out KW.out)
            have K9 := kept_hid K6 KW.out
            clear hlt
            go_wp2_with fail
            with_reducible refine HSM.out.mono ?_
            rintro e wb ⟨rfl, hb⟩
            have K10 := kept_hid K9 hb
            clear hb
            go_wp2_with fail
            go_ret
            exact ⟨rfl, K10.out⟩
      · have HCW := Lib.hid hcw
        clear hcw
        go_enter Tryd.func6, Tryd.ntmps6
        go_upto_region 1 with (fail)
        generalize (w.alloc _).alloc _ = w1 at *
        go_wp2_with fail
        with_reducible refine (HAW.out _ HB.out).mono ?_
        rintro e w2 ⟨rfl, hb⟩
        have K2 := Lib.hid hb
        have X2 := Lib.hid (blk HX.out hb)
        have Y2 := Lib.hid (blk HY.out hb)
        have K2' := kept_hid HB hb
        have I2 := Lib.hid (HI.out.below hb)
        clear hb
        obtain ⟨c0, c1, c2, c3, c4, c5⟩ := cells6 X2.out
        go_wp2_with fail
        with_reducible refine (HF.out _ K2.out).mono ?_
        rintro e w3 ⟨rfl, hb⟩
        have K3' := kept_hid K2' hb
        have X3' := Lib.hid (blk X2.out hb)
        have Y3' := Lib.hid (blk Y2.out hb)
        have I3' := Lib.hid (I2.out.below hb)
        clear hb c0 c1 c2 c3 c4 c5 K2 K2' X2 Y2 I2 HB HX HY HI HF
        obtain ⟨d0, d1, d2, d3, d4⟩ := cells5o Y3'.out
        go_wp2_with fail
        with_reducible refine (HFL.out _ K3'.out).mono ?_
        rintro e w4 ⟨rfl, hb⟩
        have K3 := kept_hid K3' hb
        have X3 := Lib.hid (blk X3'.out hb)
        have Y3 := Lib.hid (blk Y3'.out hb)
        have I3 := Lib.hid (I3'.out.below hb)
        clear hb d0 d1 d2 d3 d4 K3' X3' Y3' I3' HFL
        have HRC := Lib.hid (rcopy_any s ad k w4 I3.out (by have := HL.out; omega))
        obtain ⟨c0, c1, c2, c3, c4, c5⟩ := cells6 X3.out
        go_upto_region 3 with (fail)
        go_wp2_with fail
        with_reducible refine HRC.out.mono ?_
        rintro e w5 ⟨va1, vc1, rfl, ho1, hb⟩
        clear HRC c0 c1 c2 c3 c4 c5
        have HA := al_any w5 (.cells #[.int .i64 s.rows, .int .i64 s.cols, .slice va1 s.cs.length vc1, .int .i64 s.cur, .bool s.lk, .bool s.ins] 24)
        have L6 := Lib.hid (heap_alloc_new w5 (.cells #[.int .i64 s.rows, .int .i64 s.cols, .slice va1 s.cs.length vc1, .int .i64 s.cur, .bool s.lk, .bool s.ins] 24))
        have X6 := Lib.hid (blk X3.out (kept_trans hb HA))
        have Y6 := Lib.hid (blk Y3.out (kept_trans hb HA))
        have I6 := Lib.hid (I3.out.below (kept_trans hb HA))
        have K6 := kept_hid K3 (kept_trans hb HA)
        have J6 := Lib.hid ((OwnCels.below ho1 HA).to)
        clear HA ho1 hb X3 Y3 I3 K3
        go_upto_region 4 with (fail)
        generalize w5.heap.size = B1 at *
        generalize w5.alloc _ = w6 at *
        obtain ⟨c0, c1, c2, c3, c4, c5⟩ := cells6 X6.out
        obtain ⟨d0, d1, d2, d3, d4⟩ := cells5o Y6.out
        have HDO := Lib.hid (do_no s ad k ⟨cmd, fa, fu, fr, os⟩ al os.length cl w6 I6.out HR.out H8.out HLT.out (HO.out.below K6.out) HSD.out (by have := HOL.out; simp only; omega) HCW.out)
        simp only [RefusedS] at HDO
        go_wp2_with fail
        with_reducible refine HDO.out.mono ?_
        rintro e w7 ⟨va, vc, ev, rfl, hci, htd, hb⟩
        clear c0 c1 c2 c3 c4 c5 d0 d1 d2 d3 d4 HDO
        have HA := al_any w7 (.cells #[.int .i64 s.rows, .int .i64 s.cols, .slice va s.cs.length vc, .int .i64 s.cur, .bool s.lk, .bool s.ins] 24)
        have KW := Lib.hid (kept_trans hb HA)
        clear HA hb hci
        go_upto_region 5 with (fail)
        generalize w7.alloc _ = w8 at *
        have HSM := Lib.hid (rsame_any s.rows s.cols s.cur s.lk s.ins ad s.cs.length k va1 s.cs.length vc1 s.cs s.cs w8 (I6.out.below KW.out) (J6.out.below KW.out) (by have := HL.out; omega))
        rw [decide_eq_true rfl] at HSM
        obtain ⟨d0, d1, d2, d3, d4, d5⟩ := cells6 (blk X6.out KW.out)
        obtain ⟨e0, e1, e2, e3, e4, e5⟩ := cells6 (blk L6.out KW.out)
        have K9 := kept_hid K6 KW.out
        have HIN := HCW.out
        clear HCW
        rcases htd with ⟨_, h1, _⟩ | ⟨rfl, _⟩ | ⟨_, _, rfl, _⟩
        · exact absurd h1 (by omega)
        all_goals
          clear HIN
          go_wp2_with fail
          with_reducible refine HSM.out.mono ?_
          rintro e wb ⟨rfl, hb⟩
          have K10 := kept_hid K9 hb
          clear hb
          go_wp2_with fail
          go_ret
          exact ⟨rfl, K10.out⟩
end Hst
end Go.Proofs.YtkobodoejpioeaaDoor
