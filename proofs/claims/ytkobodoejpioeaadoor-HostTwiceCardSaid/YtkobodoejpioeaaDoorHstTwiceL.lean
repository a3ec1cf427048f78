/- The law HostTwice. Written by tools/gen_hst_laws.py. -/
import Derived.Test.YtkobodoejpioeaaDoorHstAwake
import Derived.Test.YtkobodoejpioeaaDoorBunHst
import Derived.Test.YtkobodoejpioeaaDoorBunStr
import Derived.Test.YtkobodoejpioeaaDoorBunHst
import Derived.Test.YtkobodoejpioeaaDoorBunGrd
import Derived.Test.YtkobodoejpioeaaDoorBunGrd
import Derived.Test.YtkobodoejpioeaaDoorOpnScr
import Derived.StillTailTactics
namespace Go.Proofs.YtkobodoejpioeaaDoor
open Go.RowKit Sha Six Apd Cut Err Att Grd Fld Pnt
set_option linter.unusedVariables false
namespace Hst
set_option maxRecDepth 100000 in
set_option maxHeartbeats 8000000 in
theorem twice_any (s : S) (ad : Option Addr) (k : Nat) (cmd : Int) (fa fu fr : Bool) (ov : Value) (os : List Go.Proofs.YtkobodoejpioeaaDoor.Ord.O) (cmdp : Int) (fap fup frp : Bool) (ovp : Value) (osp : List Go.Proofs.YtkobodoejpioeaaDoor.Ord.O) (w : World) (h : CelsIn w (.slice ad s.cs.length k) s.cs) (hwf : Opn.Wf s.cs) (hm : s.cs.length ≤ maxLen) (hO : Str.OrdsIn w 0 ov os) (hos : ∀ o ∈ os, (∀ x ∈ o.t, x < 256) ∧ o.c < 256) (hom : os.length ≤ maxLen) (hOp : Str.OrdsIn w 0 ovp osp) (hosp : ∀ o ∈ osp, (∀ x ∈ o.t, x < 256) ∧ o.c < 256) (homp : osp.length ≤ maxLen) (hg : Handle w) :
    Calls Tryd.prog 7 #[.agg #[.int .i64 s.rows, .int .i64 s.cols, .slice ad s.cs.length k, .int .i64 s.cur, .bool s.lk, .bool s.ins], .agg #[.int .i64 cmd, .bool fa, .bool fu, .bool fr, ov], .agg #[.int .i64 cmdp, .bool fap, .bool fup, .bool frp, ovp]] w fun e w' => e = .returned (.bool true) ∧ Below w.heap.size w w' := by
  have HAW := Lib.hid fun W (hb : Below w.heap.size w W) => awake_any W (hand_of hg hb)
  have HCO := Lib.hid fun W ev (c n : Int) (hb : Below w.heap.size w W) (ht : Err.Told W ev c n) => code_told ev c n W (hand_of hg hb) ht
  obtain ⟨al, cl, rfl, _, _⟩ := hO.form
  obtain ⟨alp, clp, rfl, _, _⟩ := hOp.form
  have HB := Lib.hid (kept_trans (kept_trans (al_any w (.cells #[.int .i64 s.rows, .int .i64 s.cols, .slice ad s.cs.length k, .int .i64 s.cur, .bool s.lk, .bool s.ins] 24)) (al_any _ (.cells #[.int .i64 cmd, .bool fa, .bool fu, .bool fr, .slice al os.length cl] 38))) (al_any _ (.cells #[.int .i64 cmdp, .bool fap, .bool fup, .bool frp, .slice alp osp.length clp] 38)))
  have X := Lib.hid (heap_alloc3 w (.cells #[.int .i64 s.rows, .int .i64 s.cols, .slice ad s.cs.length k, .int .i64 s.cur, .bool s.lk, .bool s.ins] 24) (.cells #[.int .i64 cmd, .bool fa, .bool fu, .bool fr, .slice al os.length cl] 38) (.cells #[.int .i64 cmdp, .bool fap, .bool fup, .bool frp, .slice alp osp.length clp] 38)).1
  have Y := Lib.hid (heap_alloc3 w (.cells #[.int .i64 s.rows, .int .i64 s.cols, .slice ad s.cs.length k, .int .i64 s.cur, .bool s.lk, .bool s.ins] 24) (.cells #[.int .i64 cmd, .bool fa, .bool fu, .bool fr, .slice al os.length cl] 38) (.cells #[.int .i64 cmdp, .bool fap, .bool fup, .bool frp, .slice alp osp.length clp] 38)).2.1
  have Z := Lib.hid (heap_alloc3 w (.cells #[.int .i64 s.rows, .int .i64 s.cols, .slice ad s.cs.length k, .int .i64 s.cur, .bool s.lk, .bool s.ins] 24) (.cells #[.int .i64 cmd, .bool fa, .bool fu, .bool fr, .slice al os.length cl] 38) (.cells #[.int .i64 cmdp, .bool fap, .bool fup, .bool frp, .slice alp osp.length clp] 38)).2.2
  have HI := Lib.hid h
  have H8 := Lib.hid (wf_sound hwf)
  have HO := Lib.hid hO
  have HOS := Lib.hid hos
  have HOp := Lib.hid hOp
  have HOSp := Lib.hid hosp
  have HF1 := Lib.hid fun W (hb : Below w.heap.size w W) => rfew_any s ad k W (h.below hb) (wf_sound hwf)
  have HF2 := Lib.hid fun W (hb : Below w.heap.size w W) => Str.few_any ⟨cmd, fa, fu, fr, os⟩ al os.length cl W (hO.below hb) hom
  have HF3 := Lib.hid fun W (hb : Below w.heap.size w W) => Str.few_any ⟨cmdp, fap, fup, frp, osp⟩ alp osp.length clp W (hOp.below hb) homp
  simp only at HF2 HF3
  clear h hwf hm hO hos hom hOp hosp homp hg
  cases hf0 : few s with
  | false =>
    rw [hf0] at HF1
    go_enter Tryd.func7, Tryd.ntmps7
    go_upto_region 1 with (fail)
    generalize ((w.alloc _).alloc _).alloc _ = w1 at *
    have K := Lib.hid HB.out
    go_wp2_with fail
    with_reducible refine (HAW.out _ K.out).mono ?_
    rintro e w2 ⟨rfl, hb⟩
    replace X := Lib.hid (blk X.out hb)
    replace Y := Lib.hid (blk Y.out hb)
    replace Z := Lib.hid (blk Z.out hb)
    replace K := kept_hid K hb
    clear hb
    obtain ⟨c0, c1, c2, c3, c4, c5⟩ := cells6 X.out
    go_wp2_with fail
    with_reducible refine (HF1.out _ K.out).mono ?_
    rintro e w3 ⟨rfl, hb⟩
    clear c0 c1 c2 c3 c4 c5
    replace X := Lib.hid (blk X.out hb)
    replace Y := Lib.hid (blk Y.out hb)
    replace Z := Lib.hid (blk Z.out hb)
    replace K := kept_hid K hb
    clear hb
    go_wp2_with fail
    with_reducible refine (HAW.out _ K.out).mono ?_
    rintro e w10 ⟨rfl, hb⟩
    have KE := kept_hid K hb
    clear hb
    go_wp2_with fail
    go_ret
    exact ⟨rfl, KE.out⟩
  | true =>
    rw [hf0] at HF1
    cases hf1 : Str.fewB os with
    | false =>
      rw [hf1] at HF2
      go_enter Tryd.func7, Tryd.ntmps7
      go_upto_region 1 with (fail)
      generalize ((w.alloc _).alloc _).alloc _ = w1 at *
      have K := Lib.hid HB.out
      go_wp2_with fail
      with_reducible refine (HAW.out _ K.out).mono ?_
      rintro e w2 ⟨rfl, hb⟩
      replace X := Lib.hid (blk X.out hb)
      replace Y := Lib.hid (blk Y.out hb)
      replace Z := Lib.hid (blk Z.out hb)
      replace K := kept_hid K hb
      clear hb
      obtain ⟨c0, c1, c2, c3, c4, c5⟩ := cells6 X.out
      go_wp2_with fail
      with_reducible refine (HF1.out _ K.out).mono ?_
      rintro e w3 ⟨rfl, hb⟩
      clear c0 c1 c2 c3 c4 c5
      replace X := Lib.hid (blk X.out hb)
      replace Y := Lib.hid (blk Y.out hb)
      replace Z := Lib.hid (blk Z.out hb)
      replace K := kept_hid K hb
      clear hb
      obtain ⟨c0, c1, c2, c3, c4⟩ := cells5o Y.out
      go_wp2_with fail
      with_reducible refine (HF2.out _ K.out).mono ?_
      rintro e w4 ⟨rfl, hb⟩
      clear c0 c1 c2 c3 c4
      replace X := Lib.hid (blk X.out hb)
      replace Y := Lib.hid (blk Y.out hb)
      replace Z := Lib.hid (blk Z.out hb)
      replace K := kept_hid K hb
      clear hb
      go_wp2_with fail
      with_reducible refine (HAW.out _ K.out).mono ?_
      rintro e w11 ⟨rfl, hb⟩
      have KE := kept_hid K hb
      clear hb
      go_wp2_with fail
      go_ret
      exact ⟨rfl, KE.out⟩
    | true =>
      rw [hf1] at HF2
      cases hf2 : Str.fewB osp with
      | false =>
        rw [hf2] at HF3
        go_enter Tryd.func7, Tryd.ntmps7
        go_upto_region 1 with (fail)
        generalize ((w.alloc _).alloc _).alloc _ = w1 at *
        have K := Lib.hid HB.out
        go_wp2_with fail
        with_reducible refine (HAW.out _ K.out).mono ?_
        rintro e w2 ⟨rfl, hb⟩
        replace X := Lib.hid (blk X.out hb)
        replace Y := Lib.hid (blk Y.out hb)
        replace Z := Lib.hid (blk Z.out hb)
        replace K := kept_hid K hb
        clear hb
        obtain ⟨c0, c1, c2, c3, c4, c5⟩ := cells6 X.out
        go_wp2_with fail
        with_reducible refine (HF1.out _ K.out).mono ?_
        rintro e w3 ⟨rfl, hb⟩
        clear c0 c1 c2 c3 c4 c5
        replace X := Lib.hid (blk X.out hb)
        replace Y := Lib.hid (blk Y.out hb)
        replace Z := Lib.hid (blk Z.out hb)
        replace K := kept_hid K hb
        clear hb
        obtain ⟨c0, c1, c2, c3, c4⟩ := cells5o Y.out
        go_wp2_with fail
        with_reducible refine (HF2.out _ K.out).mono ?_
        rintro e w4 ⟨rfl, hb⟩
        clear c0 c1 c2 c3 c4
        replace X := Lib.hid (blk X.out hb)
        replace Y := Lib.hid (blk Y.out hb)
        replace Z := Lib.hid (blk Z.out hb)
        replace K := kept_hid K hb
        clear hb
        obtain ⟨c0, c1, c2, c3, c4⟩ := cells5o Z.out
        go_wp2_with fail
        with_reducible refine (HF3.out _ K.out).mono ?_
        rintro e w5 ⟨rfl, hb⟩
        clear c0 c1 c2 c3 c4
        replace X := Lib.hid (blk X.out hb)
        replace Y := Lib.hid (blk Y.out hb)
        replace Z := Lib.hid (blk Z.out hb)
        replace K := kept_hid K hb
        clear hb
        go_wp2_with fail
        with_reducible refine (HAW.out _ K.out).mono ?_
        rintro e w12 ⟨rfl, hb⟩
        have KE := kept_hid K hb
        clear hb
        go_wp2_with fail
        go_ret
        exact ⟨rfl, KE.out⟩
      | true =>
        rw [hf2] at HF3
        obtain ⟨hol, hsd⟩ := few_sound hf1 HOS.out
        obtain ⟨holp, hsdp⟩ := few_sound hf2 HOSp.out
        have HOL := Lib.hid hol
        have HSD := Lib.hid hsd
        have HOLp := Lib.hid holp
        have HSDp := Lib.hid hsdp
        obtain ⟨q1, q2, q3⟩ := few_parts hf0
        have HL := Lib.hid q1
        have HP := Lib.hid q2
        have HR := Lib.hid q3
        have HLT := Lib.hid (show s.cs.length < 10000 from by have := HL.out; omega)
        clear hol hsd holp hsdp q1 q2 q3 hf0 hf1 hf2
        by_cases hco : (Str.cwrite ⟨245, fa, fu, fr, os⟩ s.cs.length).2.1 = 0
        · have HCO := Lib.hid hco
          clear hco
          have HT := Lib.hid (hdo_rest s ⟨245, fa, fu, fr, os⟩)
          have HTR := Lib.hid (hdo_right HR.out HCO.out)
          by_cases hcp : (Str.cwrite ⟨245, fap, fup, frp, osp⟩ s.cs.length).2.1 = 0
          · have HCP := Lib.hid hcp
            clear hcp
            have HEB := Lib.hid (show withL (hdo s ⟨245, fap, fup, frp, osp⟩) (hdo (hdo s ⟨245, fa, fu, fr, os⟩) ⟨245, fap, fup, frp, osp⟩).lk (hdo (hdo s ⟨245, fa, fu, fr, os⟩) ⟨245, fap, fup, frp, osp⟩).ins = hdo (hdo s ⟨245, fa, fu, fr, os⟩) ⟨245, fap, fup, frp, osp⟩ from by
              have := erase_behind (s := s) (t := hdo s ⟨245, fa, fu, fr, os⟩) HT.out.1 HT.out.2.1 HT.out.2.2 frp fup osp
              simpa [hdo] using this)
            have HUL := Lib.hid (show (hdo (hdo s ⟨245, fa, fu, fr, os⟩) ⟨245, fap, fup, frp, osp⟩).cs.length = s.cs.length from ((hdo_rest (hdo s ⟨245, fa, fu, fr, os⟩) ⟨245, fap, fup, frp, osp⟩).2.2).trans HT.out.2.2)
            have HCP2 := Lib.hid (show (Str.cwrite ⟨245, fap, fup, frp, osp⟩ (hdo s ⟨245, fa, fu, fr, os⟩).cs.length).2.1 = 0 from by rw [HT.out.2.2]; exact HCP.out)
            generalize hU : hdo (hdo s ⟨245, fa, fu, fr, os⟩) ⟨245, fap, fup, frp, osp⟩ = us at *
            generalize hV : hdo s ⟨245, fap, fup, frp, osp⟩ = vs at *
            generalize hT : hdo s ⟨245, fa, fu, fr, os⟩ = ts at *
            replace hU := Lib.hid hU
            replace hV := Lib.hid hV
            replace hT := Lib.hid hT
            go_enter Tryd.func7, Tryd.ntmps7
            go_upto_region 1 with (fail)
            generalize ((w.alloc _).alloc _).alloc _ = w1 at *
            have K := Lib.hid HB.out
            go_wp2_with fail
            with_reducible refine (HAW.out _ K.out).mono ?_
            rintro e w2 ⟨rfl, hb⟩
            replace X := Lib.hid (blk X.out hb)
            replace Y := Lib.hid (blk Y.out hb)
            replace Z := Lib.hid (blk Z.out hb)
            replace K := kept_hid K hb
            clear hb
            obtain ⟨c0, c1, c2, c3, c4, c5⟩ := cells6 X.out
            go_wp2_with fail
            with_reducible refine (HF1.out _ K.out).mono ?_
            rintro e w3 ⟨rfl, hb⟩
            clear c0 c1 c2 c3 c4 c5
            replace X := Lib.hid (blk X.out hb)
            replace Y := Lib.hid (blk Y.out hb)
            replace Z := Lib.hid (blk Z.out hb)
            replace K := kept_hid K hb
            clear hb
            obtain ⟨c0, c1, c2, c3, c4⟩ := cells5o Y.out
            go_wp2_with fail
            with_reducible refine (HF2.out _ K.out).mono ?_
            rintro e w4 ⟨rfl, hb⟩
            clear c0 c1 c2 c3 c4
            replace X := Lib.hid (blk X.out hb)
            replace Y := Lib.hid (blk Y.out hb)
            replace Z := Lib.hid (blk Z.out hb)
            replace K := kept_hid K hb
            clear hb
            obtain ⟨c0, c1, c2, c3, c4⟩ := cells5o Z.out
            go_wp2_with fail
            with_reducible refine (HF3.out _ K.out).mono ?_
            rintro e w5 ⟨rfl, hb⟩
            clear c0 c1 c2 c3 c4
            replace X := Lib.hid (blk X.out hb)
            replace Y := Lib.hid (blk Y.out hb)
            replace Z := Lib.hid (blk Z.out hb)
            replace K := kept_hid K hb
            clear hb
            have HYZ := Lib.hid (show w.heap.size + 2 < w5.heap.size from there_lt Z.out)
            obtain ⟨d0, d1, d2, d3, d4⟩ := cells5o Y.out
            have fz := frozen_of_row _ _ 0 _ _ Y.out
            have SO := gsetCell w5 (w.heap.size + 1) 0 (.int .i64 245)
            have Y6 := Lib.hid (heap_setCell_same w5 (w.heap.size + 1) 0 _ 38 (.int .i64 245) Y.out)
            have X6 := Lib.hid (blk_g X.out SO (by intro e; injection e with e; omega))
            have Z6 := Lib.hid (blk_g Z.out SO (by intro e; injection e with e; omega))
            have K6 := Lib.hid (below_grown K.out SO (by omega))
            clear SO
            obtain ⟨e0, e1, e2, e3, e4⟩ := cells5o Z6.out
            have fz2 := frozen_of_row _ _ 0 _ _ Z6.out
            have SO := gsetCell (w5.setCell ⟨w.heap.size + 1, 0, none⟩ (.int .i64 245)) (w.heap.size + 2) 0 (.int .i64 245)
            have Z7 := Lib.hid (heap_setCell_same (w5.setCell ⟨w.heap.size + 1, 0, none⟩ (.int .i64 245)) (w.heap.size + 2) 0 _ 38 (.int .i64 245) Z6.out)
            have X7 := Lib.hid (blk_g X6.out SO (by intro e; injection e with e; omega))
            have Y7 := Lib.hid (blk_g Y6.out SO (by intro e; injection e with e; omega))
            have K7 := Lib.hid (below_grown K6.out SO (by omega))
            clear SO X Y Z K X6 Y6 Z6 K6 HYZ
            go_upto_region 5 with (fail)
            clear d0 d1 d2 d3 d4 e0 e1 e2 e3 e4 fz fz2
            generalize (w5.setCell _ _).setCell _ _ = w7 at *
            have X := X7
            clear X7
            have Y := Y7
            clear Y7
            have Z := Z7
            clear Z7
            have K := K7
            clear K7
            have HHC := Lib.hid (show hdo s ⟨111, false, false, false, []⟩ = hclean s from by simp [hdo])
            have HHT := Lib.hid (hclean_twice s)
            have HHR := Lib.hid (hclean_right HR.out)
            have HHL := Lib.hid (hclean_length s)
            have HHD := Lib.hid (show hdo (hclean s) ⟨111, false, false, false, []⟩ = hclean (hclean s) from by simp [hdo])
            generalize hclean s = cn at *
            have HD := do_ok s ad k ⟨111, false, false, false, []⟩ none 0 0 w7 (HI.out.below K.out) HR.out H8.out HLT.out (Str.ordsIn_nil _ _) nofun (by decide) (clean_ok _)
            rw [HHC.out] at HD
            simp only [GaveS] at HD
            replace HD := Lib.hid HD
            obtain ⟨x00, x01, x02, x03, x04, x05⟩ := cells6 X.out
            go_wp2_with fail
            with_reducible refine HD.out.mono ?_
            rintro e w8 ⟨va1, vc1, rfl, ho, hb⟩
            clear HD x00 x01 x02 x03 x04 x05
            have HA := al_any w8 (.cells #[.int .i64 cn.rows, .int .i64 cn.cols, .slice va1 cn.cs.length vc1, .int .i64 cn.cur, .bool cn.lk, .bool cn.ins] 24)
            have B1 := Lib.hid (heap_alloc_new w8 (.cells #[.int .i64 cn.rows, .int .i64 cn.cols, .slice va1 cn.cs.length vc1, .int .i64 cn.cur, .bool cn.lk, .bool cn.ins] 24))
            have C1 := Lib.hid ((OwnCels.below ho HA).to)
            replace hb := kept_trans hb HA
            replace X := Lib.hid (blk X.out hb)
            replace Y := Lib.hid (blk Y.out hb)
            replace Z := Lib.hid (blk Z.out hb)
            replace K := kept_hid K hb
            clear HA ho hb
            go_upto_region 6 with (fail)
            generalize w8.heap.size = N1 at *
            generalize w8.alloc _ = w8' at *
            have HD := do_ok cn va1 vc1 ⟨111, false, false, false, []⟩ none 0 0 w8' C1.out HHR.out (right_sound HHR.out) (by rw [HHL.out]; exact HLT.out) (Str.ordsIn_nil _ _) nofun (by decide) (clean_ok _)
            rw [HHD.out, HHT.out] at HD
            simp only [GaveS] at HD
            replace HD := Lib.hid HD
            obtain ⟨x00, x01, x02, x03, x04, x05⟩ := cells6 B1.out
            go_wp2_with fail
            with_reducible refine HD.out.mono ?_
            rintro e w9 ⟨va2, vc2, rfl, ho, hb⟩
            clear HD x00 x01 x02 x03 x04 x05
            have HA := al_any w9 (.cells #[.int .i64 cn.rows, .int .i64 cn.cols, .slice va2 cn.cs.length vc2, .int .i64 cn.cur, .bool cn.lk, .bool cn.ins] 24)
            have B2 := Lib.hid (heap_alloc_new w9 (.cells #[.int .i64 cn.rows, .int .i64 cn.cols, .slice va2 cn.cs.length vc2, .int .i64 cn.cur, .bool cn.lk, .bool cn.ins] 24))
            have C2 := Lib.hid ((OwnCels.below ho HA).to)
            replace hb := kept_trans hb HA
            replace X := Lib.hid (blk X.out hb)
            replace Y := Lib.hid (blk Y.out hb)
            replace Z := Lib.hid (blk Z.out hb)
            replace B1 := Lib.hid (blk B1.out hb)
            replace C1 := Lib.hid (C1.out.below hb)
            replace K := kept_hid K hb
            clear HA ho hb
            go_upto_region 7 with (fail)
            generalize w9.heap.size = N2 at *
            generalize w9.alloc _ = w9' at *
            have HSM := Lib.hid (rsame_any cn.rows cn.cols cn.cur cn.lk cn.ins va1 cn.cs.length vc1 va2 cn.cs.length vc2 cn.cs cn.cs w9' C1.out C2.out (by rw [HHL.out]; have := HL.out; omega))
            rw [decide_eq_true rfl] at HSM
            obtain ⟨c0, c1, c2, c3, c4, c5⟩ := cells6 B1.out
            obtain ⟨e0, e1, e2, e3, e4, e5⟩ := cells6 B2.out
            go_wp2_with fail
            with_reducible refine HSM.out.mono ?_
            rintro e wa ⟨rfl, hb⟩
            clear c0 c1 c2 c3 c4 c5 e0 e1 e2 e3 e4 e5 HSM HHC HHT HHR HHL HHD B1 B2 C1 C2
            replace X := Lib.hid (blk X.out hb)
            replace Y := Lib.hid (blk Y.out hb)
            replace Z := Lib.hid (blk Z.out hb)
            replace K := kept_hid K hb
            clear hb
            go_upto_region 9 with (fail)
            have HD := do_ok s ad k ⟨245, fa, fu, fr, os⟩ al os.length cl wa (HI.out.below K.out) HR.out H8.out HLT.out (HO.out.below K.out) HSD.out (by have := HOL.out; simp only; omega) HCO.out
            rw [hT.out] at HD
            simp only [GaveS] at HD
            replace HD := Lib.hid HD
            obtain ⟨x00, x01, x02, x03, x04, x05⟩ := cells6 X.out
            obtain ⟨x10, x11, x12, x13, x14⟩ := cells5o Y.out
            go_wp2_with fail
            with_reducible refine HD.out.mono ?_
            rintro e wb ⟨va3, vc3, rfl, ho, hb⟩
            clear HD x00 x01 x02 x03 x04 x05 x10 x11 x12 x13 x14
            have HA := al_any wb (.cells #[.int .i64 ts.rows, .int .i64 ts.cols, .slice va3 ts.cs.length vc3, .int .i64 ts.cur, .bool ts.lk, .bool ts.ins] 24)
            have B3 := Lib.hid (heap_alloc_new wb (.cells #[.int .i64 ts.rows, .int .i64 ts.cols, .slice va3 ts.cs.length vc3, .int .i64 ts.cur, .bool ts.lk, .bool ts.ins] 24))
            have C3 := Lib.hid ((OwnCels.below ho HA).to)
            replace hb := kept_trans hb HA
            replace X := Lib.hid (blk X.out hb)
            replace Y := Lib.hid (blk Y.out hb)
            replace Z := Lib.hid (blk Z.out hb)
            replace K := kept_hid K hb
            clear HA ho hb
            go_upto_region 10 with (fail)
            generalize wb.heap.size = N3 at *
            generalize wb.alloc _ = wb' at *
            have HD := do_ok ts va3 vc3 ⟨245, fap, fup, frp, osp⟩ alp osp.length clp wb' C3.out HTR.out (right_sound HTR.out) (by rw [HT.out.2.2]; exact HLT.out) (HOp.out.below K.out) HSDp.out (by have := HOLp.out; simp only; omega) HCP2.out
            rw [hU.out] at HD
            simp only [GaveS] at HD
            replace HD := Lib.hid HD
            obtain ⟨x00, x01, x02, x03, x04, x05⟩ := cells6 B3.out
            obtain ⟨x10, x11, x12, x13, x14⟩ := cells5o Z.out
            go_wp2_with fail
            with_reducible refine HD.out.mono ?_
            rintro e wc ⟨va4, vc4, rfl, ho, hb⟩
            clear HD x00 x01 x02 x03 x04 x05 x10 x11 x12 x13 x14
            have HA := al_any wc (.cells #[.int .i64 us.rows, .int .i64 us.cols, .slice va4 us.cs.length vc4, .int .i64 us.cur, .bool us.lk, .bool us.ins] 24)
            have B4 := Lib.hid (heap_alloc_new wc (.cells #[.int .i64 us.rows, .int .i64 us.cols, .slice va4 us.cs.length vc4, .int .i64 us.cur, .bool us.lk, .bool us.ins] 24))
            have C4 := Lib.hid ((OwnCels.below ho HA).to)
            replace hb := kept_trans hb HA
            replace X := Lib.hid (blk X.out hb)
            replace Y := Lib.hid (blk Y.out hb)
            replace Z := Lib.hid (blk Z.out hb)
            replace B3 := Lib.hid (blk B3.out hb)
            replace C3 := Lib.hid (C3.out.below hb)
            replace K := kept_hid K hb
            clear HA ho hb
            go_upto_region 11 with (fail)
            generalize wc.heap.size = N4 at *
            generalize wc.alloc _ = wc' at *
            have HD := do_ok s ad k ⟨245, fap, fup, frp, osp⟩ alp osp.length clp wc' (HI.out.below K.out) HR.out H8.out HLT.out (HOp.out.below K.out) HSDp.out (by have := HOLp.out; simp only; omega) HCP.out
            rw [hV.out] at HD
            simp only [GaveS] at HD
            replace HD := Lib.hid HD
            obtain ⟨x00, x01, x02, x03, x04, x05⟩ := cells6 X.out
            obtain ⟨x10, x11, x12, x13, x14⟩ := cells5o Z.out
            go_wp2_with fail
            with_reducible refine HD.out.mono ?_
            rintro e wd ⟨va5, vc5, rfl, ho, hb⟩
            clear HD x00 x01 x02 x03 x04 x05 x10 x11 x12 x13 x14
            have HNE := Lib.hid (show N4 < wd.heap.size from there_lt (blk B4.out hb))
            have HW5 := Lib.hid (show w.heap.size ≤ wd.heap.size from Nat.le_trans K.out.size hb.size)
            have HA := al_any wd (.cells #[.int .i64 vs.rows, .int .i64 vs.cols, .slice va5 vs.cs.length vc5, .int .i64 vs.cur, .bool vs.lk, .bool vs.ins] 24)
            have B5 := Lib.hid (heap_alloc_new wd (.cells #[.int .i64 vs.rows, .int .i64 vs.cols, .slice va5 vs.cs.length vc5, .int .i64 vs.cur, .bool vs.lk, .bool vs.ins] 24))
            have C5 := Lib.hid ((OwnCels.below ho HA).to)
            replace hb := kept_trans hb HA
            replace X := Lib.hid (blk X.out hb)
            replace Y := Lib.hid (blk Y.out hb)
            replace Z := Lib.hid (blk Z.out hb)
            replace B3 := Lib.hid (blk B3.out hb)
            replace B4 := Lib.hid (blk B4.out hb)
            replace C3 := Lib.hid (C3.out.below hb)
            replace C4 := Lib.hid (C4.out.below hb)
            replace K := kept_hid K hb
            clear HA ho hb
            go_upto_region 12 with (fail)
            generalize wd.heap.size = N5 at *
            generalize wd.alloc _ = wd' at *
            have HN45 := Lib.hid (show N4 < N5 from HNE.out)
            have HVL := Lib.hid (show vs.cs.length = s.cs.length from by rw [← hV.out]; exact (hdo_rest s ⟨245, fap, fup, frp, osp⟩).2.2)
            obtain ⟨lu, iu, hus⟩ : ∃ l i, us = withL vs l i := ⟨us.lk, us.ins, HEB.out.symm⟩
            clear HEB hU
            subst hus
            simp only [withL] at B4 C4
            clear hV hT X Y Z B3 C3
            obtain ⟨c0, c1, c2, c3, c4, c5⟩ := cells6 B4.out
            obtain ⟨e0, e1, e2, e3, e4, e5⟩ := cells6 B5.out
            obtain ⟨f0, f1, f2, f3, f4, f5⟩ := free6 B5.out
            have SO := gsetCell wd' N5 4 (.bool lu)
            have B6 := Lib.hid (heap_setCell_same wd' N5 4 _ 24 (.bool lu) B5.out)
            have A6 := Lib.hid (blk_g B4.out SO (by intro e; injection e with e; have := HN45.out; omega))
            have C6' := Lib.hid (celsIn_away C4.out SO (fun y hy => (not_screen C4.out (by rw [HVL.out]; exact HP.out) B5.out y hy).1))
            have D6 := Lib.hid (celsIn_away C5.out SO (fun y hy => (not_screen C5.out (by rw [HVL.out]; exact HP.out) B5.out y hy).1))
            have hNw := Lib.hid (show w.heap.size ≤ N5 from HW5.out)
            have K6 := Lib.hid (below_grown K.out SO hNw.out)
            clear SO
            obtain ⟨c0', c1', c2', c3', c4', c5'⟩ := cells6 A6.out
            obtain ⟨e0', e1', e2', e3', e4', e5'⟩ := cells6 B6.out
            obtain ⟨f0', f1', f2', f3', f4', f5'⟩ := free6 B6.out
            have SO := gsetCell (wd'.setCell ⟨N5, 4, none⟩ (.bool lu)) N5 5 (.bool iu)
            have B7 := Lib.hid (heap_setCell_same (wd'.setCell ⟨N5, 4, none⟩ (.bool lu)) N5 5 _ 24 (.bool iu) B6.out)
            have A7 := Lib.hid (blk_g A6.out SO (by intro e; injection e with e; have := HN45.out; omega))
            have C7 := Lib.hid (celsIn_away C6'.out SO (fun y hy => (not_screen C6'.out (by rw [HVL.out]; exact HP.out) B6.out y hy).1))
            have D7 := Lib.hid (celsIn_away D6.out SO (fun y hy => (not_screen D6.out (by rw [HVL.out]; exact HP.out) B6.out y hy).1))
            have K7 := Lib.hid (below_grown K6.out SO hNw.out)
            clear SO B4 B5 C4 C5 K B6 A6 C6' D6 K6
            go_upto_region 16 with (fail)
            clear c0 c1 c2 c3 c4 c5 e0 e1 e2 e3 e4 e5 f0 f1 f2 f3 f4 f5 c0' c1' c2' c3' c4' c5' e0' e1' e2' e3' e4' e5' f0' f1' f2' f3' f4' f5'
            generalize (wd'.setCell _ _).setCell _ _ = we at *
            have HSM := Lib.hid (rsame_any vs.rows vs.cols vs.cur lu iu va4 vs.cs.length vc4 va5 vs.cs.length vc5 vs.cs vs.cs we C7.out D7.out (by rw [HVL.out]; have := HL.out; omega))
            rw [decide_eq_true rfl] at HSM
            obtain ⟨c0, c1, c2, c3, c4, c5⟩ := cells6 A7.out
            obtain ⟨e0, e1, e2, e3, e4, e5⟩ := cells6 B7.out
            go_wp2_with fail
            with_reducible refine HSM.out.mono ?_
            rintro e wf ⟨rfl, hb⟩
            replace K7 := kept_hid K7 hb
            clear hb
            go_wp2_with fail
            go_ret
            exact ⟨rfl, K7.out⟩
          · have HCP := Lib.hid hcp
            clear hcp
            have HCP2 := Lib.hid (show (Str.cwrite ⟨245, fap, fup, frp, osp⟩ (hdo s ⟨245, fa, fu, fr, os⟩).cs.length).2.1 ≠ 0 from by rw [HT.out.2.2]; exact HCP.out)
            generalize hT : hdo s ⟨245, fa, fu, fr, os⟩ = ts at *
            replace hT := Lib.hid hT
            go_enter Tryd.func7, Tryd.ntmps7
            go_upto_region 1 with (fail)
            generalize ((w.alloc _).alloc _).alloc _ = w1 at *
            have K := Lib.hid HB.out
            go_wp2_with fail
            with_reducible refine (HAW.out _ K.out).mono ?_
            rintro e w2 ⟨rfl, hb⟩
            replace X := Lib.hid (blk X.out hb)
            replace Y := Lib.hid (blk Y.out hb)
            replace Z := Lib.hid (blk Z.out hb)
            replace K := kept_hid K hb
            clear hb
            obtain ⟨c0, c1, c2, c3, c4, c5⟩ := cells6 X.out
            go_wp2_with fail
            with_reducible refine (HF1.out _ K.out).mono ?_
            rintro e w3 ⟨rfl, hb⟩
            clear c0 c1 c2 c3 c4 c5
            replace X := Lib.hid (blk X.out hb)
            replace Y := Lib.hid (blk Y.out hb)
            replace Z := Lib.hid (blk Z.out hb)
            replace K := kept_hid K hb
            clear hb
            obtain ⟨c0, c1, c2, c3, c4⟩ := cells5o Y.out
            go_wp2_with fail
            with_reducible refine (HF2.out _ K.out).mono ?_
            rintro e w4 ⟨rfl, hb⟩
            clear c0 c1 c2 c3 c4
            replace X := Lib.hid (blk X.out hb)
            replace Y := Lib.hid (blk Y.out hb)
            replace Z := Lib.hid (blk Z.out hb)
            replace K := kept_hid K hb
            clear hb
            obtain ⟨c0, c1, c2, c3, c4⟩ := cells5o Z.out
            go_wp2_with fail
            with_reducible refine (HF3.out _ K.out).mono ?_
            rintro e w5 ⟨rfl, hb⟩
            clear c0 c1 c2 c3 c4
            replace X := Lib.hid (blk X.out hb)
            replace Y := Lib.hid (blk Y.out hb)
            replace Z := Lib.hid (blk Z.out hb)
            replace K := kept_hid K hb
            clear hb
            have HYZ := Lib.hid (show w.heap.size + 2 < w5.heap.size from there_lt Z.out)
            obtain ⟨d0, d1, d2, d3, d4⟩ := cells5o Y.out
            have fz := frozen_of_row _ _ 0 _ _ Y.out
            have SO := gsetCell w5 (w.heap.size + 1) 0 (.int .i64 245)
            have Y6 := Lib.hid (heap_setCell_same w5 (w.heap.size + 1) 0 _ 38 (.int .i64 245) Y.out)
            have X6 := Lib.hid (blk_g X.out SO (by intro e; injection e with e; omega))
            have Z6 := Lib.hid (blk_g Z.out SO (by intro e; injection e with e; omega))
            have K6 := Lib.hid (below_grown K.out SO (by omega))
            clear SO
            obtain ⟨e0, e1, e2, e3, e4⟩ := cells5o Z6.out
            have fz2 := frozen_of_row _ _ 0 _ _ Z6.out
            have SO := gsetCell (w5.setCell ⟨w.heap.size + 1, 0, none⟩ (.int .i64 245)) (w.heap.size + 2) 0 (.int .i64 245)
            have Z7 := Lib.hid (heap_setCell_same (w5.setCell ⟨w.heap.size + 1, 0, none⟩ (.int .i64 245)) (w.heap.size + 2) 0 _ 38 (.int .i64 245) Z6.out)
            have X7 := Lib.hid (blk_g X6.out SO (by intro e; injection e with e; omega))
            have Y7 := Lib.hid (blk_g Y6.out SO (by intro e; injection e with e; omega))
            have K7 := Lib.hid (below_grown K6.out SO (by omega))
            clear SO X Y Z K X6 Y6 Z6 K6 HYZ
            go_upto_region 5 with (fail)
            clear d0 d1 d2 d3 d4 e0 e1 e2 e3 e4 fz fz2
            generalize (w5.setCell _ _).setCell _ _ = w7 at *
            have X := X7
            clear X7
            have Y := Y7
            clear Y7
            have Z := Z7
            clear Z7
            have K := K7
            clear K7
            have HHC := Lib.hid (show hdo s ⟨111, false, false, false, []⟩ = hclean s from by simp [hdo])
            have HHT := Lib.hid (hclean_twice s)
            have HHR := Lib.hid (hclean_right HR.out)
            have HHL := Lib.hid (hclean_length s)
            have HHD := Lib.hid (show hdo (hclean s) ⟨111, false, false, false, []⟩ = hclean (hclean s) from by simp [hdo])
            generalize hclean s = cn at *
            have HD := do_ok s ad k ⟨111, false, false, false, []⟩ none 0 0 w7 (HI.out.below K.out) HR.out H8.out HLT.out (Str.ordsIn_nil _ _) nofun (by decide) (clean_ok _)
            rw [HHC.out] at HD
            simp only [GaveS] at HD
            replace HD := Lib.hid HD
            obtain ⟨x00, x01, x02, x03, x04, x05⟩ := cells6 X.out
            go_wp2_with fail
            with_reducible refine HD.out.mono ?_
            rintro e w8 ⟨va1, vc1, rfl, ho, hb⟩
            clear HD x00 x01 x02 x03 x04 x05
            have HA := al_any w8 (.cells #[.int .i64 cn.rows, .int .i64 cn.cols, .slice va1 cn.cs.length vc1, .int .i64 cn.cur, .bool cn.lk, .bool cn.ins] 24)
            have B1 := Lib.hid (heap_alloc_new w8 (.cells #[.int .i64 cn.rows, .int .i64 cn.cols, .slice va1 cn.cs.length vc1, .int .i64 cn.cur, .bool cn.lk, .bool cn.ins] 24))
            have C1 := Lib.hid ((OwnCels.below ho HA).to)
            replace hb := kept_trans hb HA
            replace X := Lib.hid (blk X.out hb)
            replace Y := Lib.hid (blk Y.out hb)
            replace Z := Lib.hid (blk Z.out hb)
            replace K := kept_hid K hb
            clear HA ho hb
            go_upto_region 6 with (fail)
            generalize w8.heap.size = N1 at *
            generalize w8.alloc _ = w8' at *
            have HD := do_ok cn va1 vc1 ⟨111, false, false, false, []⟩ none 0 0 w8' C1.out HHR.out (right_sound HHR.out) (by rw [HHL.out]; exact HLT.out) (Str.ordsIn_nil _ _) nofun (by decide) (clean_ok _)
            rw [HHD.out, HHT.out] at HD
            simp only [GaveS] at HD
            replace HD := Lib.hid HD
            obtain ⟨x00, x01, x02, x03, x04, x05⟩ := cells6 B1.out
            go_wp2_with fail
            with_reducible refine HD.out.mono ?_
            rintro e w9 ⟨va2, vc2, rfl, ho, hb⟩
            clear HD x00 x01 x02 x03 x04 x05
            have HA := al_any w9 (.cells #[.int .i64 cn.rows, .int .i64 cn.cols, .slice va2 cn.cs.length vc2, .int .i64 cn.cur, .bool cn.lk, .bool cn.ins] 24)
            have B2 := Lib.hid (heap_alloc_new w9 (.cells #[.int .i64 cn.rows, .int .i64 cn.cols, .slice va2 cn.cs.length vc2, .int .i64 cn.cur, .bool cn.lk, .bool cn.ins] 24))
            have C2 := Lib.hid ((OwnCels.below ho HA).to)
            replace hb := kept_trans hb HA
            replace X := Lib.hid (blk X.out hb)
            replace Y := Lib.hid (blk Y.out hb)
            replace Z := Lib.hid (blk Z.out hb)
            replace B1 := Lib.hid (blk B1.out hb)
            replace C1 := Lib.hid (C1.out.below hb)
            replace K := kept_hid K hb
            clear HA ho hb
            go_upto_region 7 with (fail)
            generalize w9.heap.size = N2 at *
            generalize w9.alloc _ = w9' at *
            have HSM := Lib.hid (rsame_any cn.rows cn.cols cn.cur cn.lk cn.ins va1 cn.cs.length vc1 va2 cn.cs.length vc2 cn.cs cn.cs w9' C1.out C2.out (by rw [HHL.out]; have := HL.out; omega))
            rw [decide_eq_true rfl] at HSM
            obtain ⟨c0, c1, c2, c3, c4, c5⟩ := cells6 B1.out
            obtain ⟨e0, e1, e2, e3, e4, e5⟩ := cells6 B2.out
            go_wp2_with fail
            with_reducible refine HSM.out.mono ?_
            rintro e wa ⟨rfl, hb⟩
            clear c0 c1 c2 c3 c4 c5 e0 e1 e2 e3 e4 e5 HSM HHC HHT HHR HHL HHD B1 B2 C1 C2
            replace X := Lib.hid (blk X.out hb)
            replace Y := Lib.hid (blk Y.out hb)
            replace Z := Lib.hid (blk Z.out hb)
            replace K := kept_hid K hb
            clear hb
            go_upto_region 9 with (fail)
            have HD := do_ok s ad k ⟨245, fa, fu, fr, os⟩ al os.length cl wa (HI.out.below K.out) HR.out H8.out HLT.out (HO.out.below K.out) HSD.out (by have := HOL.out; simp only; omega) HCO.out
            rw [hT.out] at HD
            simp only [GaveS] at HD
            replace HD := Lib.hid HD
            obtain ⟨x00, x01, x02, x03, x04, x05⟩ := cells6 X.out
            obtain ⟨x10, x11, x12, x13, x14⟩ := cells5o Y.out
            go_wp2_with fail
            with_reducible refine HD.out.mono ?_
            rintro e wb ⟨va3, vc3, rfl, ho, hb⟩
            clear HD x00 x01 x02 x03 x04 x05 x10 x11 x12 x13 x14
            have HA := al_any wb (.cells #[.int .i64 ts.rows, .int .i64 ts.cols, .slice va3 ts.cs.length vc3, .int .i64 ts.cur, .bool ts.lk, .bool ts.ins] 24)
            have B3 := Lib.hid (heap_alloc_new wb (.cells #[.int .i64 ts.rows, .int .i64 ts.cols, .slice va3 ts.cs.length vc3, .int .i64 ts.cur, .bool ts.lk, .bool ts.ins] 24))
            have C3 := Lib.hid ((OwnCels.below ho HA).to)
            replace hb := kept_trans hb HA
            replace X := Lib.hid (blk X.out hb)
            replace Y := Lib.hid (blk Y.out hb)
            replace Z := Lib.hid (blk Z.out hb)
            replace K := kept_hid K hb
            clear HA ho hb
            go_upto_region 10 with (fail)
            generalize wb.heap.size = N3 at *
            generalize wb.alloc _ = wb' at *
            have HD := do_no ts va3 vc3 ⟨245, fap, fup, frp, osp⟩ alp osp.length clp wb' C3.out HTR.out (right_sound HTR.out) (by rw [HT.out.2.2]; exact HLT.out) (HOp.out.below K.out) HSDp.out (by have := HOLp.out; simp only; omega) HCP2.out
            simp only [RefusedS] at HD
            replace HD := Lib.hid HD
            obtain ⟨x00, x01, x02, x03, x04, x05⟩ := cells6 B3.out
            obtain ⟨x10, x11, x12, x13, x14⟩ := cells5o Z.out
            go_wp2_with fail
            with_reducible refine HD.out.mono ?_
            rintro e wc ⟨va4, vc4, ev4, rfl, ho, htd4, hb⟩
            clear HD x00 x01 x02 x03 x04 x05 x10 x11 x12 x13 x14
            have HA := al_any wc (.cells #[.int .i64 ts.rows, .int .i64 ts.cols, .slice va4 ts.cs.length vc4, .int .i64 ts.cur, .bool ts.lk, .bool ts.ins] 24)
            have B4 := Lib.hid (heap_alloc_new wc (.cells #[.int .i64 ts.rows, .int .i64 ts.cols, .slice va4 ts.cs.length vc4, .int .i64 ts.cur, .bool ts.lk, .bool ts.ins] 24))
            have C4 := Lib.hid (ho.below HA)
            replace hb := kept_trans hb HA
            replace X := Lib.hid (blk X.out hb)
            replace Y := Lib.hid (blk Y.out hb)
            replace Z := Lib.hid (blk Z.out hb)
            replace B3 := Lib.hid (blk B3.out hb)
            replace C3 := Lib.hid (C3.out.below hb)
            replace K := kept_hid K hb
            clear HA ho hb
            go_upto_region 11 with (fail)
            generalize wc.heap.size = N4 at *
            generalize wc.alloc _ = wc' at *
            have HD := do_no s ad k ⟨245, fap, fup, frp, osp⟩ alp osp.length clp wc' (HI.out.below K.out) HR.out H8.out HLT.out (HOp.out.below K.out) HSDp.out (by have := HOLp.out; simp only; omega) HCP.out
            simp only [RefusedS] at HD
            replace HD := Lib.hid HD
            obtain ⟨x00, x01, x02, x03, x04, x05⟩ := cells6 X.out
            obtain ⟨x10, x11, x12, x13, x14⟩ := cells5o Z.out
            go_wp2_with fail
            with_reducible refine HD.out.mono ?_
            rintro e wd ⟨va5, vc5, ev5, rfl, ho, htd5, hb⟩
            clear HD x00 x01 x02 x03 x04 x05 x10 x11 x12 x13 x14
            have HA := al_any wd (.cells #[.int .i64 s.rows, .int .i64 s.cols, .slice va5 s.cs.length vc5, .int .i64 s.cur, .bool s.lk, .bool s.ins] 24)
            have B5 := Lib.hid (heap_alloc_new wd (.cells #[.int .i64 s.rows, .int .i64 s.cols, .slice va5 s.cs.length vc5, .int .i64 s.cur, .bool s.lk, .bool s.ins] 24))
            have C5 := Lib.hid (ho.below HA)
            replace hb := kept_trans hb HA
            replace X := Lib.hid (blk X.out hb)
            replace Y := Lib.hid (blk Y.out hb)
            replace Z := Lib.hid (blk Z.out hb)
            replace B3 := Lib.hid (blk B3.out hb)
            replace B4 := Lib.hid (blk B4.out hb)
            replace C3 := Lib.hid (C3.out.below hb)
            replace C4 := Lib.hid (C4.out.below hb)
            replace K := kept_hid K hb
            clear HA ho hb
            go_upto_region 12 with (fail)
            generalize wd.heap.size = N5 at *
            generalize wd.alloc _ = wd' at *
            have HIN := HCP2.out
            rcases htd4 with ⟨_, h1, _⟩ | ⟨rfl, _⟩ | ⟨_, _, rfl, _⟩
            · exact absurd h1 (by omega)
            all_goals
              clear HIN htd5
              go_wp2_with fail
              go_ret
              exact ⟨rfl, K.out⟩
        · have HCO := Lib.hid hco
          clear hco
          by_cases hcp : (Str.cwrite ⟨245, fap, fup, frp, osp⟩ s.cs.length).2.1 = 0
          · have HCP := Lib.hid hcp
            clear hcp
            go_enter Tryd.func7, Tryd.ntmps7
            go_upto_region 1 with (fail)
            generalize ((w.alloc _).alloc _).alloc _ = w1 at *
            have K := Lib.hid HB.out
            go_wp2_with fail
            with_reducible refine (HAW.out _ K.out).mono ?_
            rintro e w2 ⟨rfl, hb⟩
            replace X := Lib.hid (blk X.out hb)
            replace Y := Lib.hid (blk Y.out hb)
            replace Z := Lib.hid (blk Z.out hb)
            replace K := kept_hid K hb
            clear hb
            obtain ⟨c0, c1, c2, c3, c4, c5⟩ := cells6 X.out
            go_wp2_with fail
            with_reducible refine (HF1.out _ K.out).mono ?_
            rintro e w3 ⟨rfl, hb⟩
            clear c0 c1 c2 c3 c4 c5
            replace X := Lib.hid (blk X.out hb)
            replace Y := Lib.hid (blk Y.out hb)
            replace Z := Lib.hid (blk Z.out hb)
            replace K := kept_hid K hb
            clear hb
            obtain ⟨c0, c1, c2, c3, c4⟩ := cells5o Y.out
            go_wp2_with fail
            with_reducible refine (HF2.out _ K.out).mono ?_
            rintro e w4 ⟨rfl, hb⟩
            clear c0 c1 c2 c3 c4
            replace X := Lib.hid (blk X.out hb)
            replace Y := Lib.hid (blk Y.out hb)
            replace Z := Lib.hid (blk Z.out hb)
            replace K := kept_hid K hb
            clear hb
            obtain ⟨c0, c1, c2, c3, c4⟩ := cells5o Z.out
            go_wp2_with fail
            with_reducible refine (HF3.out _ K.out).mono ?_
            rintro e w5 ⟨rfl, hb⟩
            clear c0 c1 c2 c3 c4
            replace X := Lib.hid (blk X.out hb)
            replace Y := Lib.hid (blk Y.out hb)
            replace Z := Lib.hid (blk Z.out hb)
            replace K := kept_hid K hb
            clear hb
            have HYZ := Lib.hid (show w.heap.size + 2 < w5.heap.size from there_lt Z.out)
            obtain ⟨d0, d1, d2, d3, d4⟩ := cells5o Y.out
            have fz := frozen_of_row _ _ 0 _ _ Y.out
            have SO := gsetCell w5 (w.heap.size + 1) 0 (.int .i64 245)
            have Y6 := Lib.hid (heap_setCell_same w5 (w.heap.size + 1) 0 _ 38 (.int .i64 245) Y.out)
            have X6 := Lib.hid (blk_g X.out SO (by intro e; injection e with e; omega))
            have Z6 := Lib.hid (blk_g Z.out SO (by intro e; injection e with e; omega))
            have K6 := Lib.hid (below_grown K.out SO (by omega))
            clear SO
            obtain ⟨e0, e1, e2, e3, e4⟩ := cells5o Z6.out
            have fz2 := frozen_of_row _ _ 0 _ _ Z6.out
            have SO := gsetCell (w5.setCell ⟨w.heap.size + 1, 0, none⟩ (.int .i64 245)) (w.heap.size + 2) 0 (.int .i64 245)
            have Z7 := Lib.hid (heap_setCell_same (w5.setCell ⟨w.heap.size + 1, 0, none⟩ (.int .i64 245)) (w.heap.size + 2) 0 _ 38 (.int .i64 245) Z6.out)
            have X7 := Lib.hid (blk_g X6.out SO (by intro e; injection e with e; omega))
            have Y7 := Lib.hid (blk_g Y6.out SO (by intro e; injection e with e; omega))
            have K7 := Lib.hid (below_grown K6.out SO (by omega))
            clear SO X Y Z K X6 Y6 Z6 K6 HYZ
            go_upto_region 5 with (fail)
            clear d0 d1 d2 d3 d4 e0 e1 e2 e3 e4 fz fz2
            generalize (w5.setCell _ _).setCell _ _ = w7 at *
            have X := X7
            clear X7
            have Y := Y7
            clear Y7
            have Z := Z7
            clear Z7
            have K := K7
            clear K7
            have HHC := Lib.hid (show hdo s ⟨111, false, false, false, []⟩ = hclean s from by simp [hdo])
            have HHT := Lib.hid (hclean_twice s)
            have HHR := Lib.hid (hclean_right HR.out)
            have HHL := Lib.hid (hclean_length s)
            have HHD := Lib.hid (show hdo (hclean s) ⟨111, false, false, false, []⟩ = hclean (hclean s) from by simp [hdo])
            generalize hclean s = cn at *
            have HD := do_ok s ad k ⟨111, false, false, false, []⟩ none 0 0 w7 (HI.out.below K.out) HR.out H8.out HLT.out (Str.ordsIn_nil _ _) nofun (by decide) (clean_ok _)
            rw [HHC.out] at HD
            simp only [GaveS] at HD
            replace HD := Lib.hid HD
            obtain ⟨x00, x01, x02, x03, x04, x05⟩ := cells6 X.out
            go_wp2_with fail
            with_reducible refine HD.out.mono ?_
            rintro e w8 ⟨va1, vc1, rfl, ho, hb⟩
            clear HD x00 x01 x02 x03 x04 x05
            have HA := al_any w8 (.cells #[.int .i64 cn.rows, .int .i64 cn.cols, .slice va1 cn.cs.length vc1, .int .i64 cn.cur, .bool cn.lk, .bool cn.ins] 24)
            have B1 := Lib.hid (heap_alloc_new w8 (.cells #[.int .i64 cn.rows, .int .i64 cn.cols, .slice va1 cn.cs.length vc1, .int .i64 cn.cur, .bool cn.lk, .bool cn.ins] 24))
            have C1 := Lib.hid ((OwnCels.below ho HA).to)
            replace hb := kept_trans hb HA
            replace X := Lib.hid (blk X.out hb)
            replace Y := Lib.hid (blk Y.out hb)
            replace Z := Lib.hid (blk Z.out hb)
            replace K := kept_hid K hb
            clear HA ho hb
            go_upto_region 6 with (fail)
            generalize w8.heap.size = N1 at *
            generalize w8.alloc _ = w8' at *
            have HD := do_ok cn va1 vc1 ⟨111, false, false, false, []⟩ none 0 0 w8' C1.out HHR.out (right_sound HHR.out) (by rw [HHL.out]; exact HLT.out) (Str.ordsIn_nil _ _) nofun (by decide) (clean_ok _)
            rw [HHD.out, HHT.out] at HD
            simp only [GaveS] at HD
            replace HD := Lib.hid HD
            obtain ⟨x00, x01, x02, x03, x04, x05⟩ := cells6 B1.out
            go_wp2_with fail
            with_reducible refine HD.out.mono ?_
            rintro e w9 ⟨va2, vc2, rfl, ho, hb⟩
            clear HD x00 x01 x02 x03 x04 x05
            have HA := al_any w9 (.cells #[.int .i64 cn.rows, .int .i64 cn.cols, .slice va2 cn.cs.length vc2, .int .i64 cn.cur, .bool cn.lk, .bool cn.ins] 24)
            have B2 := Lib.hid (heap_alloc_new w9 (.cells #[.int .i64 cn.rows, .int .i64 cn.cols, .slice va2 cn.cs.length vc2, .int .i64 cn.cur, .bool cn.lk, .bool cn.ins] 24))
            have C2 := Lib.hid ((OwnCels.below ho HA).to)
            replace hb := kept_trans hb HA
            replace X := Lib.hid (blk X.out hb)
            replace Y := Lib.hid (blk Y.out hb)
            replace Z := Lib.hid (blk Z.out hb)
            replace B1 := Lib.hid (blk B1.out hb)
            replace C1 := Lib.hid (C1.out.below hb)
            replace K := kept_hid K hb
            clear HA ho hb
            go_upto_region 7 with (fail)
            generalize w9.heap.size = N2 at *
            generalize w9.alloc _ = w9' at *
            have HSM := Lib.hid (rsame_any cn.rows cn.cols cn.cur cn.lk cn.ins va1 cn.cs.length vc1 va2 cn.cs.length vc2 cn.cs cn.cs w9' C1.out C2.out (by rw [HHL.out]; have := HL.out; omega))
            rw [decide_eq_true rfl] at HSM
            obtain ⟨c0, c1, c2, c3, c4, c5⟩ := cells6 B1.out
            obtain ⟨e0, e1, e2, e3, e4, e5⟩ := cells6 B2.out
            go_wp2_with fail
            with_reducible refine HSM.out.mono ?_
            rintro e wa ⟨rfl, hb⟩
            clear c0 c1 c2 c3 c4 c5 e0 e1 e2 e3 e4 e5 HSM HHC HHT HHR HHL HHD B1 B2 C1 C2
            replace X := Lib.hid (blk X.out hb)
            replace Y := Lib.hid (blk Y.out hb)
            replace Z := Lib.hid (blk Z.out hb)
            replace K := kept_hid K hb
            clear hb
            go_upto_region 9 with (fail)
            have HD := do_no s ad k ⟨245, fa, fu, fr, os⟩ al os.length cl wa (HI.out.below K.out) HR.out H8.out HLT.out (HO.out.below K.out) HSD.out (by have := HOL.out; simp only; omega) HCO.out
            simp only [RefusedS] at HD
            replace HD := Lib.hid HD
            obtain ⟨x00, x01, x02, x03, x04, x05⟩ := cells6 X.out
            obtain ⟨x10, x11, x12, x13, x14⟩ := cells5o Y.out
            go_wp2_with fail
            with_reducible refine HD.out.mono ?_
            rintro e wb ⟨va3, vc3, ev3, rfl, ho, htd3, hb⟩
            clear HD x00 x01 x02 x03 x04 x05 x10 x11 x12 x13 x14
            have HA := al_any wb (.cells #[.int .i64 s.rows, .int .i64 s.cols, .slice va3 s.cs.length vc3, .int .i64 s.cur, .bool s.lk, .bool s.ins] 24)
            have B3 := Lib.hid (heap_alloc_new wb (.cells #[.int .i64 s.rows, .int .i64 s.cols, .slice va3 s.cs.length vc3, .int .i64 s.cur, .bool s.lk, .bool s.ins] 24))
            have C3 := Lib.hid (ho.below HA)
            replace hb := kept_trans hb HA
            replace X := Lib.hid (blk X.out hb)
            replace Y := Lib.hid (blk Y.out hb)
            replace Z := Lib.hid (blk Z.out hb)
            replace K := kept_hid K hb
            clear HA ho hb
            go_upto_region 10 with (fail)
            generalize wb.heap.size = N3 at *
            generalize wb.alloc _ = wb' at *
            generalize hV : hdo s ⟨245, fap, fup, frp, osp⟩ = vs at *
            replace hV := Lib.hid hV
            have HD := do_ok s va3 vc3 ⟨245, fap, fup, frp, osp⟩ alp osp.length clp wb' C3.out HR.out H8.out HLT.out (HOp.out.below K.out) HSDp.out (by have := HOLp.out; simp only; omega) HCP.out
            rw [hV.out] at HD
            simp only [GaveS] at HD
            replace HD := Lib.hid HD
            obtain ⟨x00, x01, x02, x03, x04, x05⟩ := cells6 B3.out
            obtain ⟨x10, x11, x12, x13, x14⟩ := cells5o Z.out
            go_wp2_with fail
            with_reducible refine HD.out.mono ?_
            rintro e wc ⟨va4, vc4, rfl, ho, hb⟩
            clear HD x00 x01 x02 x03 x04 x05 x10 x11 x12 x13 x14
            have HA := al_any wc (.cells #[.int .i64 vs.rows, .int .i64 vs.cols, .slice va4 vs.cs.length vc4, .int .i64 vs.cur, .bool vs.lk, .bool vs.ins] 24)
            have B4 := Lib.hid (heap_alloc_new wc (.cells #[.int .i64 vs.rows, .int .i64 vs.cols, .slice va4 vs.cs.length vc4, .int .i64 vs.cur, .bool vs.lk, .bool vs.ins] 24))
            have C4 := Lib.hid ((OwnCels.below ho HA).to)
            replace hb := kept_trans hb HA
            replace X := Lib.hid (blk X.out hb)
            replace Y := Lib.hid (blk Y.out hb)
            replace Z := Lib.hid (blk Z.out hb)
            replace B3 := Lib.hid (blk B3.out hb)
            replace C3 := Lib.hid (C3.out.below hb)
            replace K := kept_hid K hb
            clear HA ho hb
            go_upto_region 11 with (fail)
            generalize wc.heap.size = N4 at *
            generalize wc.alloc _ = wc' at *
            have HD := do_ok s ad k ⟨245, fap, fup, frp, osp⟩ alp osp.length clp wc' (HI.out.below K.out) HR.out H8.out HLT.out (HOp.out.below K.out) HSDp.out (by have := HOLp.out; simp only; omega) HCP.out
            rw [hV.out] at HD
            simp only [GaveS] at HD
            replace HD := Lib.hid HD
            obtain ⟨x00, x01, x02, x03, x04, x05⟩ := cells6 X.out
            obtain ⟨x10, x11, x12, x13, x14⟩ := cells5o Z.out
            go_wp2_with fail
            with_reducible refine HD.out.mono ?_
            rintro e wd ⟨va5, vc5, rfl, ho, hb⟩
            clear HD x00 x01 x02 x03 x04 x05 x10 x11 x12 x13 x14
            have HA := al_any wd (.cells #[.int .i64 vs.rows, .int .i64 vs.cols, .slice va5 vs.cs.length vc5, .int .i64 vs.cur, .bool vs.lk, .bool vs.ins] 24)
            have B5 := Lib.hid (heap_alloc_new wd (.cells #[.int .i64 vs.rows, .int .i64 vs.cols, .slice va5 vs.cs.length vc5, .int .i64 vs.cur, .bool vs.lk, .bool vs.ins] 24))
            have C5 := Lib.hid ((OwnCels.below ho HA).to)
            replace hb := kept_trans hb HA
            replace X := Lib.hid (blk X.out hb)
            replace Y := Lib.hid (blk Y.out hb)
            replace Z := Lib.hid (blk Z.out hb)
            replace B3 := Lib.hid (blk B3.out hb)
            replace B4 := Lib.hid (blk B4.out hb)
            replace C3 := Lib.hid (C3.out.below hb)
            replace C4 := Lib.hid (C4.out.below hb)
            replace K := kept_hid K hb
            clear HA ho hb
            go_upto_region 12 with (fail)
            generalize wd.heap.size = N5 at *
            generalize wd.alloc _ = wd' at *
            have HIN := HCO.out
            rcases htd3 with ⟨_, h1, _⟩ | ⟨rfl, _⟩ | ⟨_, _, rfl, _⟩
            · exact absurd h1 (by omega)
            all_goals
              clear HIN
              go_wp2_with fail
              go_ret
              exact ⟨rfl, K.out⟩
          · have HCP := Lib.hid hcp
            clear hcp
            go_enter Tryd.func7, Tryd.ntmps7
            go_upto_region 1 with (fail)
            generalize ((w.alloc _).alloc _).alloc _ = w1 at *
            have K := Lib.hid HB.out
            go_wp2_with fail
            with_reducible refine (HAW.out _ K.out).mono ?_
            rintro e w2 ⟨rfl, hb⟩
            replace X := Lib.hid (blk X.out hb)
            replace Y := Lib.hid (blk Y.out hb)
            replace Z := Lib.hid (blk Z.out hb)
            replace K := kept_hid K hb
            clear hb
            obtain ⟨c0, c1, c2, c3, c4, c5⟩ := cells6 X.out
            go_wp2_with fail
            with_reducible refine (HF1.out _ K.out).mono ?_
            rintro e w3 ⟨rfl, hb⟩
            clear c0 c1 c2 c3 c4 c5
            replace X := Lib.hid (blk X.out hb)
            replace Y := Lib.hid (blk Y.out hb)
            replace Z := Lib.hid (blk Z.out hb)
            replace K := kept_hid K hb
            clear hb
            obtain ⟨c0, c1, c2, c3, c4⟩ := cells5o Y.out
            go_wp2_with fail
            with_reducible refine (HF2.out _ K.out).mono ?_
            rintro e w4 ⟨rfl, hb⟩
            clear c0 c1 c2 c3 c4
            replace X := Lib.hid (blk X.out hb)
            replace Y := Lib.hid (blk Y.out hb)
            replace Z := Lib.hid (blk Z.out hb)
            replace K := kept_hid K hb
            clear hb
            obtain ⟨c0, c1, c2, c3, c4⟩ := cells5o Z.out
            go_wp2_with fail
            with_reducible refine (HF3.out _ K.out).mono ?_
            rintro e w5 ⟨rfl, hb⟩
            clear c0 c1 c2 c3 c4
            replace X := Lib.hid (blk X.out hb)
            replace Y := Lib.hid (blk Y.out hb)
            replace Z := Lib.hid (blk Z.out hb)
            replace K := kept_hid K hb
            clear hb
            have HYZ := Lib.hid (show w.heap.size + 2 < w5.heap.size from there_lt Z.out)
            obtain ⟨d0, d1, d2, d3, d4⟩ := cells5o Y.out
            have fz := frozen_of_row _ _ 0 _ _ Y.out
            have SO := gsetCell w5 (w.heap.size + 1) 0 (.int .i64 245)
            have Y6 := Lib.hid (heap_setCell_same w5 (w.heap.size + 1) 0 _ 38 (.int .i64 245) Y.out)
            have X6 := Lib.hid (blk_g X.out SO (by intro e; injection e with e; omega))
            have Z6 := Lib.hid (blk_g Z.out SO (by intro e; injection e with e; omega))
            have K6 := Lib.hid (below_grown K.out SO (by omega))
            clear SO
            obtain ⟨e0, e1, e2, e3, e4⟩ := cells5o Z6.out
            have fz2 := frozen_of_row _ _ 0 _ _ Z6.out
            have SO := gsetCell (w5.setCell ⟨w.heap.size + 1, 0, none⟩ (.int .i64 245)) (w.heap.size + 2) 0 (.int .i64 245)
            have Z7 := Lib.hid (heap_setCell_same (w5.setCell ⟨w.heap.size + 1, 0, none⟩ (.int .i64 245)) (w.heap.size + 2) 0 _ 38 (.int .i64 245) Z6.out)
            have X7 := Lib.hid (blk_g X6.out SO (by intro e; injection e with e; omega))
            have Y7 := Lib.hid (blk_g Y6.out SO (by intro e; injection e with e; omega))
            have K7 := Lib.hid (below_grown K6.out SO (by omega))
            clear SO X Y Z K X6 Y6 Z6 K6 HYZ
            go_upto_region 5 with (fail)
            clear d0 d1 d2 d3 d4 e0 e1 e2 e3 e4 fz fz2
            generalize (w5.setCell _ _).setCell _ _ = w7 at *
            have X := X7
            clear X7
            have Y := Y7
            clear Y7
            have Z := Z7
            clear Z7
            have K := K7
            clear K7
            have HHC := Lib.hid (show hdo s ⟨111, false, false, false, []⟩ = hclean s from by simp [hdo])
            have HHT := Lib.hid (hclean_twice s)
            have HHR := Lib.hid (hclean_right HR.out)
            have HHL := Lib.hid (hclean_length s)
            have HHD := Lib.hid (show hdo (hclean s) ⟨111, false, false, false, []⟩ = hclean (hclean s) from by simp [hdo])
            generalize hclean s = cn at *
            have HD := do_ok s ad k ⟨111, false, false, false, []⟩ none 0 0 w7 (HI.out.below K.out) HR.out H8.out HLT.out (Str.ordsIn_nil _ _) nofun (by decide) (clean_ok _)
            rw [HHC.out] at HD
            simp only [GaveS] at HD
            replace HD := Lib.hid HD
            obtain ⟨x00, x01, x02, x03, x04, x05⟩ := cells6 X.out
            go_wp2_with fail
            with_reducible refine HD.out.mono ?_
            rintro e w8 ⟨va1, vc1, rfl, ho, hb⟩
            clear HD x00 x01 x02 x03 x04 x05
            have HA := al_any w8 (.cells #[.int .i64 cn.rows, .int .i64 cn.cols, .slice va1 cn.cs.length vc1, .int .i64 cn.cur, .bool cn.lk, .bool cn.ins] 24)
            have B1 := Lib.hid (heap_alloc_new w8 (.cells #[.int .i64 cn.rows, .int .i64 cn.cols, .slice va1 cn.cs.length vc1, .int .i64 cn.cur, .bool cn.lk, .bool cn.ins] 24))
            have C1 := Lib.hid ((OwnCels.below ho HA).to)
            replace hb := kept_trans hb HA
            replace X := Lib.hid (blk X.out hb)
            replace Y := Lib.hid (blk Y.out hb)
            replace Z := Lib.hid (blk Z.out hb)
            replace K := kept_hid K hb
            clear HA ho hb
            go_upto_region 6 with (fail)
            generalize w8.heap.size = N1 at *
            generalize w8.alloc _ = w8' at *
            have HD := do_ok cn va1 vc1 ⟨111, false, false, false, []⟩ none 0 0 w8' C1.out HHR.out (right_sound HHR.out) (by rw [HHL.out]; exact HLT.out) (Str.ordsIn_nil _ _) nofun (by decide) (clean_ok _)
            rw [HHD.out, HHT.out] at HD
            simp only [GaveS] at HD
            replace HD := Lib.hid HD
            obtain ⟨x00, x01, x02, x03, x04, x05⟩ := cells6 B1.out
            go_wp2_with fail
            with_reducible refine HD.out.mono ?_
            rintro e w9 ⟨va2, vc2, rfl, ho, hb⟩
            clear HD x00 x01 x02 x03 x04 x05
            have HA := al_any w9 (.cells #[.int .i64 cn.rows, .int .i64 cn.cols, .slice va2 cn.cs.length vc2, .int .i64 cn.cur, .bool cn.lk, .bool cn.ins] 24)
            have B2 := Lib.hid (heap_alloc_new w9 (.cells #[.int .i64 cn.rows, .int .i64 cn.cols, .slice va2 cn.cs.length vc2, .int .i64 cn.cur, .bool cn.lk, .bool cn.ins] 24))
            have C2 := Lib.hid ((OwnCels.below ho HA).to)
            replace hb := kept_trans hb HA
            replace X := Lib.hid (blk X.out hb)
            replace Y := Lib.hid (blk Y.out hb)
            replace Z := Lib.hid (blk Z.out hb)
            replace B1 := Lib.hid (blk B1.out hb)
            replace C1 := Lib.hid (C1.out.below hb)
            replace K := kept_hid K hb
            clear HA ho hb
            go_upto_region 7 with (fail)
            generalize w9.heap.size = N2 at *
            generalize w9.alloc _ = w9' at *
            have HSM := Lib.hid (rsame_any cn.rows cn.cols cn.cur cn.lk cn.ins va1 cn.cs.length vc1 va2 cn.cs.length vc2 cn.cs cn.cs w9' C1.out C2.out (by rw [HHL.out]; have := HL.out; omega))
            rw [decide_eq_true rfl] at HSM
            obtain ⟨c0, c1, c2, c3, c4, c5⟩ := cells6 B1.out
            obtain ⟨e0, e1, e2, e3, e4, e5⟩ := cells6 B2.out
            go_wp2_with fail
            with_reducible refine HSM.out.mono ?_
            rintro e wa ⟨rfl, hb⟩
            clear c0 c1 c2 c3 c4 c5 e0 e1 e2 e3 e4 e5 HSM HHC HHT HHR HHL HHD B1 B2 C1 C2
            replace X := Lib.hid (blk X.out hb)
            replace Y := Lib.hid (blk Y.out hb)
            replace Z := Lib.hid (blk Z.out hb)
            replace K := kept_hid K hb
            clear hb
            go_upto_region 9 with (fail)
            have HD := do_no s ad k ⟨245, fa, fu, fr, os⟩ al os.length cl wa (HI.out.below K.out) HR.out H8.out HLT.out (HO.out.below K.out) HSD.out (by have := HOL.out; simp only; omega) HCO.out
            simp only [RefusedS] at HD
            replace HD := Lib.hid HD
            obtain ⟨x00, x01, x02, x03, x04, x05⟩ := cells6 X.out
            obtain ⟨x10, x11, x12, x13, x14⟩ := cells5o Y.out
            go_wp2_with fail
            with_reducible refine HD.out.mono ?_
            rintro e wb ⟨va3, vc3, ev3, rfl, ho, htd3, hb⟩
            clear HD x00 x01 x02 x03 x04 x05 x10 x11 x12 x13 x14
            have HA := al_any wb (.cells #[.int .i64 s.rows, .int .i64 s.cols, .slice va3 s.cs.length vc3, .int .i64 s.cur, .bool s.lk, .bool s.ins] 24)
            have B3 := Lib.hid (heap_alloc_new wb (.cells #[.int .i64 s.rows, .int .i64 s.cols, .slice va3 s.cs.length vc3, .int .i64 s.cur, .bool s.lk, .bool s.ins] 24))
            have C3 := Lib.hid (ho.below HA)
            replace hb := kept_trans hb HA
            replace X := Lib.hid (blk X.out hb)
            replace Y := Lib.hid (blk Y.out hb)
            replace Z := Lib.hid (blk Z.out hb)
            replace K := kept_hid K hb
            clear HA ho hb
            go_upto_region 10 with (fail)
            generalize wb.heap.size = N3 at *
            generalize wb.alloc _ = wb' at *
            have HD := do_no s va3 vc3 ⟨245, fap, fup, frp, osp⟩ alp osp.length clp wb' C3.out HR.out H8.out HLT.out (HOp.out.below K.out) HSDp.out (by have := HOLp.out; simp only; omega) HCP.out
            simp only [RefusedS] at HD
            replace HD := Lib.hid HD
            obtain ⟨x00, x01, x02, x03, x04, x05⟩ := cells6 B3.out
            obtain ⟨x10, x11, x12, x13, x14⟩ := cells5o Z.out
            go_wp2_with fail
            with_reducible refine HD.out.mono ?_
            rintro e wc ⟨va4, vc4, ev4, rfl, ho, htd4, hb⟩
            clear HD x00 x01 x02 x03 x04 x05 x10 x11 x12 x13 x14
            have HA := al_any wc (.cells #[.int .i64 s.rows, .int .i64 s.cols, .slice va4 s.cs.length vc4, .int .i64 s.cur, .bool s.lk, .bool s.ins] 24)
            have B4 := Lib.hid (heap_alloc_new wc (.cells #[.int .i64 s.rows, .int .i64 s.cols, .slice va4 s.cs.length vc4, .int .i64 s.cur, .bool s.lk, .bool s.ins] 24))
            have C4 := Lib.hid (ho.below HA)
            replace hb := kept_trans hb HA
            replace X := Lib.hid (blk X.out hb)
            replace Y := Lib.hid (blk Y.out hb)
            replace Z := Lib.hid (blk Z.out hb)
            replace B3 := Lib.hid (blk B3.out hb)
            replace C3 := Lib.hid (C3.out.below hb)
            replace K := kept_hid K hb
            clear HA ho hb
            go_upto_region 11 with (fail)
            generalize wc.heap.size = N4 at *
            generalize wc.alloc _ = wc' at *
            have HD := do_no s ad k ⟨245, fap, fup, frp, osp⟩ alp osp.length clp wc' (HI.out.below K.out) HR.out H8.out HLT.out (HOp.out.below K.out) HSDp.out (by have := HOLp.out; simp only; omega) HCP.out
            simp only [RefusedS] at HD
            replace HD := Lib.hid HD
            obtain ⟨x00, x01, x02, x03, x04, x05⟩ := cells6 X.out
            obtain ⟨x10, x11, x12, x13, x14⟩ := cells5o Z.out
            go_wp2_with fail
            with_reducible refine HD.out.mono ?_
            rintro e wd ⟨va5, vc5, ev5, rfl, ho, htd5, hb⟩
            clear HD x00 x01 x02 x03 x04 x05 x10 x11 x12 x13 x14
            have HA := al_any wd (.cells #[.int .i64 s.rows, .int .i64 s.cols, .slice va5 s.cs.length vc5, .int .i64 s.cur, .bool s.lk, .bool s.ins] 24)
            have B5 := Lib.hid (heap_alloc_new wd (.cells #[.int .i64 s.rows, .int .i64 s.cols, .slice va5 s.cs.length vc5, .int .i64 s.cur, .bool s.lk, .bool s.ins] 24))
            have C5 := Lib.hid (ho.below HA)
            replace hb := kept_trans hb HA
            replace X := Lib.hid (blk X.out hb)
            replace Y := Lib.hid (blk Y.out hb)
            replace Z := Lib.hid (blk Z.out hb)
            replace B3 := Lib.hid (blk B3.out hb)
            replace B4 := Lib.hid (blk B4.out hb)
            replace C3 := Lib.hid (C3.out.below hb)
            replace C4 := Lib.hid (C4.out.below hb)
            replace K := kept_hid K hb
            clear HA ho hb
            go_upto_region 12 with (fail)
            generalize wd.heap.size = N5 at *
            generalize wd.alloc _ = wd' at *
            have HIN := HCO.out
            rcases htd3 with ⟨_, h1, _⟩ | ⟨rfl, _⟩ | ⟨_, _, rfl, _⟩
            · exact absurd h1 (by omega)
            all_goals
              clear HIN htd4 htd5
              go_wp2_with fail
              go_ret
              exact ⟨rfl, K.out⟩
end Hst
end Go.Proofs.YtkobodoejpioeaaDoor
