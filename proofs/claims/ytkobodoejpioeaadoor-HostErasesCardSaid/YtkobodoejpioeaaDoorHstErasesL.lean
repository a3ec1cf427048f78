/- The law HostErases. Written by tools/gen_hst_laws.py. -/
import Derived.Test.YtkobodoejpioeaaDoorHstAwake
import Derived.Test.YtkobodoejpioeaaDoorBunHst
import Derived.Test.YtkobodoejpioeaaDoorBunStr
import Derived.Test.YtkobodoejpioeaaDoorBunHst
import Derived.Test.YtkobodoejpioeaaDoorBunGrd
import Derived.Test.YtkobodoejpioeaaDoorBunGrd
import Derived.Test.YtkobodoejpioeaaDoorOpnScr
import Derived.StillTailTactics
namespace Go.Proofs.YtkobodoejpioeaaDoor
open Go.RowKit Sha Six Apd Cut Err Att Grd Fld Pnt
set_option linter.unusedVariables false
namespace Hst
set_option maxRecDepth 100000 in
set_option maxHeartbeats 8000000 in
theorem erases_any (s : S) (ad : Option Addr) (k : Nat) (u : S) (adu : Option Addr) (ku : Nat) (cmd : Int) (fa fu fr : Bool) (ov : Value) (os : List Go.Proofs.YtkobodoejpioeaaDoor.Ord.O) (w : World) (h : CelsIn w (.slice ad s.cs.length k) s.cs) (hwf : Opn.Wf s.cs) (hm : s.cs.length ≤ maxLen) (hu : CelsIn w (.slice adu u.cs.length ku) u.cs) (hwfu : Opn.Wf u.cs) (hmu : u.cs.length ≤ maxLen) (hO : Str.OrdsIn w 0 ov os) (hos : ∀ o ∈ os, (∀ x ∈ o.t, x < 256) ∧ o.c < 256) (hom : os.length ≤ maxLen) (hg : Handle w) :
    Calls Tryd.prog 5 #[.agg #[.int .i64 s.rows, .int .i64 s.cols, .slice ad s.cs.length k, .int .i64 s.cur, .bool s.lk, .bool s.ins], .agg #[.int .i64 u.rows, .int .i64 u.cols, .slice adu u.cs.length ku, .int .i64 u.cur, .bool u.lk, .bool u.ins], .agg #[.int .i64 cmd, .bool fa, .bool fu, .bool fr, ov]] w fun e w' => e = .returned (.bool true) ∧ Below w.heap.size w w' := by
  have HAW := Lib.hid fun W (hb : Below w.heap.size w W) => awake_any W (hand_of hg hb)
  have HCO := Lib.hid fun W ev (c n : Int) (hb : Below w.heap.size w W) (ht : Err.Told W ev c n) => code_told ev c n W (hand_of hg hb) ht
  obtain ⟨al, cl, rfl, _, _⟩ := hO.form
  have HB := Lib.hid (kept_trans (kept_trans (al_any w (.cells #[.int .i64 s.rows, .int .i64 s.cols, .slice ad s.cs.length k, .int .i64 s.cur, .bool s.lk, .bool s.ins] 24)) (al_any _ (.cells #[.int .i64 u.rows, .int .i64 u.cols, .slice adu u.cs.length ku, .int .i64 u.cur, .bool u.lk, .bool u.ins] 24))) (al_any _ (.cells #[.int .i64 cmd, .bool fa, .bool fu, .bool fr, .slice al os.length cl] 38)))
  have X := Lib.hid (heap_alloc3 w (.cells #[.int .i64 s.rows, .int .i64 s.cols, .slice ad s.cs.length k, .int .i64 s.cur, .bool s.lk, .bool s.ins] 24) (.cells #[.int .i64 u.rows, .int .i64 u.cols, .slice adu u.cs.length ku, .int .i64 u.cur, .bool u.lk, .bool u.ins] 24) (.cells #[.int .i64 cmd, .bool fa, .bool fu, .bool fr, .slice al os.length cl] 38)).1
  have U := Lib.hid (heap_alloc3 w (.cells #[.int .i64 s.rows, .int .i64 s.cols, .slice ad s.cs.length k, .int .i64 s.cur, .bool s.lk, .bool s.ins] 24) (.cells #[.int .i64 u.rows, .int .i64 u.cols, .slice adu u.cs.length ku, .int .i64 u.cur, .bool u.lk, .bool u.ins] 24) (.cells #[.int .i64 cmd, .bool fa, .bool fu, .bool fr, .slice al os.length cl] 38)).2.1
  have Y := Lib.hid (heap_alloc3 w (.cells #[.int .i64 s.rows, .int .i64 s.cols, .slice ad s.cs.length k, .int .i64 s.cur, .bool s.lk, .bool s.ins] 24) (.cells #[.int .i64 u.rows, .int .i64 u.cols, .slice adu u.cs.length ku, .int .i64 u.cur, .bool u.lk, .bool u.ins] 24) (.cells #[.int .i64 cmd, .bool fa, .bool fu, .bool fr, .slice al os.length cl] 38)).2.2
  have HI := Lib.hid h
  have HIU := Lib.hid hu
  have H8 := Lib.hid (wf_sound hwf)
  have HU8 := Lib.hid (wf_sound hwfu)
  have HO := Lib.hid hO
  have HOS := Lib.hid hos
  have HF1 := Lib.hid fun W (hb : Below w.heap.size w W) => rfew_any s ad k W (h.below hb) (wf_sound hwf)
  have HF2 := Lib.hid fun W (hb : Below w.heap.size w W) => rfew_any u adu ku W (hu.below hb) (wf_sound hwfu)
  have HF3 := Lib.hid fun W (hb : Below w.heap.size w W) => Str.few_any ⟨cmd, fa, fu, fr, os⟩ al os.length cl W (hO.below hb) hom
  simp only at HF3
  clear h hwf hm hu hwfu hmu hO hos hom hg
  cases hf0 : few s with
  | false =>
    rw [hf0] at HF1
    go_enter Tryd.func5, Tryd.ntmps5
    go_upto_region 1 with (fail)
    generalize ((w.alloc _).alloc _).alloc _ = w1 at *
    have K := Lib.hid HB.out
    go_wp2_with fail
    with_reducible refine (HAW.out _ K.out).mono ?_
    rintro e w2 ⟨rfl, hb⟩
    replace X := Lib.hid (blk X.out hb)
    replace U := Lib.hid (blk U.out hb)
    replace Y := Lib.hid (blk Y.out hb)
    replace K := kept_hid K hb
    clear hb
    obtain ⟨c0, c1, c2, c3, c4, c5⟩ := cells6 X.out
    go_wp2_with fail
    with_reducible refine (HF1.out _ K.out).mono ?_
    rintro e w3 ⟨rfl, hb⟩
    clear c0 c1 c2 c3 c4 c5
    replace X := Lib.hid (blk X.out hb)
    replace U := Lib.hid (blk U.out hb)
    replace Y := Lib.hid (blk Y.out hb)
    replace K := kept_hid K hb
    clear hb
    go_wp2_with fail
    with_reducible refine (HAW.out _ K.out).mono ?_
    rintro e w10 ⟨rfl, hb⟩
    have KE := kept_hid K hb
    clear hb
    go_wp2_with fail
    go_ret
    exact ⟨rfl, KE.out⟩
  | true =>
    rw [hf0] at HF1
    cases hf1 : few u with
    | false =>
      rw [hf1] at HF2
      go_enter Tryd.func5, Tryd.ntmps5
      go_upto_region 1 with (fail)
      generalize ((w.alloc _).alloc _).alloc _ = w1 at *
      have K := Lib.hid HB.out
      go_wp2_with fail
      with_reducible refine (HAW.out _ K.out).mono ?_
      rintro e w2 ⟨rfl, hb⟩
      replace X := Lib.hid (blk X.out hb)
      replace U := Lib.hid (blk U.out hb)
      replace Y := Lib.hid (blk Y.out hb)
      replace K := kept_hid K hb
      clear hb
      obtain ⟨c0, c1, c2, c3, c4, c5⟩ := cells6 X.out
      go_wp2_with fail
      with_reducible refine (HF1.out _ K.out).mono ?_
      rintro e w3 ⟨rfl, hb⟩
      clear c0 c1 c2 c3 c4 c5
      replace X := Lib.hid (blk X.out hb)
      replace U := Lib.hid (blk U.out hb)
      replace Y := Lib.hid (blk Y.out hb)
      replace K := kept_hid K hb
      clear hb
      obtain ⟨c0, c1, c2, c3, c4, c5⟩ := cells6 U.out
      go_wp2_with fail
      with_reducible refine (HF2.out _ K.out).mono ?_
      rintro e w4 ⟨rfl, hb⟩
      clear c0 c1 c2 c3 c4 c5
      replace X := Lib.hid (blk X.out hb)
      replace U := Lib.hid (blk U.out hb)
      replace Y := Lib.hid (blk Y.out hb)
      replace K := kept_hid K hb
      clear hb
      go_wp2_with fail
      with_reducible refine (HAW.out _ K.out).mono ?_
      rintro e w11 ⟨rfl, hb⟩
      have KE := kept_hid K hb
      clear hb
      go_wp2_with fail
      go_ret
      exact ⟨rfl, KE.out⟩
    | true =>
      rw [hf1] at HF2
      cases hf2 : Str.fewB os with
      | false =>
        rw [hf2] at HF3
        go_enter Tryd.func5, Tryd.ntmps5
        go_upto_region 1 with (fail)
        generalize ((w.alloc _).alloc _).alloc _ = w1 at *
        have K := Lib.hid HB.out
        go_wp2_with fail
        with_reducible refine (HAW.out _ K.out).mono ?_
        rintro e w2 ⟨rfl, hb⟩
        replace X := Lib.hid (blk X.out hb)
        replace U := Lib.hid (blk U.out hb)
        replace Y := Lib.hid (blk Y.out hb)
        replace K := kept_hid K hb
        clear hb
        obtain ⟨c0, c1, c2, c3, c4, c5⟩ := cells6 X.out
        go_wp2_with fail
        with_reducible refine (HF1.out _ K.out).mono ?_
        rintro e w3 ⟨rfl, hb⟩
        clear c0 c1 c2 c3 c4 c5
        replace X := Lib.hid (blk X.out hb)
        replace U := Lib.hid (blk U.out hb)
        replace Y := Lib.hid (blk Y.out hb)
        replace K := kept_hid K hb
        clear hb
        obtain ⟨c0, c1, c2, c3, c4, c5⟩ := cells6 U.out
        go_wp2_with fail
        with_reducible refine (HF2.out _ K.out).mono ?_
        rintro e w4 ⟨rfl, hb⟩
        clear c0 c1 c2 c3 c4 c5
        replace X := Lib.hid (blk X.out hb)
        replace U := Lib.hid (blk U.out hb)
        replace Y := Lib.hid (blk Y.out hb)
        replace K := kept_hid K hb
        clear hb
        obtain ⟨c0, c1, c2, c3, c4⟩ := cells5o Y.out
        go_wp2_with fail
        with_reducible refine (HF3.out _ K.out).mono ?_
        rintro e w5 ⟨rfl, hb⟩
        clear c0 c1 c2 c3 c4
        replace X := Lib.hid (blk X.out hb)
        replace U := Lib.hid (blk U.out hb)
        replace Y := Lib.hid (blk Y.out hb)
        replace K := kept_hid K hb
        clear hb
        go_wp2_with fail
        with_reducible refine (HAW.out _ K.out).mono ?_
        rintro e w12 ⟨rfl, hb⟩
        have KE := kept_hid K hb
        clear hb
        go_wp2_with fail
        go_ret
        exact ⟨rfl, KE.out⟩
      | true =>
        rw [hf2] at HF3
        obtain ⟨hol, hsd⟩ := few_sound hf2 HOS.out
        have HOL := Lib.hid hol
        have HSD := Lib.hid hsd
        obtain ⟨q1, q2, q3⟩ := few_parts hf0
        obtain ⟨v1, v2, v3⟩ := few_parts hf1
        have HL := Lib.hid q1
        have HP := Lib.hid q2
        have HR := Lib.hid q3
        have HLU := Lib.hid v1
        have HRU := Lib.hid v3
        have HLT := Lib.hid (show s.cs.length < 10000 from by have := HL.out; omega)
        have HLTU := Lib.hid (show u.cs.length < 10000 from by have := HLU.out; omega)
        clear hol hsd q1 q2 q3 v1 v2 v3 hf0 hf1 hf2
        by_cases hcw : (Str.cwrite ⟨cmd, fa, fu, fr, os⟩ s.cs.length).2.1 = 0
        · have HCW := Lib.hid hcw
          clear hcw
          go_enter Tryd.func5, Tryd.ntmps5
          go_upto_region 1 with (fail)
          generalize ((w.alloc _).alloc _).alloc _ = w1 at *
          have K := Lib.hid HB.out
          go_wp2_with fail
          with_reducible refine (HAW.out _ K.out).mono ?_
          rintro e w2 ⟨rfl, hb⟩
          replace X := Lib.hid (blk X.out hb)
          replace U := Lib.hid (blk U.out hb)
          replace Y := Lib.hid (blk Y.out hb)
          replace K := kept_hid K hb
          clear hb
          obtain ⟨c0, c1, c2, c3, c4, c5⟩ := cells6 X.out
          go_wp2_with fail
          with_reducible refine (HF1.out _ K.out).mono ?_
          rintro e w3 ⟨rfl, hb⟩
          clear c0 c1 c2 c3 c4 c5
          replace X := Lib.hid (blk X.out hb)
          replace U := Lib.hid (blk U.out hb)
          replace Y := Lib.hid (blk Y.out hb)
          replace K := kept_hid K hb
          clear hb
          obtain ⟨c0, c1, c2, c3, c4, c5⟩ := cells6 U.out
          go_wp2_with fail
          with_reducible refine (HF2.out _ K.out).mono ?_
          rintro e w4 ⟨rfl, hb⟩
          clear c0 c1 c2 c3 c4 c5
          replace X := Lib.hid (blk X.out hb)
          replace U := Lib.hid (blk U.out hb)
          replace Y := Lib.hid (blk Y.out hb)
          replace K := kept_hid K hb
          clear hb
          obtain ⟨c0, c1, c2, c3, c4⟩ := cells5o Y.out
          go_wp2_with fail
          with_reducible refine (HF3.out _ K.out).mono ?_
          rintro e w5 ⟨rfl, hb⟩
          clear c0 c1 c2 c3 c4
          replace X := Lib.hid (blk X.out hb)
          replace U := Lib.hid (blk U.out hb)
          replace Y := Lib.hid (blk Y.out hb)
          replace K := kept_hid K hb
          clear hb
          have HDO := Lib.hid (do_ok s ad k ⟨cmd, fa, fu, fr, os⟩ al os.length cl w5 (HI.out.below K.out) HR.out H8.out HLT.out (HO.out.below K.out) HSD.out (by have := HOL.out; simp only; omega) HCW.out)
          have HDR := Lib.hid (hdo_right HR.out HCW.out)
          have HPR := Lib.hid (hdo_rest s ⟨cmd, fa, fu, fr, os⟩)
          have HKN := Lib.hid (known_cases (cwrite_right HCW.out).1)
          have HSAME := Lib.hid (show cmd = 242 ∨ cmd = 246 → hdo s ⟨cmd, fa, fu, fr, os⟩ = s from fun h => by simp [hdo, h])
          have HER := Lib.hid (show cmd = 245 → u.rows = s.rows → u.cols = s.cols → hdo (withL u s.lk s.ins) ⟨cmd, fa, fu, fr, os⟩ = hdo s ⟨cmd, fa, fu, fr, os⟩ from fun h h1 h2 => by
            have h3 : u.cs.length = s.cs.length := by
              obtain ⟨_, g1, _⟩ := sright_parts HR.out
              obtain ⟨_, g2, _⟩ := sright_parts HRU.out
              rw [h1, h2] at g2
              omega
            subst h
            simp [hdo, erase_same h1 h2 h3])
          simp only [GaveS] at HDO
          obtain ⟨c0, c1, c2, c3, c4, c5⟩ := cells6 X.out
          obtain ⟨d0, d1, d2, d3, d4⟩ := cells5o Y.out
          have HST := Lib.hid (show ∃ st, hdo s ⟨cmd, fa, fu, fr, os⟩ = st from ⟨_, rfl⟩)
          obtain ⟨st, hst⟩ := HST.out
          rw [hst] at HDO HDR HPR HSAME HER
          clear HST hst
          go_wp2_with fail
          with_reducible refine HDO.out.mono ?_
          rintro e w6 ⟨va, vc, rfl, ho, hb⟩
          clear c0 c1 c2 c3 c4 c5 d0 d1 d2 d3 d4 HDO
          have HBB := Lib.hid (show w.heap.size + 2 < w6.heap.size from there_lt (blk Y.out hb))
          have HA := al_any w6 (.cells #[.int .i64 st.rows, .int .i64 st.cols, .slice va st.cs.length vc, .int .i64 st.cur, .bool st.lk, .bool st.ins] 24)
          have T := Lib.hid (heap_alloc_new w6 (.cells #[.int .i64 st.rows, .int .i64 st.cols, .slice va st.cs.length vc, .int .i64 st.cur, .bool st.lk, .bool st.ins] 24))
          replace hb := kept_trans hb HA
          replace X := Lib.hid (blk X.out hb)
          replace U := Lib.hid (blk U.out hb)
          replace Y := Lib.hid (blk Y.out hb)
          replace K := kept_hid K hb
          have OT := Lib.hid (OwnCels.below ho HA)
          clear HA ho hb
          replace OT := Lib.hid OT.out.to
          go_upto_region 4 with (fail)
          generalize w6.heap.size = B at *
          generalize w6.alloc _ = w7 at *
          have HRR := Lib.hid (rright_any st va vc w7 OT.out (right_sound HDR.out) (by rw [HPR.out.2.2]; have := HL.out; omega))
          rw [HDR.out] at HRR
          obtain ⟨c0, c1, c2, c3, c4, c5⟩ := cells6 T.out
          go_wp2_with fail
          with_reducible refine HRR.out.mono ?_
          rintro e w8 ⟨rfl, hb⟩
          clear c0 c1 c2 c3 c4 c5 HRR
          replace X := Lib.hid (blk X.out hb)
          replace U := Lib.hid (blk U.out hb)
          replace Y := Lib.hid (blk Y.out hb)
          replace T := Lib.hid (blk T.out hb)
          replace K := kept_hid K hb
          replace OT := Lib.hid (OT.out.below hb)
          clear hb
          have HLN := Lib.hid (show st.cs.length < 1000000000 from by rw [HPR.out.2.2]; have := HL.out; omega)
          obtain ⟨d0, d1, d2, d3, d4⟩ := cells5o Y.out
          have hcs : (cmd = 242 ∨ cmd = 246) ∨ cmd = 245 ∨ (cmd = 241 ∨ cmd = 111) := by have := HKN.out; omega
          rcases hcs with hc | hc | hc
          · have hst := (HSAME.out hc).symm
            subst hst
            have HSM := Lib.hid (rsame_any s.rows s.cols s.cur s.lk s.ins va s.cs.length vc ad s.cs.length k s.cs s.cs w8 OT.out (HI.out.below K.out) HLN.out)
            rw [decide_eq_true rfl] at HSM
            obtain ⟨c0, c1, c2, c3, c4, c5⟩ := cells6 T.out
            obtain ⟨e0, e1, e2, e3, e4, e5⟩ := cells6 X.out
            clear HSAME HER HPR HDR HKN
            rcases hc with rfl | rfl
            all_goals
              go_wp2_with fail
              with_reducible refine HSM.out.mono ?_
              rintro e wb ⟨rfl, hb⟩
              replace K := kept_hid K hb
              clear hb
              go_wp2_with fail
              go_ret
              exact ⟨rfl, K.out⟩
          · subst hc
            obtain ⟨c0, c1, c2, c3, c4, c5⟩ := cells6 U.out
            obtain ⟨e0, e1, e2, e3, e4, e5⟩ := cells6 X.out
            by_cases h1 : u.rows = s.rows
            · by_cases h2 : u.cols = s.cols
              · have hu1 : (u.rows != s.rows) = false := by simp [h1]
                have hu2 : (u.cols != s.cols) = false := by simp [h2]
                have h3 : u.cs.length = s.cs.length := by
                  obtain ⟨_, g1, _⟩ := sright_parts HR.out
                  obtain ⟨_, g2, _⟩ := sright_parts HRU.out
                  rw [h1, h2] at g2
                  omega
                have HCU := Lib.hid (show (Str.cwrite ⟨245, fa, fu, fr, os⟩ (withL u s.lk s.ins).cs.length).2.1 = 0 from by
                  show (Str.cwrite ⟨245, fa, fu, fr, os⟩ u.cs.length).2.1 = 0
                  rw [h3]; exact HCW.out)
                have HEQ := Lib.hid (HER.out rfl h1 h2)
                clear h1 h2 h3 HER HSAME HKN
                obtain ⟨f0, f1, f2, f3, f4, f5⟩ := free6 U.out
                have SO := gsetCell w8 (w.heap.size + 1) 4 (.bool s.lk)
                have U9 := Lib.hid (heap_setCell_same w8 (w.heap.size + 1) 4 _ 24 (.bool s.lk) U.out)
                have X9 := Lib.hid (blk_g X.out SO (by intro e; injection e with e; omega))
                have Y9 := Lib.hid (blk_g Y.out SO (by intro e; injection e with e; omega))
                have T9 := Lib.hid (blk_g T.out SO (by intro e; injection e with e; have := HBB.out; omega))
                have OT9 := Lib.hid (celsIn_away OT.out SO (fun y hy => (not_screen OT.out (by rw [HPR.out.2.2]; exact HP.out) U.out y hy).1))
                have K9 := Lib.hid (below_grown K.out SO (by omega))
                clear SO
                obtain ⟨c0', c1', c2', c3', c4', c5'⟩ := cells6 U9.out
                obtain ⟨f0', f1', f2', f3', f4', f5'⟩ := free6 U9.out
                obtain ⟨e0', e1', e2', e3', e4', e5'⟩ := cells6 X9.out
                have SO := gsetCell (w8.setCell ⟨w.heap.size + 1, 4, none⟩ (.bool s.lk)) (w.heap.size + 1) 5 (.bool s.ins)
                have UA := Lib.hid (heap_setCell_same (w8.setCell ⟨w.heap.size + 1, 4, none⟩ (.bool s.lk)) (w.heap.size + 1) 5 _ 24 (.bool s.ins) U9.out)
                have XA := Lib.hid (blk_g X9.out SO (by intro e; injection e with e; omega))
                have YA := Lib.hid (blk_g Y9.out SO (by intro e; injection e with e; omega))
                have TA := Lib.hid (blk_g T9.out SO (by intro e; injection e with e; have := HBB.out; omega))
                have OTA := Lib.hid (celsIn_away OT9.out SO (fun y hy => (not_screen OT9.out (by rw [HPR.out.2.2]; exact HP.out) U9.out y hy).1))
                have KA := Lib.hid (below_grown K9.out SO (by omega))
                clear SO X U Y T OT K U9 X9 Y9 T9 OT9 K9
                go_upto_region 14 with (fail)
                clear c0 c1 c2 c3 c4 c5 d0 d1 d2 d3 d4 e0 e1 e2 e3 e4 e5 f0 f1 f2 f3 f4 f5 c0' c1' c2' c3' c4' c5' f0' f1' f2' f3' f4' f5' e0' e1' e2' e3' e4' e5' hu1 hu2
                generalize (w8.setCell _ _).setCell _ _ = wa at *
                have HDV := Lib.hid (do_ok (withL u s.lk s.ins) adu ku ⟨245, fa, fu, fr, os⟩ al os.length cl wa (HIU.out.below KA.out) (by have := HRU.out; exact this) HU8.out HLTU.out (HO.out.below KA.out) HSD.out (by have := HOL.out; simp only; omega) HCU.out)
                rw [HEQ.out] at HDV
                simp only [GaveS, withL] at HDV
                obtain ⟨c0, c1, c2, c3, c4, c5⟩ := cells6 UA.out
                obtain ⟨d0, d1, d2, d3, d4⟩ := cells5o YA.out
                go_wp2_with fail
                with_reducible refine HDV.out.mono ?_
                rintro e wb ⟨va2, vc2, rfl, ho, hb⟩
                clear c0 c1 c2 c3 c4 c5 d0 d1 d2 d3 d4 HDV
                have HA := al_any wb (.cells #[.int .i64 st.rows, .int .i64 st.cols, .slice va2 st.cs.length vc2, .int .i64 st.cur, .bool st.lk, .bool st.ins] 24)
                have VB := Lib.hid (heap_alloc_new wb (.cells #[.int .i64 st.rows, .int .i64 st.cols, .slice va2 st.cs.length vc2, .int .i64 st.cur, .bool st.lk, .bool st.ins] 24))
                replace hb := kept_trans hb HA
                have TC := Lib.hid (blk TA.out hb)
                have KC := kept_hid KA hb
                have OTC := Lib.hid (OTA.out.below hb)
                have OVC := Lib.hid ((OwnCels.below ho HA).to)
                clear HA ho hb TA KA OTA XA UA YA
                go_upto_region 15 with (fail)
                generalize wb.heap.size = B2 at *
                generalize wb.alloc _ = wc at *
                have HSM := Lib.hid (rsame_any st.rows st.cols st.cur st.lk st.ins va2 st.cs.length vc2 va st.cs.length vc st.cs st.cs wc OVC.out OTC.out HLN.out)
                rw [decide_eq_true rfl] at HSM
                obtain ⟨c0, c1, c2, c3, c4, c5⟩ := cells6 TC.out
                obtain ⟨e0, e1, e2, e3, e4, e5⟩ := cells6 VB.out
                go_wp2_with fail
                with_reducible refine HSM.out.mono ?_
                rintro e wd ⟨rfl, hb⟩
                replace KC := kept_hid KC hb
                clear hb
                go_wp2_with fail
                go_ret
                exact ⟨rfl, KC.out⟩
              · have hu1 : (u.rows != s.rows) = false := by simp [h1]
                have hu2 : (u.cols != s.cols) = true := by simp; exact h2
                clear h1 h2 HER HSAME HKN
                go_wp2_with fail
                go_ret
                exact ⟨rfl, K.out⟩
            · have hu1 : (u.rows != s.rows) = true := by simp; exact h1
              clear h1 HER HSAME HKN
              go_wp2_with fail
              go_ret
              exact ⟨rfl, K.out⟩
          · clear HER HSAME HKN
            rcases hc with rfl | rfl
            all_goals
              go_wp2_with fail
              go_ret
              exact ⟨rfl, K.out⟩
        · have HCW := Lib.hid hcw
          clear hcw
          go_enter Tryd.func5, Tryd.ntmps5
          go_upto_region 1 with (fail)
          generalize ((w.alloc _).alloc _).alloc _ = w1 at *
          have K := Lib.hid HB.out
          go_wp2_with fail
          with_reducible refine (HAW.out _ K.out).mono ?_
          rintro e w2 ⟨rfl, hb⟩
          replace X := Lib.hid (blk X.out hb)
          replace U := Lib.hid (blk U.out hb)
          replace Y := Lib.hid (blk Y.out hb)
          replace K := kept_hid K hb
          clear hb
          obtain ⟨c0, c1, c2, c3, c4, c5⟩ := cells6 X.out
          go_wp2_with fail
          with_reducible refine (HF1.out _ K.out).mono ?_
          rintro e w3 ⟨rfl, hb⟩
          clear c0 c1 c2 c3 c4 c5
          replace X := Lib.hid (blk X.out hb)
          replace U := Lib.hid (blk U.out hb)
          replace Y := Lib.hid (blk Y.out hb)
          replace K := kept_hid K hb
          clear hb
          obtain ⟨c0, c1, c2, c3, c4, c5⟩ := cells6 U.out
          go_wp2_with fail
          with_reducible refine (HF2.out _ K.out).mono ?_
          rintro e w4 ⟨rfl, hb⟩
          clear c0 c1 c2 c3 c4 c5
          replace X := Lib.hid (blk X.out hb)
          replace U := Lib.hid (blk U.out hb)
          replace Y := Lib.hid (blk Y.out hb)
          replace K := kept_hid K hb
          clear hb
          obtain ⟨c0, c1, c2, c3, c4⟩ := cells5o Y.out
          go_wp2_with fail
          with_reducible refine (HF3.out _ K.out).mono ?_
          rintro e w5 ⟨rfl, hb⟩
          clear c0 c1 c2 c3 c4
          replace X := Lib.hid (blk X.out hb)
          replace U := Lib.hid (blk U.out hb)
          replace Y := Lib.hid (blk Y.out hb)
          replace K := kept_hid K hb
          clear hb
          have HDO := Lib.hid (do_no s ad k ⟨cmd, fa, fu, fr, os⟩ al os.length cl w5 (HI.out.below K.out) HR.out H8.out HLT.out (HO.out.below K.out) HSD.out (by have := HOL.out; simp only; omega) HCW.out)
          simp only [RefusedS] at HDO
          obtain ⟨c0, c1, c2, c3, c4, c5⟩ := cells6 X.out
          obtain ⟨d0, d1, d2, d3, d4⟩ := cells5o Y.out
          go_wp2_with fail
          with_reducible refine HDO.out.mono ?_
          rintro e w6 ⟨va, vc, ev, rfl, hci, htd, hb⟩
          clear c0 c1 c2 c3 c4 c5 d0 d1 d2 d3 d4 HDO
          have HA := al_any w6 (.cells #[.int .i64 s.rows, .int .i64 s.cols, .slice va s.cs.length vc, .int .i64 s.cur, .bool s.lk, .bool s.ins] 24)
          have T := Lib.hid (heap_alloc_new w6 (.cells #[.int .i64 s.rows, .int .i64 s.cols, .slice va s.cs.length vc, .int .i64 s.cur, .bool s.lk, .bool s.ins] 24))
          replace hb := kept_trans hb HA
          replace X := Lib.hid (blk X.out hb)
          replace K := kept_hid K hb
          have OT := Lib.hid (hci.below HA)
          clear HA hci hb U Y
          go_upto_region 4 with (fail)
          generalize w6.heap.size = B at *
          generalize w6.alloc _ = w7 at *
          have HSM := Lib.hid (rsame_any s.rows s.cols s.cur s.lk s.ins va s.cs.length vc ad s.cs.length k s.cs s.cs w7 OT.out (HI.out.below K.out) (by have := HL.out; omega))
          rw [decide_eq_true rfl] at HSM
          obtain ⟨c0, c1, c2, c3, c4, c5⟩ := cells6 T.out
          obtain ⟨e0, e1, e2, e3, e4, e5⟩ := cells6 X.out
          have HIN := HCW.out
          clear HCW
          rcases htd with ⟨_, h1, _⟩ | ⟨rfl, _⟩ | ⟨_, _, rfl, _⟩
          · exact absurd h1 (by omega)
          all_goals
            clear HIN
            go_wp2_with fail
            with_reducible refine HSM.out.mono ?_
            rintro e wb ⟨rfl, hb⟩
            replace K := kept_hid K hb
            clear hb
            go_wp2_with fail
            go_ret
            exact ⟨rfl, K.out⟩
end Hst
end Go.Proofs.YtkobodoejpioeaaDoor
