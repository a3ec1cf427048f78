/- The law GridPuts. -/
import Derived.Test.YtilabepmmebkcaaDoorGrdAwake
import Derived.Test.YtilabepmmebkcaaDoorGrdFew
import Derived.Test.YtilabepmmebkcaaDoorGrdRsame
import Derived.Test.YtilabepmmebkcaaDoorGrdPut
import Derived.Test.YtilabepmmebkcaaDoorOpnScr
import Derived.Test.YtilabepmmebkcaaDoorBunErr
namespace Go.Proofs.YtilabepmmebkcaaDoor
open Go.RowKit Sha Six Apd Cut Err Att
set_option linter.unusedVariables false
namespace Grd
set_option maxRecDepth 100000 in
set_option maxHeartbeats 8000000 in
theorem puts_any (s : S) (ad : Option Addr) (k : Nat) (a : Int) (o : C) (w : World) (h : CelsIn w (.slice ad s.cs.length k) s.cs) (hwf : Opn.Wf s.cs) (hm : s.cs.length ≤ maxLen) (wa : (Lit.int .i64 a).wf = true) (hc : o.c < 256) (hs : IntKind.i64.wrap o.s = o.s) (hg : Handle w) :
    Calls Tryd.prog 4 #[.agg #[.int .i64 s.rows, .int .i64 s.cols, .slice ad s.cs.length k, .int .i64 s.cur, .bool s.lk, .bool s.ins], .int .i64 a, .agg #[.bool o.f, .bool o.p, .bool o.n, .int .i64 o.s, .bool o.m, .int .u8 (o.c : Int)]] w fun e w' => e = .returned (.bool true) ∧ Below w.heap.size w w' := by
  have HAW := Lib.hid fun W => awake_any W
  have HH := Lib.hid hg
  have HB := Lib.hid (kept_trans (al_any w (.cells #[.int .i64 s.rows, .int .i64 s.cols, .slice ad s.cs.length k, .int .i64 s.cur, .bool s.lk, .bool s.ins] 24)) (al_any _ (.cells #[.bool o.f, .bool o.p, .bool o.n, .int .i64 o.s, .bool o.m, .int .u8 (o.c : Int)] 36)))
  have HX := Lib.hid (heap_alloc2_old w (.cells #[.int .i64 s.rows, .int .i64 s.cols, .slice ad s.cs.length k, .int .i64 s.cur, .bool s.lk, .bool s.ins] 24) (.cells #[.bool o.f, .bool o.p, .bool o.n, .int .i64 o.s, .bool o.m, .int .u8 (o.c : Int)] 36))
  have HY := Lib.hid (heap_alloc2_new w (.cells #[.int .i64 s.rows, .int .i64 s.cols, .slice ad s.cs.length k, .int .i64 s.cur, .bool s.lk, .bool s.ins] 24) (.cells #[.bool o.f, .bool o.p, .bool o.n, .int .i64 o.s, .bool o.m, .int .u8 (o.c : Int)] 36))
  have HI := Lib.hid (h.below HB.out)
  have HF := Lib.hid fun W hb => rfew_any s ad k W (HI.out.below hb) (wf_sound hwf)
  have HC := Lib.hid hc
  clear h hwf hm wa hg hc hs
  cases hf : few s with
  | false =>
    rw [hf] at HF
    go_enter Tryd.func4, Tryd.ntmps4
    go_upto_region 1 with (fail)
    generalize (w.alloc _).alloc _ = w1 at *
    go_wp2_with fail
    with_reducible refine (HAW.out _).mono ?_
    rintro e w2 ⟨rfl, hb⟩
    have K2 := Lib.hid hb
    obtain ⟨c0, c1, c2, c3, c4, c5⟩ := cells6 (blk HX.out hb)
    clear hb
    go_wp2_with fail
    with_reducible refine (HF.out _ K2.out).mono ?_
    rintro e w3 ⟨rfl, hb⟩
    have K3 := kept_hid HB (kept_trans K2.out hb)
    clear hb c0 c1 c2 c3 c4 c5
    go_wp2_with fail
    with_reducible refine (HAW.out _).mono ?_
    rintro e w4 ⟨rfl, hb⟩
    have K4 := kept_hid K3 hb
    clear hb
    go_wp2_with fail
    go_ret
    exact ⟨rfl, K4.out⟩
  | true =>
    rw [hf] at HF
    obtain ⟨q1, q2, _⟩ := few_parts hf
    have HL := Lib.hid q1
    have HLC := Lib.hid (show s.cs.length < 100000000 by omega)
    clear hf q1 q2
    by_cases hn : a < 0
    · have hhas := Lib.hid (show (decide (0 ≤ a) && decide (a < (s.cs.length : Int))) = false by
        rw [Bool.and_eq_false_iff, decide_eq_false_iff_not]; omega)
      go_enter Tryd.func4, Tryd.ntmps4
      go_upto_region 1 with (fail)
      generalize (w.alloc _).alloc _ = w1 at *
      go_wp2_with fail
      with_reducible refine (HAW.out _).mono ?_
      rintro e w2 ⟨rfl, hb⟩
      have K2 := Lib.hid hb
      obtain ⟨c0, c1, c2, c3, c4, c5⟩ := cells6 (blk HX.out hb)
      clear hb
      go_wp2_with fail
      with_reducible refine (HF.out _ K2.out).mono ?_
      rintro e w3 ⟨rfl, hb⟩
      have K3 := kept_hid HB (kept_trans K2.out hb)
      have X3 := Lib.hid (blk HX.out (kept_trans K2.out hb))
      have Y3 := Lib.hid (blk HY.out (kept_trans K2.out hb))
      have I3 := Lib.hid (HI.out.below (kept_trans K2.out hb))
      clear hb c0 c1 c2 c3 c4 c5 HAW HF HX HY HB HI K2
      obtain ⟨c0, c1, c2, c3, c4, c5⟩ := cells6 X3.out
      obtain ⟨d0, d1, d2, d3, d4, d5⟩ := cells6 Y3.out
      have HP := Lib.hid (put_addr s ad k a o.f o.p o.n o.s o.m o.c w3 I3.out HLC.out hhas.out)
      go_wp2_with fail
      with_reducible refine HP.out.mono ?_
      rintro e w4 ⟨va, vc, rfl, ho, hb⟩
      have HA := al_any w4 (.cells #[.int .i64 s.rows, .int .i64 s.cols, .slice va s.cs.length vc, .int .i64 s.cur, .bool s.lk, .bool s.ins] 24)
      have HT := Lib.hid (heap_alloc_new w4 (.cells #[.int .i64 s.rows, .int .i64 s.cols, .slice va s.cs.length vc, .int .i64 s.cur, .bool s.lk, .bool s.ins] 24))
      have K5 := kept_hid K3 (kept_trans hb HA)
      have X5 := Lib.hid (blk X3.out (kept_trans hb HA))
      have Y5 := Lib.hid (blk Y3.out (kept_trans hb HA))
      have I5 := Lib.hid (I3.out.below (kept_trans hb HA))
      have T5 := Lib.hid (ho.to.below HA)
      clear hb HA HP ho K3 X3 Y3 I3 c0 c1 c2 c3 c4 c5 d0 d1 d2 d3 d4 d5
      go_upto_region 4 with (fail)
      generalize w4.heap.size = L at *
      generalize w4.alloc _ = w5 at *
      obtain ⟨c0, c1, c2, c3, c4, c5⟩ := cells6 X5.out
      obtain ⟨d0, d1, d2, d3, d4, d5⟩ := cells6 Y5.out
      have H5 := Lib.hid (hand_of HH.out K5.out)
      go_wp2_with fail
      with_reducible refine (code_errno 4 _ H5.out).mono ?_
      rintro e w6 ⟨rfl, hb⟩
      have K6 := kept_hid K5 hb
      have HS := Lib.hid (rsame_any s.rows s.cols s.cur s.lk s.ins va s.cs.length vc ad s.cs.length k s.cs s.cs w6 (T5.out.below hb) (I5.out.below hb) (by have := HL.out; omega))
      obtain ⟨c0, c1, c2, c3, c4, c5⟩ := cells6 (blk X5.out hb)
      obtain ⟨d0, d1, d2, d3, d4, d5⟩ := cells6 (blk HT.out hb)
      clear hb K5
      go_wp2_with fail
      with_reducible refine HS.out.mono ?_
      rintro e w7 ⟨rfl, hb⟩
      have K7 := kept_hid K6 hb
      clear hb HS c0 c1 c2 c3 c4 c5 d0 d1 d2 d3 d4 d5
      go_wp2_with fail
      go_ret
      exact ⟨by simp, K7.out⟩
    · by_cases hl : a < (s.cs.length : Int)
      · obtain ⟨i, rfl⟩ := Int.eq_ofNat_of_zero_le (show 0 ≤ a by omega)
        have hhas := Lib.hid (show (decide (0 ≤ (i : Int)) && decide ((i : Int) < (s.cs.length : Int))) = true by simp; omega)
        have hge : ¬ ((s.cs.length : Int) ≤ (i : Int)) := by omega
        have hge2 : decide (s.cs.length ≤ i) = false := by simp; omega
        cases hcr : cright ⟨o.f, o.p, o.n, o.s, o.m, o.c⟩ with
        | false =>
          have HCR := Lib.hid hcr
          have HRC := Lib.hid fun W => rcell_any o.f o.p o.n o.s o.m o.c W HC.out
          rw [hcr] at HRC
          clear hcr
          go_enter Tryd.func4, Tryd.ntmps4
          go_upto_region 1 with (fail)
          generalize (w.alloc _).alloc _ = w1 at *
          go_wp2_with fail
          with_reducible refine (HAW.out _).mono ?_
          rintro e w2 ⟨rfl, hb⟩
          have K2 := Lib.hid hb
          obtain ⟨c0, c1, c2, c3, c4, c5⟩ := cells6 (blk HX.out hb)
          clear hb
          go_wp2_with fail
          with_reducible refine (HF.out _ K2.out).mono ?_
          rintro e w3 ⟨rfl, hb⟩
          have K3 := kept_hid HB (kept_trans K2.out hb)
          have X3 := Lib.hid (blk HX.out (kept_trans K2.out hb))
          have Y3 := Lib.hid (blk HY.out (kept_trans K2.out hb))
          have I3 := Lib.hid (HI.out.below (kept_trans K2.out hb))
          clear hb c0 c1 c2 c3 c4 c5 HAW HF HX HY HB HI K2
          obtain ⟨c0, c1, c2, c3, c4, c5⟩ := cells6 X3.out
          obtain ⟨d0, d1, d2, d3, d4, d5⟩ := cells6 Y3.out
          have HP := Lib.hid (put_arg s ad k (i : Int) o.f o.p o.n o.s o.m o.c w3 I3.out HLC.out hhas.out HC.out HCR.out)
          go_wp2_with fail
          with_reducible refine HP.out.mono ?_
          rintro e w4 ⟨va, vc, rfl, ho, hb⟩
          have HA := al_any w4 (.cells #[.int .i64 s.rows, .int .i64 s.cols, .slice va s.cs.length vc, .int .i64 s.cur, .bool s.lk, .bool s.ins] 24)
          have HT := Lib.hid (heap_alloc_new w4 (.cells #[.int .i64 s.rows, .int .i64 s.cols, .slice va s.cs.length vc, .int .i64 s.cur, .bool s.lk, .bool s.ins] 24))
          have K5 := kept_hid K3 (kept_trans hb HA)
          have X5 := Lib.hid (blk X3.out (kept_trans hb HA))
          have Y5 := Lib.hid (blk Y3.out (kept_trans hb HA))
          have I5 := Lib.hid (I3.out.below (kept_trans hb HA))
          have T5 := Lib.hid (ho.to.below HA)
          clear hb HA HP ho K3 X3 Y3 I3 c0 c1 c2 c3 c4 c5 d0 d1 d2 d3 d4 d5
          go_upto_region 4 with (fail)
          generalize w4.heap.size = L at *
          generalize w4.alloc _ = w5 at *
          obtain ⟨c0, c1, c2, c3, c4, c5⟩ := cells6 X5.out
          obtain ⟨d0, d1, d2, d3, d4, d5⟩ := cells6 Y5.out
          go_wp2_with fail
          with_reducible refine (HRC.out _).mono ?_
          rintro e w6 ⟨rfl, hb⟩
          have K6 := kept_hid K5 hb
          have X6 := Lib.hid (blk X5.out hb)
          have I6 := Lib.hid (I5.out.below hb)
          have T6 := Lib.hid (T5.out.below hb)
          have HT6 := Lib.hid (blk HT.out hb)
          have H6 := Lib.hid (hand_of HH.out K6.out)
          clear hb K5 X5 Y5 I5 T5 HT c0 c1 c2 c3 c4 c5 d0 d1 d2 d3 d4 d5
          go_wp2_with fail
          with_reducible refine (code_errno 1 _ H6.out).mono ?_
          rintro e w7 ⟨rfl, hb⟩
          have K7 := kept_hid K6 hb
          have HS := Lib.hid (rsame_any s.rows s.cols s.cur s.lk s.ins va s.cs.length vc ad s.cs.length k s.cs s.cs w7 (T6.out.below hb) (I6.out.below hb) (by have := HL.out; omega))
          obtain ⟨c0, c1, c2, c3, c4, c5⟩ := cells6 (blk X6.out hb)
          obtain ⟨d0, d1, d2, d3, d4, d5⟩ := cells6 (blk HT6.out hb)
          clear hb K6
          go_wp2_with fail
          with_reducible refine HS.out.mono ?_
          rintro e w8 ⟨rfl, hb⟩
          have K8 := kept_hid K7 hb
          clear hb HS c0 c1 c2 c3 c4 c5 d0 d1 d2 d3 d4 d5
          go_wp2_with fail
          go_ret
          exact ⟨by simp, K8.out⟩
        | true =>
          have HCR := Lib.hid hcr
          have HRC := Lib.hid fun W => rcell_any o.f o.p o.n o.s o.m o.c W HC.out
          rw [hcr] at HRC
          have HIL := Lib.hid (show i < s.cs.length by omega)
          clear hcr
          go_enter Tryd.func4, Tryd.ntmps4
          go_upto_region 1 with (fail)
          generalize (w.alloc _).alloc _ = w1 at *
          go_wp2_with fail
          with_reducible refine (HAW.out _).mono ?_
          rintro e w2 ⟨rfl, hb⟩
          have K2 := Lib.hid hb
          obtain ⟨c0, c1, c2, c3, c4, c5⟩ := cells6 (blk HX.out hb)
          clear hb
          go_wp2_with fail
          with_reducible refine (HF.out _ K2.out).mono ?_
          rintro e w3 ⟨rfl, hb⟩
          have K3 := kept_hid HB (kept_trans K2.out hb)
          have X3 := Lib.hid (blk HX.out (kept_trans K2.out hb))
          have Y3 := Lib.hid (blk HY.out (kept_trans K2.out hb))
          have I3 := Lib.hid (HI.out.below (kept_trans K2.out hb))
          clear hb c0 c1 c2 c3 c4 c5 HAW HF HX HY HB HI K2
          obtain ⟨c0, c1, c2, c3, c4, c5⟩ := cells6 X3.out
          obtain ⟨d0, d1, d2, d3, d4, d5⟩ := cells6 Y3.out
          have HP := Lib.hid (put_ok s ad k i o.f o.p o.n o.s o.m o.c w3 I3.out HLC.out hhas.out HC.out HCR.out)
          go_wp2_with fail
          with_reducible refine HP.out.mono ?_
          rintro e w4 ⟨va, vc, rfl, ho, hb⟩
          have HA := al_any w4 (.cells #[.int .i64 s.rows, .int .i64 s.cols, .slice va s.cs.length vc, .int .i64 s.cur, .bool s.lk, .bool s.ins] 24)
          have HT := Lib.hid (heap_alloc_new w4 (.cells #[.int .i64 s.rows, .int .i64 s.cols, .slice va s.cs.length vc, .int .i64 s.cur, .bool s.lk, .bool s.ins] 24))
          have K5 := kept_hid K3 (kept_trans hb HA)
          have X5 := Lib.hid (blk X3.out (kept_trans hb HA))
          have Y5 := Lib.hid (blk Y3.out (kept_trans hb HA))
          have I5 := Lib.hid (I3.out.below (kept_trans hb HA))
          have T5 := Lib.hid (ho.to.below HA)
          clear hb HA HP ho K3 X3 Y3 I3 c0 c1 c2 c3 c4 c5 d0 d1 d2 d3 d4 d5
          go_upto_region 4 with (fail)
          generalize w4.heap.size = L at *
          generalize w4.alloc _ = w5 at *
          obtain ⟨c0, c1, c2, c3, c4, c5⟩ := cells6 X5.out
          obtain ⟨d0, d1, d2, d3, d4, d5⟩ := cells6 Y5.out
          go_wp2_with fail
          with_reducible refine (HRC.out _).mono ?_
          rintro e w6 ⟨rfl, hb⟩
          have K6 := kept_hid K5 hb
          have X6 := Lib.hid (blk X5.out hb)
          have Y6 := Lib.hid (blk Y5.out hb)
          have I6 := Lib.hid (I5.out.below hb)
          have T6 := Lib.hid (T5.out.below hb)
          have HT6 := Lib.hid (blk HT.out hb)
          clear hb K5 X5 Y5 I5 T5 HT c0 c1 c2 c3 c4 c5 d0 d1 d2 d3 d4 d5
          have HRP := Lib.hid (rcopy_any s ad k w6 I6.out HLC.out)
          obtain ⟨c0, c1, c2, c3, c4, c5⟩ := cells6 X6.out
          go_wp2_with fail
          with_reducible refine HRP.out.mono ?_
          rintro e w7 ⟨vb, vd, rfl, ho, hb⟩
          have HA := al_any w7 (.cells #[.int .i64 s.rows, .int .i64 s.cols, .slice vb s.cs.length vd, .int .i64 s.cur, .bool s.lk, .bool s.ins] 24)
          have HW := Lib.hid (heap_alloc_new w7 (.cells #[.int .i64 s.rows, .int .i64 s.cols, .slice vb s.cs.length vd, .int .i64 s.cur, .bool s.lk, .bool s.ins] 24))
          have K8 := Lib.hid (kept_trans hb HA)
          have Y8 := Lib.hid (blk Y6.out (kept_trans hb HA))
          have O8 := Lib.hid (OwnCels.below ho HA)
          obtain ⟨g, vd', hv, hg6, hgl, _⟩ := OwnCels.at ho (by have := HIL.out; omega)
          injection hv with e1 e2 e3
          subst e1
          subst e3
          clear e2
          have HG := Lib.hid hg6
          have HGL := Lib.hid hgl
          clear hb HA HRP ho X6 Y6 I6 hg6 hgl c0 c1 c2 c3 c4 c5
          go_upto_region 9 with (fail)
          generalize w7.heap.size = L2 at *
          generalize w7.alloc _ = w8 at *
          obtain ⟨yf, yp, yn, ys, ym, yc, ey⟩ := c_eta (s.cs.getD i noC)
          obtain ⟨⟨p0, p1, p2, p3, p4, p5⟩, fz⟩ := OwnCels.spot O8.out HIL.out ey
          obtain ⟨q0, q1, q2, q3, q4, q5⟩ : w8.frozen? ⟨g, i * 6, none⟩ = false ∧ w8.frozen? ⟨g, i * 6 + 1, none⟩ = false ∧ w8.frozen? ⟨g, i * 6 + 2, none⟩ = false ∧ w8.frozen? ⟨g, i * 6 + 3, none⟩ = false ∧ w8.frozen? ⟨g, i * 6 + 4, none⟩ = false ∧ w8.frozen? ⟨g, i * 6 + 5, none⟩ = false := ⟨fz _, fz _, fz _, fz _, fz _, fz _⟩
          have SO := OwnCels.set O8.out HIL.out ⟨o.f, o.p, o.n, o.s, o.m, o.c⟩
          have O9 := Lib.hid SO.1.to
          have HG9 := Lib.hid SO.2
          have HW9 := Lib.hid (blk_g HW.out SO.2 (by intro e; injection e with e; have := HGL.out; omega))
          have K9 := Lib.hid (below_grown K8.out SO.2 HG.out)
          clear SO O8 fz ey
          obtain ⟨c0, c1, c2, c3, c4, c5⟩ := cells6 HW.out
          obtain ⟨d0, d1, d2, d3, d4, d5⟩ := cells6 Y8.out
          have hi0 : (0 : Int) ≤ (i : Int) := by omega
          have hi1 : (i : Int) < (s.cs.length : Int) := hl
          go_upto_region 10 with (fail)
          clear c0 c1 c2 c3 c4 c5 d0 d1 d2 d3 d4 d5 p0 p1 p2 p3 p4 p5 q0 q1 q2 q3 q4 q5
          generalize (((((w8.setCell _ _).setCell _ _).setCell _ _).setCell _ _).setCell _ _).setCell _ _ = w9 at *
          have KF := kept_hid K6 K9.out
          have HS := Lib.hid (rsame_any s.rows s.cols s.cur s.lk s.ins va s.cs.length vc (some ⟨g, 0, none⟩) s.cs.length vd (s.cs.set i ⟨o.f, o.p, o.n, o.s, o.m, o.c⟩) (s.cs.set i ⟨o.f, o.p, o.n, o.s, o.m, o.c⟩) w9 (T6.out.below K9.out) O9.out (by rw [List.length_set]; have := HL.out; omega))
          obtain ⟨c0, c1, c2, c3, c4, c5⟩ := cells6 (blk HT6.out K9.out)
          obtain ⟨d0, d1, d2, d3, d4, d5⟩ := cells6 HW9.out
          clear T6 HT6 K6 O9 HG9 HW9 HW K8 K9 Y8
          go_wp2_with fail
          with_reducible refine HS.out.mono ?_
          rintro e w10 ⟨rfl, hb⟩
          have KZ := kept_hid KF hb
          clear hb HS KF c0 c1 c2 c3 c4 c5 d0 d1 d2 d3 d4 d5
          go_wp2_with fail
          go_ret
          exact ⟨by simp, KZ.out⟩
      · have hhas := Lib.hid (show (decide (0 ≤ a) && decide (a < (s.cs.length : Int))) = false by
          rw [Bool.and_eq_false_iff, decide_eq_false_iff_not, decide_eq_false_iff_not]; omega)
        have hge : (s.cs.length : Int) ≤ a := by omega
        go_enter Tryd.func4, Tryd.ntmps4
        go_upto_region 1 with (fail)
        generalize (w.alloc _).alloc _ = w1 at *
        go_wp2_with fail
        with_reducible refine (HAW.out _).mono ?_
        rintro e w2 ⟨rfl, hb⟩
        have K2 := Lib.hid hb
        obtain ⟨c0, c1, c2, c3, c4, c5⟩ := cells6 (blk HX.out hb)
        clear hb
        go_wp2_with fail
        with_reducible refine (HF.out _ K2.out).mono ?_
        rintro e w3 ⟨rfl, hb⟩
        have K3 := kept_hid HB (kept_trans K2.out hb)
        have X3 := Lib.hid (blk HX.out (kept_trans K2.out hb))
        have Y3 := Lib.hid (blk HY.out (kept_trans K2.out hb))
        have I3 := Lib.hid (HI.out.below (kept_trans K2.out hb))
        clear hb c0 c1 c2 c3 c4 c5 HAW HF HX HY HB HI K2
        obtain ⟨c0, c1, c2, c3, c4, c5⟩ := cells6 X3.out
        obtain ⟨d0, d1, d2, d3, d4, d5⟩ := cells6 Y3.out
        have HP := Lib.hid (put_addr s ad k a o.f o.p o.n o.s o.m o.c w3 I3.out HLC.out hhas.out)
        go_wp2_with fail
        with_reducible refine HP.out.mono ?_
        rintro e w4 ⟨va, vc, rfl, ho, hb⟩
        have HA := al_any w4 (.cells #[.int .i64 s.rows, .int .i64 s.cols, .slice va s.cs.length vc, .int .i64 s.cur, .bool s.lk, .bool s.ins] 24)
        have HT := Lib.hid (heap_alloc_new w4 (.cells #[.int .i64 s.rows, .int .i64 s.cols, .slice va s.cs.length vc, .int .i64 s.cur, .bool s.lk, .bool s.ins] 24))
        have K5 := kept_hid K3 (kept_trans hb HA)
        have X5 := Lib.hid (blk X3.out (kept_trans hb HA))
        have Y5 := Lib.hid (blk Y3.out (kept_trans hb HA))
        have I5 := Lib.hid (I3.out.below (kept_trans hb HA))
        have T5 := Lib.hid (ho.to.below HA)
        clear hb HA HP ho K3 X3 Y3 I3 c0 c1 c2 c3 c4 c5 d0 d1 d2 d3 d4 d5
        go_upto_region 4 with (fail)
        generalize w4.heap.size = L at *
        generalize w4.alloc _ = w5 at *
        obtain ⟨c0, c1, c2, c3, c4, c5⟩ := cells6 X5.out
        obtain ⟨d0, d1, d2, d3, d4, d5⟩ := cells6 Y5.out
        have H5 := Lib.hid (hand_of HH.out K5.out)
        go_wp2_with fail
        with_reducible refine (code_errno 4 _ H5.out).mono ?_
        rintro e w6 ⟨rfl, hb⟩
        have K6 := kept_hid K5 hb
        have HS := Lib.hid (rsame_any s.rows s.cols s.cur s.lk s.ins va s.cs.length vc ad s.cs.length k s.cs s.cs w6 (T5.out.below hb) (I5.out.below hb) (by have := HL.out; omega))
        obtain ⟨c0, c1, c2, c3, c4, c5⟩ := cells6 (blk X5.out hb)
        obtain ⟨d0, d1, d2, d3, d4, d5⟩ := cells6 (blk HT.out hb)
        clear hb K5
        go_wp2_with fail
        with_reducible refine HS.out.mono ?_
        rintro e w7 ⟨rfl, hb⟩
        have K7 := kept_hid K6 hb
        clear hb HS c0 c1 c2 c3 c4 c5 d0 d1 d2 d3 d4 d5
        go_wp2_with fail
        go_ret
        exact ⟨by simp, K7.out⟩
end Grd
end Go.Proofs.YtilabepmmebkcaaDoor
