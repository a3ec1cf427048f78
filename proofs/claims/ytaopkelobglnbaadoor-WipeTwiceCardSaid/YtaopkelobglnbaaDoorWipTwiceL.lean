/- The law WipeTwice. Written by tools/gen_wip_laws.py. -/
import Derived.Test.YtaopkelobglnbaaDoorWipAwake
import Derived.Test.YtaopkelobglnbaaDoorWipOk
import Derived.Test.YtaopkelobglnbaaDoorBunGrd
import Derived.Test.YtaopkelobglnbaaDoorBunGrd
import Derived.Test.YtaopkelobglnbaaDoorOpnScr
import Derived.Deep.LoopGhost
import Derived.StillTailTactics
import Derived.Deep.Cut
import Derived.Deep.RegionHeld3
namespace Go.Proofs.YtaopkelobglnbaaDoor
open Go.RowKit Sha Six Apd Cut Err Att Grd Fld Scr Edt
set_option linter.unusedVariables false
namespace Wip
set_option maxRecDepth 100000 in
set_option maxHeartbeats 8000000 in
theorem twice_any (s : S) (ad : Option Addr) (k : Nat) (w : World) (h : CelsIn w (.slice ad s.cs.length k) s.cs) (hwf : Opn.Wf s.cs) (hm : s.cs.length ≤ maxLen) (hg : Handle w) :
    Calls Tryd.prog 7 #[.agg #[.int .i64 s.rows, .int .i64 s.cols, .slice ad s.cs.length k, .int .i64 s.cur, .bool s.lk, .bool s.ins]] w fun e w' => e = .returned (.bool true) ∧ Below w.heap.size w w' := by
  have HG := Lib.hid fun W (hb : Below w.heap.size w W) => hand_of hg hb
  have HAW := Lib.hid fun W (hb : Below w.heap.size w W) => awake_any W (hand_of hg hb)
  have HB := Lib.hid (al_any w (.cells #[.int .i64 s.rows, .int .i64 s.cols, .slice ad s.cs.length k, .int .i64 s.cur, .bool s.lk, .bool s.ins] 24))
  have HX := Lib.hid (heap_alloc_new w (.cells #[.int .i64 s.rows, .int .i64 s.cols, .slice ad s.cs.length k, .int .i64 s.cur, .bool s.lk, .bool s.ins] 24))
  have HI := Lib.hid (h.below HB.out)
  have HF := Lib.hid fun W hb => rfew_any s ad k W (HI.out.below hb) (wf_sound hwf)
  have H8 := Lib.hid (wf_sound hwf)
  have HCO := Lib.hid fun W ev (c n : Int) (hb : Below w.heap.size w W) (ht : Err.Told W ev c n) => code_told ev c n W (hand_of hg hb) ht
  clear h hwf hm hg
  cases hf : few s with
  | false =>
    rw [hf] at HF
    go_enter Tryd.func7, Tryd.ntmps7
    go_upto_region 1 with (fail)
    generalize w.alloc _ = w1 at *
    go_wp2_with fail
    with_reducible refine (HAW.out _ HB.out).mono ?_
    rintro e w2 ⟨rfl, hb⟩
    have K2 := Lib.hid hb
    have X2 := Lib.hid (blk HX.out hb)
    have K2' := kept_hid HB hb
    have I2 := Lib.hid (HI.out.below hb)
    clear hb
    obtain ⟨c0, c1, c2, c3, c4, c5⟩ := cells6 X2.out
    go_wp2_with fail
    with_reducible refine (HF.out _ K2.out).mono ?_
    rintro e w3 ⟨rfl, hb⟩
    have K3 := kept_hid K2' hb
    have X3 := Lib.hid (blk X2.out hb)
    have I3 := Lib.hid (I2.out.below hb)
    clear hb c0 c1 c2 c3 c4 c5 K2 K2' X2 I2 HB HX HI HF
    go_wp2_with fail
    with_reducible refine (HAW.out _ K3.out).mono ?_
    rintro e w4 ⟨rfl, hb⟩
    have KE := kept_hid K3 hb
    clear hb
    go_wp2_with fail
    go_ret
    exact ⟨rfl, KE.out⟩
  | true =>
    rw [hf] at HF
    obtain ⟨q1, q2, q3⟩ := few_parts hf
    have HL := Lib.hid q1
    have HP := Lib.hid q2
    have HR := Lib.hid q3
    have HLT := Lib.hid (show s.cs.length < 10000 from by have := HL.out; omega)
    clear q1 q2 q3 hf
    go_enter Tryd.func7, Tryd.ntmps7
    go_upto_region 1 with (fail)
    generalize w.alloc _ = w1 at *
    go_wp2_with fail
    with_reducible refine (HAW.out _ HB.out).mono ?_
    rintro e w2 ⟨rfl, hb⟩
    have K2 := Lib.hid hb
    have X2 := Lib.hid (blk HX.out hb)
    have K2' := kept_hid HB hb
    have I2 := Lib.hid (HI.out.below hb)
    clear hb
    obtain ⟨c0, c1, c2, c3, c4, c5⟩ := cells6 X2.out
    go_wp2_with fail
    with_reducible refine (HF.out _ K2.out).mono ?_
    rintro e w3 ⟨rfl, hb⟩
    have K3 := kept_hid K2' hb
    have X3 := Lib.hid (blk X2.out hb)
    have I3 := Lib.hid (I2.out.below hb)
    clear hb c0 c1 c2 c3 c4 c5 K2 K2' X2 I2 HB HX HI HF
    clear HAW
    obtain ⟨c0, c1, c2, c3, c4, c5⟩ := cells6 X3.out
    obtain ⟨f0, f1, f2, f3, f4, f5⟩ := free6 X3.out
    have SO := gsetCell w3 w.heap.size 4 (.bool false)
    have X4 := Lib.hid (show (w3.setCell ⟨w.heap.size, 4, none⟩ (.bool false)).heap[w.heap.size]? = some (.cells #[.int .i64 s.rows, .int .i64 s.cols, .slice ad s.cs.length k, .int .i64 s.cur, .bool false, .bool s.ins] 24 (0, 0)) from heap_setCell_same w3 w.heap.size 4 _ 24 (.bool false) X3.out)
    have I4 := Lib.hid (celsIn_away I3.out SO (fun y hy => (not_screen I3.out HP.out X3.out y hy).1))
    have K4 := Lib.hid (below_grown K3.out SO (Nat.le_refl _))
    clear SO X3 I3 K3
    go_upto_region 4 with (fail)
    clear c0 c1 c2 c3 c4 c5 f0 f1 f2 f3 f4 f5
    generalize w3.setCell _ _ = w4 at *
    have Q1 := Lib.hid (all_ok1 s ad k w4 I4.out HR.out HLT.out)
    have Q2 := Lib.hid fun va vc W (h : CelsIn W (.slice va s.cs.length vc) (Hst.hclean s).cs) => all_ok2 s va vc W h HR.out HLT.out
    have HTL := Lib.hid (Hst.hclean_length s)
    generalize (Hst.hclean s).cs = ts at *
    generalize Hst.curOf s.cs = cu at *
    obtain ⟨c0, c1, c2, c3, c4, c5⟩ := cells6 X4.out
    go_wp2_with fail
    with_reducible refine Q1.out.mono ?_
    rintro e w5 ⟨va1, vc1, rfl, ho, hb⟩
    clear c0 c1 c2 c3 c4 c5
    have HA := al_any w5 (.cells #[.int .i64 s.rows, .int .i64 s.cols, .slice va1 s.cs.length vc1, .int .i64 cu, .bool false, .bool s.ins] 24)
    have B1 := Lib.hid (heap_alloc_new w5 (.cells #[.int .i64 s.rows, .int .i64 s.cols, .slice va1 s.cs.length vc1, .int .i64 cu, .bool false, .bool s.ins] 24))
    have C1 := Lib.hid ((OwnCels.below ho HA).to)
    replace hb := kept_trans hb HA
    replace X4 := Lib.hid (blk X4.out hb)
    replace I4 := Lib.hid (I4.out.below hb)
    replace K4 := kept_hid K4 hb
    clear HA ho hb
    go_upto_region 5 with (fail)
    generalize w5.heap.size = N1 at *
    generalize w5.alloc _ = w5b at *
    obtain ⟨c0, c1, c2, c3, c4, c5⟩ := cells6 B1.out
    go_wp2_with fail
    with_reducible refine (Q2.out _ _ _ C1.out).mono ?_
    rintro e w6 ⟨va2, vc2, rfl, ho, hb⟩
    clear c0 c1 c2 c3 c4 c5
    have HA := al_any w6 (.cells #[.int .i64 s.rows, .int .i64 s.cols, .slice va2 s.cs.length vc2, .int .i64 cu, .bool false, .bool s.ins] 24)
    have B2 := Lib.hid (heap_alloc_new w6 (.cells #[.int .i64 s.rows, .int .i64 s.cols, .slice va2 s.cs.length vc2, .int .i64 cu, .bool false, .bool s.ins] 24))
    have C2 := Lib.hid ((OwnCels.below ho HA).to)
    replace hb := kept_trans hb HA
    replace X4 := Lib.hid (blk X4.out hb)
    replace B1 := Lib.hid (blk B1.out hb)
    replace I4 := Lib.hid (I4.out.below hb)
    replace C1 := Lib.hid (C1.out.below hb)
    replace K4 := kept_hid K4 hb
    clear HA ho hb
    go_upto_region 6 with (fail)
    generalize w6.heap.size = N2 at *
    generalize w6.alloc _ = w6b at *
    have HSM := Lib.hid (rsame_any s.rows s.cols cu false s.ins va1 s.cs.length vc1 va2 s.cs.length vc2 ts ts w6b C1.out C2.out (by rw [HTL.out]; have := HL.out; omega))
    rw [decide_eq_true rfl] at HSM
    obtain ⟨c0, c1, c2, c3, c4, c5⟩ := cells6 B1.out
    obtain ⟨d0, d1, d2, d3, d4, d5⟩ := cells6 B2.out
    go_wp2_with fail
    with_reducible refine HSM.out.mono ?_
    rintro e w7 ⟨rfl, hb⟩
    replace X4 := Lib.hid (blk X4.out hb)
    replace I4 := Lib.hid (I4.out.below hb)
    replace K4 := kept_hid K4 hb
    clear hb c0 c1 c2 c3 c4 c5 d0 d1 d2 d3 d4 d5 B1 B2 C1 C2 HSM Q1 Q2 HTL
    obtain ⟨kc, hcur, hcn, hkc⟩ := cur_nat HR.out
    cases hop : open_ s.cs kc with
    | false =>
      have Q3 := do_any (ul s) ad k 13 w7 I4.out (ul_right HR.out) H8.out HLT.out
      rw [wdo_8 (s := ul s) (kind := 13) (by decide) rfl (by decide) (by rw [← hop, ← hcn]; rfl)] at Q3
      simp only [GaveE, deny, ul] at Q3
      replace Q3 := Lib.hid Q3
      clear hcur hcn hkc hop
      obtain ⟨c0, c1, c2, c3, c4, c5⟩ := cells6 X4.out
      go_wp2_with fail
      with_reducible refine Q3.out.mono ?_
      rintro e w8 ⟨va3, vc3, ev3, rfl, hc, ht, hn, hb⟩
      clear c0 c1 c2 c3 c4 c5
      have HA := al_any w8 (.cells #[.int .i64 s.rows, .int .i64 s.cols, .slice va3 s.cs.length vc3, .int .i64 s.cur, .bool true, .bool s.ins] 24)
      have B3 := Lib.hid (heap_alloc_new w8 (.cells #[.int .i64 s.rows, .int .i64 s.cols, .slice va3 s.cs.length vc3, .int .i64 s.cur, .bool true, .bool s.ins] 24))
      have C3 := Lib.hid (hc.below HA)
      have T3 := Lib.hid (Err.Told.below ht HA)
      have E3 := Lib.hid (fun h => (hn h).1)
      replace hb := kept_trans hb HA
      replace X4 := Lib.hid (blk X4.out hb)
      replace I4 := Lib.hid (I4.out.below hb)
      replace K4 := kept_hid K4 hb
      clear HA hc ht hn hb
      go_upto_region 9 with (fail)
      generalize w8.heap.size = N3 at *
      generalize w8.alloc _ = w8b at *
      obtain ⟨et, evv, hev⟩ := told_iface T3.out (by decide)
      subst hev
      go_wp2_with fail
      with_reducible refine (HCO.out _ _ _ _ K4.out T3.out).mono ?_
      rintro e w9 ⟨rfl, hb⟩
      replace K4 := kept_hid K4 hb
      clear hb
      go_wp2_with fail
      go_ret
      exact ⟨rfl, K4.out⟩
    | true =>
      have QD := fun q va vc W (h : CelsIn W (.slice va s.cs.length vc) (dels (ul s) kc q).cs) => del_ok s va vc kc q W h HR.out HLT.out hcur hkc hop
      have QE := fun q va vc W (h : CelsIn W (.slice va s.cs.length vc) (dels (ul s) kc q).cs) => end_ok s va vc kc q W h HR.out HLT.out hcur hkc hop
      have HD0 := Lib.hid (show (dels (ul s) kc 0).cs = s.cs from by unfold dels; rw [if_pos rfl]; rfl)
      have HDL := Lib.hid (fun q => (show (dels (ul s) kc q).cs.length = s.cs.length from dels_length _ _ _))
      have HLN := fun W (h : CelsIn W (.slice ad s.cs.length k) s.cs) => line_any (ul s) ad k kc W h H8.out HLT.out hkc
      rw [show (ul s).cs = s.cs from rfl] at HLN
      simp only [ul, ← hcur] at HLN
      replace HLN := Lib.hid HLN
      have HLL := Lib.hid (line_length s.cs kc)
      have HLB := Lib.hid (lineLen_le hkc)
      obtain ⟨D, hD⟩ : ∃ D : Nat → List C, D = fun q => (dels (ul s) kc q).cs := ⟨_, rfl⟩
      have hDq : ∀ q, (dels (ul s) kc q).cs = D q := fun q => by rw [hD]
      simp only [hDq] at QD QE HD0 HDL
      clear hD hDq
      replace QD := Lib.hid QD
      replace QE := Lib.hid QE
      generalize lineLen s.cs kc = n at *
      clear hcur hcn hop
      replace hkc := Lib.hid hkc
      obtain ⟨c0, c1, c2, c3, c4, c5⟩ := cells6 X4.out
      go_wp2_with fail
      with_reducible refine (QE.out 0 _ _ _ (by rw [HD0.out]; exact I4.out)).mono ?_
      rintro e w8 ⟨va3, vc3, rfl, ho, hb⟩
      clear c0 c1 c2 c3 c4 c5
      have HA := al_any w8 (.cells #[.int .i64 s.rows, .int .i64 s.cols, .slice va3 s.cs.length vc3, .int .i64 s.cur, .bool false, .bool s.ins] 24)
      have B3 := Lib.hid (heap_alloc_new w8 (.cells #[.int .i64 s.rows, .int .i64 s.cols, .slice va3 s.cs.length vc3, .int .i64 s.cur, .bool false, .bool s.ins] 24))
      have C3 := Lib.hid ((OwnCels.below ho HA).to)
      replace hb := kept_trans hb HA
      replace X4 := Lib.hid (blk X4.out hb)
      replace I4 := Lib.hid (I4.out.below hb)
      replace K4 := kept_hid K4 hb
      clear HA ho hb
      go_upto_region 9 with (fail)
      generalize w8.heap.size = N3 at *
      generalize w8.alloc _ = w8b at *
      obtain ⟨c0, c1, c2, c3, c4, c5⟩ := cells6 B3.out
      go_wp2_with fail
      with_reducible refine (QE.out n _ _ _ C3.out).mono ?_
      rintro e w9 ⟨va4, vc4, rfl, ho, hb⟩
      clear c0 c1 c2 c3 c4 c5
      have HA := al_any w9 (.cells #[.int .i64 s.rows, .int .i64 s.cols, .slice va4 s.cs.length vc4, .int .i64 s.cur, .bool false, .bool s.ins] 24)
      have B4 := Lib.hid (heap_alloc_new w9 (.cells #[.int .i64 s.rows, .int .i64 s.cols, .slice va4 s.cs.length vc4, .int .i64 s.cur, .bool false, .bool s.ins] 24))
      have C4 := Lib.hid ((OwnCels.below ho HA).to)
      replace hb := kept_trans hb HA
      replace X4 := Lib.hid (blk X4.out hb)
      replace B3 := Lib.hid (blk B3.out hb)
      replace I4 := Lib.hid (I4.out.below hb)
      replace C3 := Lib.hid (C3.out.below hb)
      replace K4 := kept_hid K4 hb
      clear HA ho hb
      go_upto_region 12 with (fail)
      generalize w9.heap.size = N4 at *
      generalize w9.alloc _ = w9b at *
      obtain ⟨c0, c1, c2, c3, c4, c5⟩ := cells6 X4.out
      have HA := al_any w9b (.cells #[.int .i64 s.rows, .int .i64 s.cols, .slice ad s.cs.length k, .int .i64 s.cur, .bool false, .bool s.ins] 24)
      have T9 := Lib.hid (heap_alloc_new w9b (.cells #[.int .i64 s.rows, .int .i64 s.cols, .slice ad s.cs.length k, .int .i64 s.cur, .bool false, .bool s.ins] 24))
      have KN := Lib.hid HA
      have HXN := Lib.hid (there_lt X4.out)
      go_upto_region 13 with (fail)
      clear c0 c1 c2 c3 c4 c5 HA
      generalize w9b.alloc _ = wa at *
      have XA := Lib.hid (blk X4.out KN.out)
      obtain ⟨c0, c1, c2, c3, c4, c5⟩ := cells6 XA.out
      go_wp2_with fail
      with_reducible refine (HLN.out _ (I4.out.below KN.out)).mono ?_
      rintro e wb ⟨vl, rfl, hvl, hb⟩
      obtain ⟨al, kl, rfl⟩ := hvl.form
      replace T9 := Lib.hid (blk T9.out hb)
      replace KN := kept_hid KN hb
      have C9 := Lib.hid (I4.out.below KN.out)
      clear c0 c1 c2 c3 c4 c5 hvl hb HLN XA
      rw [HLL.out]
      clear HLL
      generalize hN : w9b.heap.size = N5 at *
      replace hN := Lib.hid hN
      go_wp2_with fail
      go_loopg [13] (n + 1) (fun mm ii wr => ∃ q : Nat, q ≤ n ∧ mm = n + 1 - q ∧ ii = .int .i64 q ∧ Hid (Below w9b.heap.size w9b wr) ∧ ∃ va vc, Hid (wr.heap[N5]? = some (.cells #[.int .i64 s.rows, .int .i64 s.cols, .slice va s.cs.length vc, .int .i64 s.cur, .bool false, .bool s.ins] 24 (0, 0))) ∧ Hid (CelsIn wr (.slice va s.cs.length vc) (D q)))
      case atStart => exact ⟨0, Nat.zero_le _, rfl, rfl, by rw [hN.out]; exact KN, ad, k, T9, by rw [HD0.out]; exact C9⟩
      case round =>
        obtain ⟨q, hq, rfl, rfl, KR, va, vc, TR, CR⟩ := hrel
        clear KN T9 C9
        have ew : IntKind.i64.wrap ((q : Int) + 1) = (q : Int) + 1 := by
          have := HLB.out; have := HLT.out
          rw [IntWalk.i64_in] <;> omega
        by_cases hlt : q < n
        · have hlr : (q : Int) < (n : Int) := by omega
          have QX := Lib.hid (QD.out q va vc wr CR.out)
          obtain ⟨d0, d1, d2, d3, d4, d5⟩ := cells6 TR.out
          go_wp2_with fail
          with_reducible refine QX.out.mono ?_
          rintro e wx ⟨vb, vd, rfl, ho, hb⟩
          clear d0 d1 d2 d3 d4 d5 QX
          have HA := al_any wx (.cells #[.int .i64 s.rows, .int .i64 s.cols, .slice vb s.cs.length vd, .int .i64 s.cur, .bool false, .bool s.ins] 24)
          have U2 := Lib.hid (heap_alloc_new wx (.cells #[.int .i64 s.rows, .int .i64 s.cols, .slice vb s.cs.length vd, .int .i64 s.cur, .bool false, .bool s.ins] 24))
          have C2 := Lib.hid ((OwnCels.below ho HA).to)
          replace hb := kept_trans hb HA
          have T2 := Lib.hid (blk TR.out hb)
          have K2 := kept_hid KR hb
          clear HA ho hb TR CR KR
          go_upto_region 20 with (fail)
          generalize wx.heap.size = U at *
          generalize wx.alloc _ = wy at *
          obtain ⟨c0, c1, c2, c3, c4, c5⟩ := cells6 U2.out
          obtain ⟨f0, f1, f2, f3, f4, f5⟩ := free6 T2.out
          obtain ⟨z0, z1, z2, z3, z4, z5⟩ := cells6 T2.out
          have SF := over6 wy N5 24 _ _ _ _ _ _ (.int .i64 s.rows) (.int .i64 s.cols) (.slice vb s.cs.length vd) (.int .i64 s.cur) (.bool false) (.bool s.ins) T2.out
          have T3 := Lib.hid SF.1
          have C3' := Lib.hid (celsIn_away C2.out SF.2 (fun y hy => (not_screen C2.out (by rw [HDL.out]; exact HP.out) T2.out y hy).1))
          have K3' := Lib.hid (below_grown K2.out SF.2 (by have := hN.out; omega))
          clear SF C2 K2
          go_upto_region 16 with (fail)
          clear f0 f1 f2 f3 f4 f5 z0 z1 z2 z3 z4 z5 c0 c1 c2 c3 c4 c5 T2 U2
          generalize (((((wy.setCell _ _).setCell _ _).setCell _ _).setCell _ _).setCell _ _).setCell _ _ = wz at *
          go_wp2_with fail
          go_roundg (n + 1 - (q + 1))
          case measure => omega
          case rel => exact ⟨q + 1, by omega, rfl, by first | rfl | go_num, K3', vb, vd, T3, C3'⟩
        · obtain rfl : q = n := by omega
          have hn0 : ¬ (q : Int) < (q : Int) := by omega
          clear hlt
          have HSA := Lib.hid (rsame_any s.rows s.cols s.cur false s.ins va3 s.cs.length vc3 va4 s.cs.length vc4 (D q) (D q) wr (C3.out.below KR.out) (C4.out.below KR.out) (by rw [HDL.out]; have := HL.out; omega))
          have HSB := Lib.hid fun W (hb : Below wr.heap.size wr W) => rsame_any s.rows s.cols s.cur false s.ins va s.cs.length vc va3 s.cs.length vc3 (D q) (D q) W (CR.out.below hb) (C3.out.below (kept_trans KR.out hb)) (by rw [HDL.out]; have := HL.out; omega)
          rw [decide_eq_true rfl] at HSA HSB
          have BR := Lib.hid (blk B3.out KR.out)
          have KF := kept_hid K4 KR.out
          obtain ⟨c0, c1, c2, c3, c4, c5⟩ := cells6 BR.out
          obtain ⟨d0, d1, d2, d3, d4, d5⟩ := cells6 (blk B4.out KR.out)
          go_wp2_with fail
          with_reducible refine HSA.out.mono ?_
          rintro e wx ⟨rfl, hb⟩
          clear c0 c1 c2 c3 c4 c5 d0 d1 d2 d3 d4 d5
          have HSC := Lib.hid (HSB.out _ hb)
          replace KF := kept_hid KF hb
          obtain ⟨c0, c1, c2, c3, c4, c5⟩ := cells6 (blk BR.out hb)
          obtain ⟨d0, d1, d2, d3, d4, d5⟩ := cells6 (blk TR.out hb)
          clear hb
          go_wp2_with fail
          with_reducible refine HSC.out.mono ?_
          rintro e wy ⟨rfl, hb⟩
          replace KF := kept_hid KF hb
          clear hb
          go_wp2_with fail
          go_ret
          exact ⟨rfl, KF.out⟩
end Wip
end Go.Proofs.YtaopkelobglnbaaDoor
