/- The law MoveBack. Written by tools/gen_mov_laws.py. -/
import Derived.Test.YtjgodmfannhnhaaDoorMovAwake
import Derived.Test.YtjgodmfannhnhaaDoorMovRef
import Derived.Test.YtjgodmfannhnhaaDoorBunGrd
import Derived.Test.YtjgodmfannhnhaaDoorBunGrd
import Derived.Test.YtjgodmfannhnhaaDoorOpnScr
import Derived.Test.YtjgodmfannhnhaaDoorMovOk
import Derived.StillTailTactics
import Derived.Deep.Cut
import Derived.Deep.RegionHeld3
namespace Go.Proofs.YtjgodmfannhnhaaDoor
open Go.RowKit Sha Six Apd Cut Err Att Grd Fld Scr
set_option linter.unusedVariables false
namespace Mov
set_option maxRecDepth 100000 in
set_option maxHeartbeats 8000000 in
theorem back_any (s : S) (ad : Option Addr) (k : Nat) (which : Int) (w : World) (h : CelsIn w (.slice ad s.cs.length k) s.cs) (hwf : Opn.Wf s.cs) (hm : s.cs.length ≤ maxLen) (wwhich : (Lit.int .u8 which).wf = true) (hg : Handle w) :
    Calls Tryd.prog 5 #[.agg #[.int .i64 s.rows, .int .i64 s.cols, .slice ad s.cs.length k, .int .i64 s.cur, .bool s.lk, .bool s.ins], .int .u8 which] w fun e w' => e = .returned (.bool true) ∧ Below w.heap.size w w' := by
  obtain ⟨b0which, b1which⟩ := Go.Proofs.YtjgodmfannhnhaaDoor.Ord.wf_u8 wwhich
  obtain ⟨which, rfl⟩ := Int.eq_ofNat_of_zero_le b0which
  have HBwhich := Lib.hid (show which < 256 by omega)
  have HG := Lib.hid fun W (hb : Below w.heap.size w W) => hand_of hg hb
  have HAW := Lib.hid fun W (hb : Below w.heap.size w W) => awake_any W (hand_of hg hb)
  have HB := Lib.hid (al_any w (.cells #[.int .i64 s.rows, .int .i64 s.cols, .slice ad s.cs.length k, .int .i64 s.cur, .bool s.lk, .bool s.ins] 24))
  have HX := Lib.hid (heap_alloc_new w (.cells #[.int .i64 s.rows, .int .i64 s.cols, .slice ad s.cs.length k, .int .i64 s.cur, .bool s.lk, .bool s.ins] 24))
  have HI := Lib.hid (h.below HB.out)
  have HF := Lib.hid fun W hb => rfew_any s ad k W (HI.out.below hb) (wf_sound hwf)
  have H8 := Lib.hid (wf_sound hwf)
  clear h hwf hm hg wwhich b0which b1which
  cases hf : few s with
  | false =>
    rw [hf] at HF
    go_enter Tryd.func5, Tryd.ntmps5
    go_upto_region 1 with (fail)
    generalize w.alloc _ = w1 at *
    go_wp2_with fail
    with_reducible refine (HAW.out _ HB.out).mono ?_
    rintro e w2 ⟨rfl, hb⟩
    have K2 := Lib.hid hb
    have X2 := Lib.hid (blk HX.out hb)
    have K2' := kept_hid HB hb
    have I2 := Lib.hid (HI.out.below hb)
    clear hb
    obtain ⟨c0, c1, c2, c3, c4, c5⟩ := cells6 X2.out
    go_wp2_with fail
    with_reducible refine (HF.out _ K2.out).mono ?_
    rintro e w3 ⟨rfl, hb⟩
    have K3 := kept_hid K2' hb
    have X3 := Lib.hid (blk X2.out hb)
    have I3 := Lib.hid (I2.out.below hb)
    clear hb c0 c1 c2 c3 c4 c5 K2 K2' X2 I2 HB HX HI HF
    go_wp2_with fail
    with_reducible refine (HAW.out _ K3.out).mono ?_
    rintro e w4 ⟨rfl, hb⟩
    have KE := kept_hid K3 hb
    clear hb
    go_wp2_with fail
    go_ret
    exact ⟨rfl, KE.out⟩
  | true =>
    rw [hf] at HF
    obtain ⟨q1, q2, q3⟩ := few_parts hf
    have HL := Lib.hid q1
    have HP := Lib.hid q2
    have HR := Lib.hid q3
    have HLT := Lib.hid (show s.cs.length < 10000 from by have := HL.out; omega)
    clear q1 q2 q3 hf
    have hx : ((which : Int) % 4) = ((which % 4 : Nat) : Int) := by omega
    have HM4 := Lib.hid (Nat.mod_lt which (show 0 < 4 by decide))
    generalize which % 4 = m at *
    have hm4 : m = 0 ∨ m = 1 ∨ m = 2 ∨ m = 3 := by have := HM4.out; omega
    go_enter Tryd.func5, Tryd.ntmps5
    go_upto_region 1 with (fail)
    generalize w.alloc _ = w1 at *
    go_wp2_with fail
    with_reducible refine (HAW.out _ HB.out).mono ?_
    rintro e w2 ⟨rfl, hb⟩
    have K2 := Lib.hid hb
    have X2 := Lib.hid (blk HX.out hb)
    have K2' := kept_hid HB hb
    have I2 := Lib.hid (HI.out.below hb)
    clear hb
    obtain ⟨c0, c1, c2, c3, c4, c5⟩ := cells6 X2.out
    go_wp2_with fail
    with_reducible refine (HF.out _ K2.out).mono ?_
    rintro e w3 ⟨rfl, hb⟩
    have K3 := kept_hid K2' hb
    have X3 := Lib.hid (blk X2.out hb)
    have I3 := Lib.hid (I2.out.below hb)
    clear hb c0 c1 c2 c3 c4 c5 K2 K2' X2 I2 HB HX HI HF
    clear HAW
    obtain ⟨kc, hcur, _, hkc⟩ := cur_nat HR.out
    have HKC := Lib.hid hkc
    rw [hcur] at X3
    replace hcur := Lib.hid hcur
    obtain ⟨c0, c1, c2, c3, c4, c5⟩ := cells6 X3.out
    obtain ⟨f0, f1, f2, f3, f4, f5⟩ := free6 X3.out
    have SO := gsetCell w3 w.heap.size 4 (.bool false)
    have X4 := Lib.hid (show (w3.setCell ⟨w.heap.size, 4, none⟩ (.bool false)).heap[w.heap.size]? = some (.cells #[.int .i64 s.rows, .int .i64 s.cols, .slice ad s.cs.length k, .int .i64 ((kc : Nat) : Int), .bool false, .bool s.ins] 24 (0, 0)) from heap_setCell_same w3 w.heap.size 4 _ 24 (.bool false) X3.out)
    have I4 := Lib.hid (celsIn_away I3.out SO (fun y hy => (not_screen I3.out HP.out X3.out y hy).1))
    have K4 := Lib.hid (below_grown K3.out SO (Nat.le_refl _))
    clear SO X3 I3 K3 hkc
    go_upto_region 4 with (fail)
    clear c0 c1 c2 c3 c4 c5 f0 f1 f2 f3 f4 f5
    generalize w3.setCell _ _ = w4 at *
    rcases hm4 with rfl | rfl | rfl | rfl
    · have HT1 := Lib.hid (show gto ⟨s.rows, s.cols, s.cs, (kc : Int), false, s.ins⟩ 2 = on s.cs.length (kc : Int) (-1) from rfl)
      have HT2 := Lib.hid (show gto ⟨s.rows, s.cols, s.cs, ((on s.cs.length (kc : Int) (-1) : Nat) : Int), false, s.ins⟩ 3 = kc from (show on s.cs.length ((on s.cs.length (kc : Int) (-1) : Nat) : Int) (1) = kc from by rw [on_on HP.out, show (-1) + (1) = (0 : Int) by omega]; exact on_zero HKC.out))
      have HL1 := Lib.hid (show on s.cs.length (kc : Int) (-1) < s.cs.length from on_lt HP.out _ _)
      generalize on s.cs.length (kc : Int) (-1) = p1 at *
      have Q1 := Lib.hid fun W (h : CelsIn W (.slice ad s.cs.length k) s.cs) => do_ok s.rows s.cols s.cs s.ins kc 2 ad k W h (right_p HR.out false HKC.out) H8.out HLT.out (by decide)
      rw [HT1.out] at Q1
      have Q2 := Lib.hid fun va vc W (h : CelsIn W (.slice va s.cs.length vc) s.cs) => do_ok s.rows s.cols s.cs s.ins p1 3 va vc W h (right_p HR.out false HL1.out) H8.out HLT.out (by decide)
      rw [HT2.out] at Q2
      obtain ⟨c0, c1, c2, c3, c4, c5⟩ := cells6 X4.out
      have HA1 := al_any w4 (.cells #[.int .i64 2, .int .i64 3, .int .i64 4, .int .i64 5] 3)
      have HA2 := kept_trans HA1 (al_any (w4.alloc (.cells #[.int .i64 2, .int .i64 3, .int .i64 4, .int .i64 5] 3)) (.cells #[.int .i64 3, .int .i64 2, .int .i64 5, .int .i64 4] 3))
      have X5 := Lib.hid (blk X4.out HA2)
      have I5 := Lib.hid (I4.out.below HA2)
      have K5 := kept_hid K4 HA2
      clear HA1 HA2 X4 I4 K4
      go_upto_region 6 with (fail)
      clear c0 c1 c2 c3 c4 c5 hx
      generalize (w4.alloc _).alloc _ = w5 at *
      obtain ⟨c0, c1, c2, c3, c4, c5⟩ := cells6 X5.out
      go_wp2_with fail
      with_reducible refine (Q1.out _ I5.out).mono ?_
      rintro e w6 ⟨va1, vc1, rfl, ho, hb⟩
      clear c0 c1 c2 c3 c4 c5
      have HA := al_any w6 (.cells #[.int .i64 s.rows, .int .i64 s.cols, .slice va1 s.cs.length vc1, .int .i64 ((p1 : Nat) : Int), .bool false, .bool s.ins] 24)
      have B1 := Lib.hid (heap_alloc_new w6 (.cells #[.int .i64 s.rows, .int .i64 s.cols, .slice va1 s.cs.length vc1, .int .i64 ((p1 : Nat) : Int), .bool false, .bool s.ins] 24))
      have C1 := Lib.hid ((OwnCels.below ho HA).to)
      replace hb := kept_trans hb HA
      replace X5 := Lib.hid (blk X5.out hb)
      replace I5 := Lib.hid (I5.out.below hb)
      replace K5 := kept_hid K5 hb
      clear HA ho hb
      go_upto_region 7 with (fail)
      generalize w6.heap.size = N1 at *
      generalize w6.alloc _ = w6b at *
      obtain ⟨c0, c1, c2, c3, c4, c5⟩ := cells6 B1.out
      go_wp2_with fail
      with_reducible refine (Q2.out _ _ _ C1.out).mono ?_
      rintro e w7 ⟨va2, vc2, rfl, ho, hb⟩
      clear c0 c1 c2 c3 c4 c5
      have HA := al_any w7 (.cells #[.int .i64 s.rows, .int .i64 s.cols, .slice va2 s.cs.length vc2, .int .i64 ((kc : Nat) : Int), .bool false, .bool s.ins] 24)
      have B2 := Lib.hid (heap_alloc_new w7 (.cells #[.int .i64 s.rows, .int .i64 s.cols, .slice va2 s.cs.length vc2, .int .i64 ((kc : Nat) : Int), .bool false, .bool s.ins] 24))
      have C2 := Lib.hid ((OwnCels.below ho HA).to)
      replace hb := kept_trans hb HA
      replace X5 := Lib.hid (blk X5.out hb)
      replace B1 := Lib.hid (blk B1.out hb)
      replace I5 := Lib.hid (I5.out.below hb)
      replace C1 := Lib.hid (C1.out.below hb)
      replace K5 := kept_hid K5 hb
      clear HA ho hb
      go_upto_region 8 with (fail)
      generalize w7.heap.size = N2 at *
      generalize w7.alloc _ = w7b at *
      clear Q1 Q2 HT1 HT2 C1 B1
      have HSM := Lib.hid (rsame_any s.rows s.cols (kc : Int) false s.ins va2 s.cs.length vc2 ad s.cs.length k s.cs s.cs w7b C2.out I5.out (by have := HL.out; omega))
      rw [decide_eq_true rfl] at HSM
      obtain ⟨c0, c1, c2, c3, c4, c5⟩ := cells6 B2.out
      obtain ⟨d0, d1, d2, d3, d4, d5⟩ := cells6 X5.out
      go_wp2_with fail
      with_reducible refine HSM.out.mono ?_
      rintro e w8 ⟨rfl, hb⟩
      clear c0 c1 c2 c3 c4 c5 d0 d1 d2 d3 d4 d5 HSM B2 C2
      have X8 := Lib.hid (blk X5.out hb)
      have I8 := Lib.hid (I5.out.below hb)
      have K8 := kept_hid K5 hb
      clear hb X5 I5 K5
      obtain ⟨c0, c1, c2, c3, c4, c5⟩ := cells6 X8.out
      go_upto_region 10 with (fail)
      have HA := al_any w8 (.cells #[.int .i64 s.rows, .int .i64 s.cols, .slice ad s.cs.length k, .int .i64 ((kc : Nat) : Int), .bool false, .bool s.ins] 24)
      have T9 := Lib.hid (heap_alloc_new w8 (.cells #[.int .i64 s.rows, .int .i64 s.cols, .slice ad s.cs.length k, .int .i64 ((kc : Nat) : Int), .bool false, .bool s.ins] 24))
      have K9 := Lib.hid HA
      have C9 := Lib.hid (I8.out.below HA)
      have HXN := Lib.hid (there_lt X8.out)
      clear HA
      go_upto_region 11 with (fail)
      clear c0 c1 c2 c3 c4 c5
      generalize w8.alloc _ = w9 at *
      have HNA := Lib.hid (celsIn_lt I8.out HP.out)
      generalize hN : w8.heap.size = N3 at *
      replace hN := Lib.hid hN
      obtain ⟨pos, hpos⟩ : ∃ pos : Nat → Nat, pos = fun (q : Nat) => on s.cs.length (kc : Int) ((q : Int) * s.cols) := ⟨_, rfl⟩
      have HP0 := Lib.hid (show pos 0 = kc from by rw [hpos]; show on s.cs.length (kc : Int) (((0 : Nat) : Int) * s.cols) = kc; rw [show ((0 : Nat) : Int) * s.cols = 0 by simp]; exact on_zero HKC.out)
      have HPL := Lib.hid (show ∀ q, pos q < s.cs.length from by rw [hpos]; exact fun q => on_lt HP.out _ _)
      have HPS := Lib.hid (show ∀ q, gto ⟨s.rows, s.cols, s.cs, ((pos q : Nat) : Int), false, s.ins⟩ 5 = pos (q + 1) from by
        rw [hpos]; intro q
        show on s.cs.length ((on s.cs.length (kc : Int) ((q : Int) * s.cols) : Nat) : Int) s.cols = on s.cs.length (kc : Int) (((q + 1 : Nat) : Int) * s.cols)
        rw [on_on HP.out, show ((q + 1 : Nat) : Int) = (q : Int) + 1 by omega, Int.add_mul, Int.one_mul])
      obtain ⟨rn, hrn⟩ : ∃ rn : Nat, s.rows = (rn : Int) := ⟨s.rows.toNat, by have := (sized_le (sright_parts HR.out).1).1; omega⟩
      have HRN := Lib.hid hrn
      have HRB := Lib.hid (show s.rows ≤ 16383 from (sized_le (sright_parts HR.out).1).2.2.2.1)
      have HPZ := Lib.hid (show pos rn = kc from by
        rw [hpos]
        show on s.cs.length (kc : Int) ((rn : Int) * s.cols) = kc
        rw [← hrn, ← (sright_parts HR.out).2.1]; exact on_all HKC.out)
      clear hpos hrn
      rw [← HP0.out] at T9
      go_wp2_with fail
      go_loopg [12] (rn + 1) (fun mm ii wr => ∃ q : Nat, q ≤ rn ∧ mm = rn + 1 - q ∧ ii = .int .i64 q ∧ Hid (Below w8.heap.size w8 wr) ∧ ∃ va vc, Hid (wr.heap[N3]? = some (.cells #[.int .i64 s.rows, .int .i64 s.cols, .slice va s.cs.length vc, .int .i64 ((pos q : Nat) : Int), .bool false, .bool s.ins] 24 (0, 0))) ∧ Hid (CelsIn wr (.slice va s.cs.length vc) s.cs))
      case atStart => exact ⟨0, Nat.zero_le _, rfl, rfl, by rw [hN.out]; exact K9, ad, k, T9, C9⟩
      case round =>
        obtain ⟨q, hq, rfl, rfl, KR, va, vc, TR, CR⟩ := hrel
        clear K9 T9 C9
        have ew : IntKind.i64.wrap ((q : Int) + 1) = (q : Int) + 1 := by
          have := HRB.out; have := HRN.out
          rw [IntWalk.i64_in] <;> omega
        have XR := Lib.hid (blk X8.out KR.out)
        obtain ⟨c0, c1, c2, c3, c4, c5⟩ := cells6 XR.out
        by_cases hlt : q < rn
        · have hlr : (q : Int) < s.rows := by have := HRN.out; omega
          have QD := Lib.hid (do_ok s.rows s.cols s.cs s.ins (pos q) 5 va vc wr CR.out (right_p HR.out false (HPL.out q)) H8.out HLT.out (by decide))
          rw [HPS.out q] at QD
          generalize hp2 : pos (q + 1) = p2 at *
          replace hp2 := Lib.hid hp2
          generalize pos q = p at *
          obtain ⟨d0, d1, d2, d3, d4, d5⟩ := cells6 TR.out
          go_wp2_with fail
          with_reducible refine QD.out.mono ?_
          rintro e wx ⟨vb, vd, rfl, ho, hb⟩
          clear c0 c1 c2 c3 c4 c5 d0 d1 d2 d3 d4 d5
          have HTL := Lib.hid (there_lt TR.out)
          have T2 := Lib.hid (blk TR.out hb)
          have C2 := Lib.hid ho.to
          have K2 := kept_hid KR hb
          clear ho hb TR CR KR XR QD
          obtain ⟨f0, f1, f2, f3, f4, f5⟩ := free6 T2.out
          obtain ⟨z0, z1, z2, z3, z4, z5⟩ := cells6 T2.out
          have SF := over6 wx N3 24 _ _ _ _ _ _ (.int .i64 s.rows) (.int .i64 s.cols) (.slice vb s.cs.length vd) (.int .i64 ((p2 : Nat) : Int)) (.bool false) (.bool s.ins) T2.out
          have T3 := Lib.hid SF.1
          have C3 := Lib.hid (celsIn_away C2.out SF.2 (fun y hy => (not_screen C2.out HP.out T2.out y hy).1))
          have K3' := Lib.hid (below_grown K2.out SF.2 (by have := hN.out; omega))
          clear SF C2 K2
          go_upto_region 13 with (fail)
          clear f0 f1 f2 f3 f4 f5 z0 z1 z2 z3 z4 z5 T2
          generalize (((((wx.setCell _ _).setCell _ _).setCell _ _).setCell _ _).setCell _ _).setCell _ _ = wy at *
          go_wp2_with fail
          go_roundg (rn + 1 - (q + 1))
          case measure => omega
          case rel => exact ⟨q + 1, by omega, rfl, by first | rfl | go_num, K3', vb, vd, by rw [hp2.out]; exact T3, C3⟩
        · obtain rfl : q = rn := by omega
          have hn0 : ¬ (q : Int) < s.rows := by have := HRN.out; omega
          rw [HPZ.out] at TR
          have IR := Lib.hid (I8.out.below KR.out)
          have KF := kept_hid K8 KR.out
          have HXR := Lib.hid KR.out.size
          clear hlt c0 c1 c2 c3 c4 c5 X8 I8 K8 KR HP0 HPL HPS HPZ
          generalize hx1 : (next s.cs kc).toNat = x1 at *
          have HT3 := Lib.hid (show gto ⟨s.rows, s.cols, s.cs, (kc : Int), false, s.ins⟩ 6 = x1 from hx1)
          have HX1 := Lib.hid (show x1 < s.cs.length from by rw [← hx1]; exact next_lt HKC.out)
          generalize hx2 : (next s.cs x1).toNat = x2 at *
          have HT4 := Lib.hid (show gto ⟨s.rows, s.cols, s.cs, ((x1 : Nat) : Int), false, s.ins⟩ 6 = x2 from hx2)
          have HX2 := Lib.hid (show x2 < s.cs.length from by rw [← hx2]; exact next_lt HX1.out)
          have HT5 := Lib.hid (show gto ⟨s.rows, s.cols, s.cs, ((x2 : Nat) : Int), false, s.ins⟩ 7 = x1 from (show (prev s.cs x2).toNat = x1 from by rw [← hx2, ← hx1]; exact tab_tab_back HKC.out))
          clear hx1 hx2
          have Q3 := Lib.hid (do_ok s.rows s.cols s.cs s.ins kc 6 ad k wr IR.out (right_p HR.out false HKC.out) H8.out HLT.out (by decide))
          rw [HT3.out] at Q3
          have Q4 := Lib.hid fun va vc W (h : CelsIn W (.slice va s.cs.length vc) s.cs) => do_ok s.rows s.cols s.cs s.ins x1 6 va vc W h (right_p HR.out false HX1.out) H8.out HLT.out (by decide)
          rw [HT4.out] at Q4
          have Q5 := Lib.hid fun va vc W (h : CelsIn W (.slice va s.cs.length vc) s.cs) => do_ok s.rows s.cols s.cs s.ins x2 7 va vc W h (right_p HR.out false HX2.out) H8.out HLT.out (by decide)
          rw [HT5.out] at Q5
          clear HT3 HT4 HT5
          obtain ⟨c0, c1, c2, c3, c4, c5⟩ := cells6 XR.out
          go_wp2_with fail
          with_reducible refine Q3.out.mono ?_
          rintro e wx ⟨va3, vc3, rfl, ho, hb⟩
          clear c0 c1 c2 c3 c4 c5 Q3
          have HA := al_any wx (.cells #[.int .i64 s.rows, .int .i64 s.cols, .slice va3 s.cs.length vc3, .int .i64 ((x1 : Nat) : Int), .bool false, .bool s.ins] 24)
          have B3 := Lib.hid (heap_alloc_new wx (.cells #[.int .i64 s.rows, .int .i64 s.cols, .slice va3 s.cs.length vc3, .int .i64 ((x1 : Nat) : Int), .bool false, .bool s.ins] 24))
          have C3 := Lib.hid ((OwnCels.below ho HA).to)
          replace hb := kept_trans hb HA
          replace XR := Lib.hid (blk XR.out hb)
          replace TR := Lib.hid (blk TR.out hb)
          replace IR := Lib.hid (IR.out.below hb)
          replace CR := Lib.hid (CR.out.below hb)
          replace KF := kept_hid KF hb
          clear HA ho hb
          go_upto_region 16 with (fail)
          generalize wx.heap.size = N3 at *
          generalize wx.alloc _ = wxb at *
          obtain ⟨c0, c1, c2, c3, c4, c5⟩ := cells6 B3.out
          go_wp2_with fail
          with_reducible refine (Q4.out _ _ _ C3.out).mono ?_
          rintro e wy ⟨va4, vc4, rfl, ho, hb⟩
          clear c0 c1 c2 c3 c4 c5
          have HA := al_any wy (.cells #[.int .i64 s.rows, .int .i64 s.cols, .slice va4 s.cs.length vc4, .int .i64 ((x2 : Nat) : Int), .bool false, .bool s.ins] 24)
          have B4 := Lib.hid (heap_alloc_new wy (.cells #[.int .i64 s.rows, .int .i64 s.cols, .slice va4 s.cs.length vc4, .int .i64 ((x2 : Nat) : Int), .bool false, .bool s.ins] 24))
          have C4 := Lib.hid ((OwnCels.below ho HA).to)
          replace hb := kept_trans hb HA
          replace XR := Lib.hid (blk XR.out hb)
          replace TR := Lib.hid (blk TR.out hb)
          replace B3 := Lib.hid (blk B3.out hb)
          replace IR := Lib.hid (IR.out.below hb)
          replace CR := Lib.hid (CR.out.below hb)
          replace KF := kept_hid KF hb
          clear HA ho hb
          go_upto_region 17 with (fail)
          generalize wy.heap.size = N4 at *
          generalize wy.alloc _ = wyb at *
          obtain ⟨c0, c1, c2, c3, c4, c5⟩ := cells6 B4.out
          go_wp2_with fail
          with_reducible refine (Q5.out _ _ _ C4.out).mono ?_
          rintro e wz ⟨va5, vc5, rfl, ho, hb⟩
          clear c0 c1 c2 c3 c4 c5
          have HA := al_any wz (.cells #[.int .i64 s.rows, .int .i64 s.cols, .slice va5 s.cs.length vc5, .int .i64 ((x1 : Nat) : Int), .bool false, .bool s.ins] 24)
          have B5 := Lib.hid (heap_alloc_new wz (.cells #[.int .i64 s.rows, .int .i64 s.cols, .slice va5 s.cs.length vc5, .int .i64 ((x1 : Nat) : Int), .bool false, .bool s.ins] 24))
          have C5 := Lib.hid ((OwnCels.below ho HA).to)
          replace hb := kept_trans hb HA
          replace XR := Lib.hid (blk XR.out hb)
          replace TR := Lib.hid (blk TR.out hb)
          replace B3 := Lib.hid (blk B3.out hb)
          replace IR := Lib.hid (IR.out.below hb)
          replace CR := Lib.hid (CR.out.below hb)
          replace KF := kept_hid KF hb
          clear HA ho hb
          go_upto_region 18 with (fail)
          generalize wz.heap.size = N5 at *
          generalize wz.alloc _ = wzb at *
          have HSM := Lib.hid (rsame_any s.rows s.cols (kc : Int) false s.ins va s.cs.length vc ad s.cs.length k s.cs s.cs wzb CR.out IR.out (by have := HL.out; omega))
          rw [decide_eq_true rfl] at HSM
          obtain ⟨c0, c1, c2, c3, c4, c5⟩ := cells6 TR.out
          obtain ⟨d0, d1, d2, d3, d4, d5⟩ := cells6 XR.out
          go_wp2_with fail
          with_reducible refine HSM.out.mono ?_
          rintro e wg ⟨rfl, hb⟩
          clear c0 c1 c2 c3 c4 c5 d0 d1 d2 d3 d4 d5
          have KG := kept_hid KF hb
          obtain ⟨c0, c1, c2, c3, c4, c5⟩ := cells6 (blk B3.out hb)
          obtain ⟨d0, d1, d2, d3, d4, d5⟩ := cells6 (blk B5.out hb)
          clear hb
          go_wp2_with fail
          go_ret
          exact ⟨by first | rfl | simp, KG.out⟩
    · have HT1 := Lib.hid (show gto ⟨s.rows, s.cols, s.cs, (kc : Int), false, s.ins⟩ 3 = on s.cs.length (kc : Int) (1) from rfl)
      have HT2 := Lib.hid (show gto ⟨s.rows, s.cols, s.cs, ((on s.cs.length (kc : Int) (1) : Nat) : Int), false, s.ins⟩ 2 = kc from (show on s.cs.length ((on s.cs.length (kc : Int) (1) : Nat) : Int) (-1) = kc from by rw [on_on HP.out, show (1) + (-1) = (0 : Int) by omega]; exact on_zero HKC.out))
      have HL1 := Lib.hid (show on s.cs.length (kc : Int) (1) < s.cs.length from on_lt HP.out _ _)
      generalize on s.cs.length (kc : Int) (1) = p1 at *
      have Q1 := Lib.hid fun W (h : CelsIn W (.slice ad s.cs.length k) s.cs) => do_ok s.rows s.cols s.cs s.ins kc 3 ad k W h (right_p HR.out false HKC.out) H8.out HLT.out (by decide)
      rw [HT1.out] at Q1
      have Q2 := Lib.hid fun va vc W (h : CelsIn W (.slice va s.cs.length vc) s.cs) => do_ok s.rows s.cols s.cs s.ins p1 2 va vc W h (right_p HR.out false HL1.out) H8.out HLT.out (by decide)
      rw [HT2.out] at Q2
      obtain ⟨c0, c1, c2, c3, c4, c5⟩ := cells6 X4.out
      have HA1 := al_any w4 (.cells #[.int .i64 2, .int .i64 3, .int .i64 4, .int .i64 5] 3)
      have HA2 := kept_trans HA1 (al_any (w4.alloc (.cells #[.int .i64 2, .int .i64 3, .int .i64 4, .int .i64 5] 3)) (.cells #[.int .i64 3, .int .i64 2, .int .i64 5, .int .i64 4] 3))
      have X5 := Lib.hid (blk X4.out HA2)
      have I5 := Lib.hid (I4.out.below HA2)
      have K5 := kept_hid K4 HA2
      clear HA1 HA2 X4 I4 K4
      go_upto_region 6 with (fail)
      clear c0 c1 c2 c3 c4 c5 hx
      generalize (w4.alloc _).alloc _ = w5 at *
      obtain ⟨c0, c1, c2, c3, c4, c5⟩ := cells6 X5.out
      go_wp2_with fail
      with_reducible refine (Q1.out _ I5.out).mono ?_
      rintro e w6 ⟨va1, vc1, rfl, ho, hb⟩
      clear c0 c1 c2 c3 c4 c5
      have HA := al_any w6 (.cells #[.int .i64 s.rows, .int .i64 s.cols, .slice va1 s.cs.length vc1, .int .i64 ((p1 : Nat) : Int), .bool false, .bool s.ins] 24)
      have B1 := Lib.hid (heap_alloc_new w6 (.cells #[.int .i64 s.rows, .int .i64 s.cols, .slice va1 s.cs.length vc1, .int .i64 ((p1 : Nat) : Int), .bool false, .bool s.ins] 24))
      have C1 := Lib.hid ((OwnCels.below ho HA).to)
      replace hb := kept_trans hb HA
      replace X5 := Lib.hid (blk X5.out hb)
      replace I5 := Lib.hid (I5.out.below hb)
      replace K5 := kept_hid K5 hb
      clear HA ho hb
      go_upto_region 7 with (fail)
      generalize w6.heap.size = N1 at *
      generalize w6.alloc _ = w6b at *
      obtain ⟨c0, c1, c2, c3, c4, c5⟩ := cells6 B1.out
      go_wp2_with fail
      with_reducible refine (Q2.out _ _ _ C1.out).mono ?_
      rintro e w7 ⟨va2, vc2, rfl, ho, hb⟩
      clear c0 c1 c2 c3 c4 c5
      have HA := al_any w7 (.cells #[.int .i64 s.rows, .int .i64 s.cols, .slice va2 s.cs.length vc2, .int .i64 ((kc : Nat) : Int), .bool false, .bool s.ins] 24)
      have B2 := Lib.hid (heap_alloc_new w7 (.cells #[.int .i64 s.rows, .int .i64 s.cols, .slice va2 s.cs.length vc2, .int .i64 ((kc : Nat) : Int), .bool false, .bool s.ins] 24))
      have C2 := Lib.hid ((OwnCels.below ho HA).to)
      replace hb := kept_trans hb HA
      replace X5 := Lib.hid (blk X5.out hb)
      replace B1 := Lib.hid (blk B1.out hb)
      replace I5 := Lib.hid (I5.out.below hb)
      replace C1 := Lib.hid (C1.out.below hb)
      replace K5 := kept_hid K5 hb
      clear HA ho hb
      go_upto_region 8 with (fail)
      generalize w7.heap.size = N2 at *
      generalize w7.alloc _ = w7b at *
      clear Q1 Q2 HT1 HT2 C1 B1
      have HSM := Lib.hid (rsame_any s.rows s.cols (kc : Int) false s.ins va2 s.cs.length vc2 ad s.cs.length k s.cs s.cs w7b C2.out I5.out (by have := HL.out; omega))
      rw [decide_eq_true rfl] at HSM
      obtain ⟨c0, c1, c2, c3, c4, c5⟩ := cells6 B2.out
      obtain ⟨d0, d1, d2, d3, d4, d5⟩ := cells6 X5.out
      go_wp2_with fail
      with_reducible refine HSM.out.mono ?_
      rintro e w8 ⟨rfl, hb⟩
      clear c0 c1 c2 c3 c4 c5 d0 d1 d2 d3 d4 d5 HSM B2 C2
      have X8 := Lib.hid (blk X5.out hb)
      have I8 := Lib.hid (I5.out.below hb)
      have K8 := kept_hid K5 hb
      clear hb X5 I5 K5
      obtain ⟨c0, c1, c2, c3, c4, c5⟩ := cells6 X8.out
      go_upto_region 10 with (fail)
      have HA := al_any w8 (.cells #[.int .i64 s.rows, .int .i64 s.cols, .slice ad s.cs.length k, .int .i64 ((kc : Nat) : Int), .bool false, .bool s.ins] 24)
      have T9 := Lib.hid (heap_alloc_new w8 (.cells #[.int .i64 s.rows, .int .i64 s.cols, .slice ad s.cs.length k, .int .i64 ((kc : Nat) : Int), .bool false, .bool s.ins] 24))
      have K9 := Lib.hid HA
      have C9 := Lib.hid (I8.out.below HA)
      have HXN := Lib.hid (there_lt X8.out)
      clear HA
      go_upto_region 11 with (fail)
      clear c0 c1 c2 c3 c4 c5
      generalize w8.alloc _ = w9 at *
      have HNA := Lib.hid (celsIn_lt I8.out HP.out)
      generalize hN : w8.heap.size = N3 at *
      replace hN := Lib.hid hN
      obtain ⟨pos, hpos⟩ : ∃ pos : Nat → Nat, pos = fun (q : Nat) => on s.cs.length (kc : Int) ((q : Int) * s.cols) := ⟨_, rfl⟩
      have HP0 := Lib.hid (show pos 0 = kc from by rw [hpos]; show on s.cs.length (kc : Int) (((0 : Nat) : Int) * s.cols) = kc; rw [show ((0 : Nat) : Int) * s.cols = 0 by simp]; exact on_zero HKC.out)
      have HPL := Lib.hid (show ∀ q, pos q < s.cs.length from by rw [hpos]; exact fun q => on_lt HP.out _ _)
      have HPS := Lib.hid (show ∀ q, gto ⟨s.rows, s.cols, s.cs, ((pos q : Nat) : Int), false, s.ins⟩ 5 = pos (q + 1) from by
        rw [hpos]; intro q
        show on s.cs.length ((on s.cs.length (kc : Int) ((q : Int) * s.cols) : Nat) : Int) s.cols = on s.cs.length (kc : Int) (((q + 1 : Nat) : Int) * s.cols)
        rw [on_on HP.out, show ((q + 1 : Nat) : Int) = (q : Int) + 1 by omega, Int.add_mul, Int.one_mul])
      obtain ⟨rn, hrn⟩ : ∃ rn : Nat, s.rows = (rn : Int) := ⟨s.rows.toNat, by have := (sized_le (sright_parts HR.out).1).1; omega⟩
      have HRN := Lib.hid hrn
      have HRB := Lib.hid (show s.rows ≤ 16383 from (sized_le (sright_parts HR.out).1).2.2.2.1)
      have HPZ := Lib.hid (show pos rn = kc from by
        rw [hpos]
        show on s.cs.length (kc : Int) ((rn : Int) * s.cols) = kc
        rw [← hrn, ← (sright_parts HR.out).2.1]; exact on_all HKC.out)
      clear hpos hrn
      rw [← HP0.out] at T9
      go_wp2_with fail
      go_loopg [12] (rn + 1) (fun mm ii wr => ∃ q : Nat, q ≤ rn ∧ mm = rn + 1 - q ∧ ii = .int .i64 q ∧ Hid (Below w8.heap.size w8 wr) ∧ ∃ va vc, Hid (wr.heap[N3]? = some (.cells #[.int .i64 s.rows, .int .i64 s.cols, .slice va s.cs.length vc, .int .i64 ((pos q : Nat) : Int), .bool false, .bool s.ins] 24 (0, 0))) ∧ Hid (CelsIn wr (.slice va s.cs.length vc) s.cs))
      case atStart => exact ⟨0, Nat.zero_le _, rfl, rfl, by rw [hN.out]; exact K9, ad, k, T9, C9⟩
      case round =>
        obtain ⟨q, hq, rfl, rfl, KR, va, vc, TR, CR⟩ := hrel
        clear K9 T9 C9
        have ew : IntKind.i64.wrap ((q : Int) + 1) = (q : Int) + 1 := by
          have := HRB.out; have := HRN.out
          rw [IntWalk.i64_in] <;> omega
        have XR := Lib.hid (blk X8.out KR.out)
        obtain ⟨c0, c1, c2, c3, c4, c5⟩ := cells6 XR.out
        by_cases hlt : q < rn
        · have hlr : (q : Int) < s.rows := by have := HRN.out; omega
          have QD := Lib.hid (do_ok s.rows s.cols s.cs s.ins (pos q) 5 va vc wr CR.out (right_p HR.out false (HPL.out q)) H8.out HLT.out (by decide))
          rw [HPS.out q] at QD
          generalize hp2 : pos (q + 1) = p2 at *
          replace hp2 := Lib.hid hp2
          generalize pos q = p at *
          obtain ⟨d0, d1, d2, d3, d4, d5⟩ := cells6 TR.out
          go_wp2_with fail
          with_reducible refine QD.out.mono ?_
          rintro e wx ⟨vb, vd, rfl, ho, hb⟩
          clear c0 c1 c2 c3 c4 c5 d0 d1 d2 d3 d4 d5
          have HTL := Lib.hid (there_lt TR.out)
          have T2 := Lib.hid (blk TR.out hb)
          have C2 := Lib.hid ho.to
          have K2 := kept_hid KR hb
          clear ho hb TR CR KR XR QD
          obtain ⟨f0, f1, f2, f3, f4, f5⟩ := free6 T2.out
          obtain ⟨z0, z1, z2, z3, z4, z5⟩ := cells6 T2.out
          have SF := over6 wx N3 24 _ _ _ _ _ _ (.int .i64 s.rows) (.int .i64 s.cols) (.slice vb s.cs.length vd) (.int .i64 ((p2 : Nat) : Int)) (.bool false) (.bool s.ins) T2.out
          have T3 := Lib.hid SF.1
          have C3 := Lib.hid (celsIn_away C2.out SF.2 (fun y hy => (not_screen C2.out HP.out T2.out y hy).1))
          have K3' := Lib.hid (below_grown K2.out SF.2 (by have := hN.out; omega))
          clear SF C2 K2
          go_upto_region 13 with (fail)
          clear f0 f1 f2 f3 f4 f5 z0 z1 z2 z3 z4 z5 T2
          generalize (((((wx.setCell _ _).setCell _ _).setCell _ _).setCell _ _).setCell _ _).setCell _ _ = wy at *
          go_wp2_with fail
          go_roundg (rn + 1 - (q + 1))
          case measure => omega
          case rel => exact ⟨q + 1, by omega, rfl, by first | rfl | go_num, K3', vb, vd, by rw [hp2.out]; exact T3, C3⟩
        · obtain rfl : q = rn := by omega
          have hn0 : ¬ (q : Int) < s.rows := by have := HRN.out; omega
          rw [HPZ.out] at TR
          have IR := Lib.hid (I8.out.below KR.out)
          have KF := kept_hid K8 KR.out
          have HXR := Lib.hid KR.out.size
          clear hlt c0 c1 c2 c3 c4 c5 X8 I8 K8 KR HP0 HPL HPS HPZ
          generalize hx1 : (next s.cs kc).toNat = x1 at *
          have HT3 := Lib.hid (show gto ⟨s.rows, s.cols, s.cs, (kc : Int), false, s.ins⟩ 6 = x1 from hx1)
          have HX1 := Lib.hid (show x1 < s.cs.length from by rw [← hx1]; exact next_lt HKC.out)
          generalize hx2 : (next s.cs x1).toNat = x2 at *
          have HT4 := Lib.hid (show gto ⟨s.rows, s.cols, s.cs, ((x1 : Nat) : Int), false, s.ins⟩ 6 = x2 from hx2)
          have HX2 := Lib.hid (show x2 < s.cs.length from by rw [← hx2]; exact next_lt HX1.out)
          have HT5 := Lib.hid (show gto ⟨s.rows, s.cols, s.cs, ((x2 : Nat) : Int), false, s.ins⟩ 7 = x1 from (show (prev s.cs x2).toNat = x1 from by rw [← hx2, ← hx1]; exact tab_tab_back HKC.out))
          clear hx1 hx2
          have Q3 := Lib.hid (do_ok s.rows s.cols s.cs s.ins kc 6 ad k wr IR.out (right_p HR.out false HKC.out) H8.out HLT.out (by decide))
          rw [HT3.out] at Q3
          have Q4 := Lib.hid fun va vc W (h : CelsIn W (.slice va s.cs.length vc) s.cs) => do_ok s.rows s.cols s.cs s.ins x1 6 va vc W h (right_p HR.out false HX1.out) H8.out HLT.out (by decide)
          rw [HT4.out] at Q4
          have Q5 := Lib.hid fun va vc W (h : CelsIn W (.slice va s.cs.length vc) s.cs) => do_ok s.rows s.cols s.cs s.ins x2 7 va vc W h (right_p HR.out false HX2.out) H8.out HLT.out (by decide)
          rw [HT5.out] at Q5
          clear HT3 HT4 HT5
          obtain ⟨c0, c1, c2, c3, c4, c5⟩ := cells6 XR.out
          go_wp2_with fail
          with_reducible refine Q3.out.mono ?_
          rintro e wx ⟨va3, vc3, rfl, ho, hb⟩
          clear c0 c1 c2 c3 c4 c5 Q3
          have HA := al_any wx (.cells #[.int .i64 s.rows, .int .i64 s.cols, .slice va3 s.cs.length vc3, .int .i64 ((x1 : Nat) : Int), .bool false, .bool s.ins] 24)
          have B3 := Lib.hid (heap_alloc_new wx (.cells #[.int .i64 s.rows, .int .i64 s.cols, .slice va3 s.cs.length vc3, .int .i64 ((x1 : Nat) : Int), .bool false, .bool s.ins] 24))
          have C3 := Lib.hid ((OwnCels.below ho HA).to)
          replace hb := kept_trans hb HA
          replace XR := Lib.hid (blk XR.out hb)
          replace TR := Lib.hid (blk TR.out hb)
          replace IR := Lib.hid (IR.out.below hb)
          replace CR := Lib.hid (CR.out.below hb)
          replace KF := kept_hid KF hb
          clear HA ho hb
          go_upto_region 16 with (fail)
          generalize wx.heap.size = N3 at *
          generalize wx.alloc _ = wxb at *
          obtain ⟨c0, c1, c2, c3, c4, c5⟩ := cells6 B3.out
          go_wp2_with fail
          with_reducible refine (Q4.out _ _ _ C3.out).mono ?_
          rintro e wy ⟨va4, vc4, rfl, ho, hb⟩
          clear c0 c1 c2 c3 c4 c5
          have HA := al_any wy (.cells #[.int .i64 s.rows, .int .i64 s.cols, .slice va4 s.cs.length vc4, .int .i64 ((x2 : Nat) : Int), .bool false, .bool s.ins] 24)
          have B4 := Lib.hid (heap_alloc_new wy (.cells #[.int .i64 s.rows, .int .i64 s.cols, .slice va4 s.cs.length vc4, .int .i64 ((x2 : Nat) : Int), .bool false, .bool s.ins] 24))
          have C4 := Lib.hid ((OwnCels.below ho HA).to)
          replace hb := kept_trans hb HA
          replace XR := Lib.hid (blk XR.out hb)
          replace TR := Lib.hid (blk TR.out hb)
          replace B3 := Lib.hid (blk B3.out hb)
          replace IR := Lib.hid (IR.out.below hb)
          replace CR := Lib.hid (CR.out.below hb)
          replace KF := kept_hid KF hb
          clear HA ho hb
          go_upto_region 17 with (fail)
          generalize wy.heap.size = N4 at *
          generalize wy.alloc _ = wyb at *
          obtain ⟨c0, c1, c2, c3, c4, c5⟩ := cells6 B4.out
          go_wp2_with fail
          with_reducible refine (Q5.out _ _ _ C4.out).mono ?_
          rintro e wz ⟨va5, vc5, rfl, ho, hb⟩
          clear c0 c1 c2 c3 c4 c5
          have HA := al_any wz (.cells #[.int .i64 s.rows, .int .i64 s.cols, .slice va5 s.cs.length vc5, .int .i64 ((x1 : Nat) : Int), .bool false, .bool s.ins] 24)
          have B5 := Lib.hid (heap_alloc_new wz (.cells #[.int .i64 s.rows, .int .i64 s.cols, .slice va5 s.cs.length vc5, .int .i64 ((x1 : Nat) : Int), .bool false, .bool s.ins] 24))
          have C5 := Lib.hid ((OwnCels.below ho HA).to)
          replace hb := kept_trans hb HA
          replace XR := Lib.hid (blk XR.out hb)
          replace TR := Lib.hid (blk TR.out hb)
          replace B3 := Lib.hid (blk B3.out hb)
          replace IR := Lib.hid (IR.out.below hb)
          replace CR := Lib.hid (CR.out.below hb)
          replace KF := kept_hid KF hb
          clear HA ho hb
          go_upto_region 18 with (fail)
          generalize wz.heap.size = N5 at *
          generalize wz.alloc _ = wzb at *
          have HSM := Lib.hid (rsame_any s.rows s.cols (kc : Int) false s.ins va s.cs.length vc ad s.cs.length k s.cs s.cs wzb CR.out IR.out (by have := HL.out; omega))
          rw [decide_eq_true rfl] at HSM
          obtain ⟨c0, c1, c2, c3, c4, c5⟩ := cells6 TR.out
          obtain ⟨d0, d1, d2, d3, d4, d5⟩ := cells6 XR.out
          go_wp2_with fail
          with_reducible refine HSM.out.mono ?_
          rintro e wg ⟨rfl, hb⟩
          clear c0 c1 c2 c3 c4 c5 d0 d1 d2 d3 d4 d5
          have KG := kept_hid KF hb
          obtain ⟨c0, c1, c2, c3, c4, c5⟩ := cells6 (blk B3.out hb)
          obtain ⟨d0, d1, d2, d3, d4, d5⟩ := cells6 (blk B5.out hb)
          clear hb
          go_wp2_with fail
          go_ret
          exact ⟨by first | rfl | simp, KG.out⟩
    · have HT1 := Lib.hid (show gto ⟨s.rows, s.cols, s.cs, (kc : Int), false, s.ins⟩ 4 = on s.cs.length (kc : Int) (-s.cols) from rfl)
      have HT2 := Lib.hid (show gto ⟨s.rows, s.cols, s.cs, ((on s.cs.length (kc : Int) (-s.cols) : Nat) : Int), false, s.ins⟩ 5 = kc from (show on s.cs.length ((on s.cs.length (kc : Int) (-s.cols) : Nat) : Int) (s.cols) = kc from by rw [on_on HP.out, show (-s.cols) + (s.cols) = (0 : Int) by omega]; exact on_zero HKC.out))
      have HL1 := Lib.hid (show on s.cs.length (kc : Int) (-s.cols) < s.cs.length from on_lt HP.out _ _)
      generalize on s.cs.length (kc : Int) (-s.cols) = p1 at *
      have Q1 := Lib.hid fun W (h : CelsIn W (.slice ad s.cs.length k) s.cs) => do_ok s.rows s.cols s.cs s.ins kc 4 ad k W h (right_p HR.out false HKC.out) H8.out HLT.out (by decide)
      rw [HT1.out] at Q1
      have Q2 := Lib.hid fun va vc W (h : CelsIn W (.slice va s.cs.length vc) s.cs) => do_ok s.rows s.cols s.cs s.ins p1 5 va vc W h (right_p HR.out false HL1.out) H8.out HLT.out (by decide)
      rw [HT2.out] at Q2
      obtain ⟨c0, c1, c2, c3, c4, c5⟩ := cells6 X4.out
      have HA1 := al_any w4 (.cells #[.int .i64 2, .int .i64 3, .int .i64 4, .int .i64 5] 3)
      have HA2 := kept_trans HA1 (al_any (w4.alloc (.cells #[.int .i64 2, .int .i64 3, .int .i64 4, .int .i64 5] 3)) (.cells #[.int .i64 3, .int .i64 2, .int .i64 5, .int .i64 4] 3))
      have X5 := Lib.hid (blk X4.out HA2)
      have I5 := Lib.hid (I4.out.below HA2)
      have K5 := kept_hid K4 HA2
      clear HA1 HA2 X4 I4 K4
      go_upto_region 6 with (fail)
      clear c0 c1 c2 c3 c4 c5 hx
      generalize (w4.alloc _).alloc _ = w5 at *
      obtain ⟨c0, c1, c2, c3, c4, c5⟩ := cells6 X5.out
      go_wp2_with fail
      with_reducible refine (Q1.out _ I5.out).mono ?_
      rintro e w6 ⟨va1, vc1, rfl, ho, hb⟩
      clear c0 c1 c2 c3 c4 c5
      have HA := al_any w6 (.cells #[.int .i64 s.rows, .int .i64 s.cols, .slice va1 s.cs.length vc1, .int .i64 ((p1 : Nat) : Int), .bool false, .bool s.ins] 24)
      have B1 := Lib.hid (heap_alloc_new w6 (.cells #[.int .i64 s.rows, .int .i64 s.cols, .slice va1 s.cs.length vc1, .int .i64 ((p1 : Nat) : Int), .bool false, .bool s.ins] 24))
      have C1 := Lib.hid ((OwnCels.below ho HA).to)
      replace hb := kept_trans hb HA
      replace X5 := Lib.hid (blk X5.out hb)
      replace I5 := Lib.hid (I5.out.below hb)
      replace K5 := kept_hid K5 hb
      clear HA ho hb
      go_upto_region 7 with (fail)
      generalize w6.heap.size = N1 at *
      generalize w6.alloc _ = w6b at *
      obtain ⟨c0, c1, c2, c3, c4, c5⟩ := cells6 B1.out
      go_wp2_with fail
      with_reducible refine (Q2.out _ _ _ C1.out).mono ?_
      rintro e w7 ⟨va2, vc2, rfl, ho, hb⟩
      clear c0 c1 c2 c3 c4 c5
      have HA := al_any w7 (.cells #[.int .i64 s.rows, .int .i64 s.cols, .slice va2 s.cs.length vc2, .int .i64 ((kc : Nat) : Int), .bool false, .bool s.ins] 24)
      have B2 := Lib.hid (heap_alloc_new w7 (.cells #[.int .i64 s.rows, .int .i64 s.cols, .slice va2 s.cs.length vc2, .int .i64 ((kc : Nat) : Int), .bool false, .bool s.ins] 24))
      have C2 := Lib.hid ((OwnCels.below ho HA).to)
      replace hb := kept_trans hb HA
      replace X5 := Lib.hid (blk X5.out hb)
      replace B1 := Lib.hid (blk B1.out hb)
      replace I5 := Lib.hid (I5.out.below hb)
      replace C1 := Lib.hid (C1.out.below hb)
      replace K5 := kept_hid K5 hb
      clear HA ho hb
      go_upto_region 8 with (fail)
      generalize w7.heap.size = N2 at *
      generalize w7.alloc _ = w7b at *
      clear Q1 Q2 HT1 HT2 C1 B1
      have HSM := Lib.hid (rsame_any s.rows s.cols (kc : Int) false s.ins va2 s.cs.length vc2 ad s.cs.length k s.cs s.cs w7b C2.out I5.out (by have := HL.out; omega))
      rw [decide_eq_true rfl] at HSM
      obtain ⟨c0, c1, c2, c3, c4, c5⟩ := cells6 B2.out
      obtain ⟨d0, d1, d2, d3, d4, d5⟩ := cells6 X5.out
      go_wp2_with fail
      with_reducible refine HSM.out.mono ?_
      rintro e w8 ⟨rfl, hb⟩
      clear c0 c1 c2 c3 c4 c5 d0 d1 d2 d3 d4 d5 HSM B2 C2
      have X8 := Lib.hid (blk X5.out hb)
      have I8 := Lib.hid (I5.out.below hb)
      have K8 := kept_hid K5 hb
      clear hb X5 I5 K5
      obtain ⟨c0, c1, c2, c3, c4, c5⟩ := cells6 X8.out
      go_upto_region 10 with (fail)
      have HA := al_any w8 (.cells #[.int .i64 s.rows, .int .i64 s.cols, .slice ad s.cs.length k, .int .i64 ((kc : Nat) : Int), .bool false, .bool s.ins] 24)
      have T9 := Lib.hid (heap_alloc_new w8 (.cells #[.int .i64 s.rows, .int .i64 s.cols, .slice ad s.cs.length k, .int .i64 ((kc : Nat) : Int), .bool false, .bool s.ins] 24))
      have K9 := Lib.hid HA
      have C9 := Lib.hid (I8.out.below HA)
      have HXN := Lib.hid (there_lt X8.out)
      clear HA
      go_upto_region 11 with (fail)
      clear c0 c1 c2 c3 c4 c5
      generalize w8.alloc _ = w9 at *
      have HNA := Lib.hid (celsIn_lt I8.out HP.out)
      generalize hN : w8.heap.size = N3 at *
      replace hN := Lib.hid hN
      obtain ⟨pos, hpos⟩ : ∃ pos : Nat → Nat, pos = fun (q : Nat) => on s.cs.length (kc : Int) ((q : Int) * s.cols) := ⟨_, rfl⟩
      have HP0 := Lib.hid (show pos 0 = kc from by rw [hpos]; show on s.cs.length (kc : Int) (((0 : Nat) : Int) * s.cols) = kc; rw [show ((0 : Nat) : Int) * s.cols = 0 by simp]; exact on_zero HKC.out)
      have HPL := Lib.hid (show ∀ q, pos q < s.cs.length from by rw [hpos]; exact fun q => on_lt HP.out _ _)
      have HPS := Lib.hid (show ∀ q, gto ⟨s.rows, s.cols, s.cs, ((pos q : Nat) : Int), false, s.ins⟩ 5 = pos (q + 1) from by
        rw [hpos]; intro q
        show on s.cs.length ((on s.cs.length (kc : Int) ((q : Int) * s.cols) : Nat) : Int) s.cols = on s.cs.length (kc : Int) (((q + 1 : Nat) : Int) * s.cols)
        rw [on_on HP.out, show ((q + 1 : Nat) : Int) = (q : Int) + 1 by omega, Int.add_mul, Int.one_mul])
      obtain ⟨rn, hrn⟩ : ∃ rn : Nat, s.rows = (rn : Int) := ⟨s.rows.toNat, by have := (sized_le (sright_parts HR.out).1).1; omega⟩
      have HRN := Lib.hid hrn
      have HRB := Lib.hid (show s.rows ≤ 16383 from (sized_le (sright_parts HR.out).1).2.2.2.1)
      have HPZ := Lib.hid (show pos rn = kc from by
        rw [hpos]
        show on s.cs.length (kc : Int) ((rn : Int) * s.cols) = kc
        rw [← hrn, ← (sright_parts HR.out).2.1]; exact on_all HKC.out)
      clear hpos hrn
      rw [← HP0.out] at T9
      go_wp2_with fail
      go_loopg [12] (rn + 1) (fun mm ii wr => ∃ q : Nat, q ≤ rn ∧ mm = rn + 1 - q ∧ ii = .int .i64 q ∧ Hid (Below w8.heap.size w8 wr) ∧ ∃ va vc, Hid (wr.heap[N3]? = some (.cells #[.int .i64 s.rows, .int .i64 s.cols, .slice va s.cs.length vc, .int .i64 ((pos q : Nat) : Int), .bool false, .bool s.ins] 24 (0, 0))) ∧ Hid (CelsIn wr (.slice va s.cs.length vc) s.cs))
      case atStart => exact ⟨0, Nat.zero_le _, rfl, rfl, by rw [hN.out]; exact K9, ad, k, T9, C9⟩
      case round =>
        obtain ⟨q, hq, rfl, rfl, KR, va, vc, TR, CR⟩ := hrel
        clear K9 T9 C9
        have ew : IntKind.i64.wrap ((q : Int) + 1) = (q : Int) + 1 := by
          have := HRB.out; have := HRN.out
          rw [IntWalk.i64_in] <;> omega
        have XR := Lib.hid (blk X8.out KR.out)
        obtain ⟨c0, c1, c2, c3, c4, c5⟩ := cells6 XR.out
        by_cases hlt : q < rn
        · have hlr : (q : Int) < s.rows := by have := HRN.out; omega
          have QD := Lib.hid (do_ok s.rows s.cols s.cs s.ins (pos q) 5 va vc wr CR.out (right_p HR.out false (HPL.out q)) H8.out HLT.out (by decide))
          rw [HPS.out q] at QD
          generalize hp2 : pos (q + 1) = p2 at *
          replace hp2 := Lib.hid hp2
          generalize pos q = p at *
          obtain ⟨d0, d1, d2, d3, d4, d5⟩ := cells6 TR.out
          go_wp2_with fail
          with_reducible refine QD.out.mono ?_
          rintro e wx ⟨vb, vd, rfl, ho, hb⟩
          clear c0 c1 c2 c3 c4 c5 d0 d1 d2 d3 d4 d5
          have HTL := Lib.hid (there_lt TR.out)
          have T2 := Lib.hid (blk TR.out hb)
          have C2 := Lib.hid ho.to
          have K2 := kept_hid KR hb
          clear ho hb TR CR KR XR QD
          obtain ⟨f0, f1, f2, f3, f4, f5⟩ := free6 T2.out
          obtain ⟨z0, z1, z2, z3, z4, z5⟩ := cells6 T2.out
          have SF := over6 wx N3 24 _ _ _ _ _ _ (.int .i64 s.rows) (.int .i64 s.cols) (.slice vb s.cs.length vd) (.int .i64 ((p2 : Nat) : Int)) (.bool false) (.bool s.ins) T2.out
          have T3 := Lib.hid SF.1
          have C3 := Lib.hid (celsIn_away C2.out SF.2 (fun y hy => (not_screen C2.out HP.out T2.out y hy).1))
          have K3' := Lib.hid (below_grown K2.out SF.2 (by have := hN.out; omega))
          clear SF C2 K2
          go_upto_region 13 with (fail)
          clear f0 f1 f2 f3 f4 f5 z0 z1 z2 z3 z4 z5 T2
          generalize (((((wx.setCell _ _).setCell _ _).setCell _ _).setCell _ _).setCell _ _).setCell _ _ = wy at *
          go_wp2_with fail
          go_roundg (rn + 1 - (q + 1))
          case measure => omega
          case rel => exact ⟨q + 1, by omega, rfl, by first | rfl | go_num, K3', vb, vd, by rw [hp2.out]; exact T3, C3⟩
        · obtain rfl : q = rn := by omega
          have hn0 : ¬ (q : Int) < s.rows := by have := HRN.out; omega
          rw [HPZ.out] at TR
          have IR := Lib.hid (I8.out.below KR.out)
          have KF := kept_hid K8 KR.out
          have HXR := Lib.hid KR.out.size
          clear hlt c0 c1 c2 c3 c4 c5 X8 I8 K8 KR HP0 HPL HPS HPZ
          generalize hx1 : (next s.cs kc).toNat = x1 at *
          have HT3 := Lib.hid (show gto ⟨s.rows, s.cols, s.cs, (kc : Int), false, s.ins⟩ 6 = x1 from hx1)
          have HX1 := Lib.hid (show x1 < s.cs.length from by rw [← hx1]; exact next_lt HKC.out)
          generalize hx2 : (next s.cs x1).toNat = x2 at *
          have HT4 := Lib.hid (show gto ⟨s.rows, s.cols, s.cs, ((x1 : Nat) : Int), false, s.ins⟩ 6 = x2 from hx2)
          have HX2 := Lib.hid (show x2 < s.cs.length from by rw [← hx2]; exact next_lt HX1.out)
          have HT5 := Lib.hid (show gto ⟨s.rows, s.cols, s.cs, ((x2 : Nat) : Int), false, s.ins⟩ 7 = x1 from (show (prev s.cs x2).toNat = x1 from by rw [← hx2, ← hx1]; exact tab_tab_back HKC.out))
          clear hx1 hx2
          have Q3 := Lib.hid (do_ok s.rows s.cols s.cs s.ins kc 6 ad k wr IR.out (right_p HR.out false HKC.out) H8.out HLT.out (by decide))
          rw [HT3.out] at Q3
          have Q4 := Lib.hid fun va vc W (h : CelsIn W (.slice va s.cs.length vc) s.cs) => do_ok s.rows s.cols s.cs s.ins x1 6 va vc W h (right_p HR.out false HX1.out) H8.out HLT.out (by decide)
          rw [HT4.out] at Q4
          have Q5 := Lib.hid fun va vc W (h : CelsIn W (.slice va s.cs.length vc) s.cs) => do_ok s.rows s.cols s.cs s.ins x2 7 va vc W h (right_p HR.out false HX2.out) H8.out HLT.out (by decide)
          rw [HT5.out] at Q5
          clear HT3 HT4 HT5
          obtain ⟨c0, c1, c2, c3, c4, c5⟩ := cells6 XR.out
          go_wp2_with fail
          with_reducible refine Q3.out.mono ?_
          rintro e wx ⟨va3, vc3, rfl, ho, hb⟩
          clear c0 c1 c2 c3 c4 c5 Q3
          have HA := al_any wx (.cells #[.int .i64 s.rows, .int .i64 s.cols, .slice va3 s.cs.length vc3, .int .i64 ((x1 : Nat) : Int), .bool false, .bool s.ins] 24)
          have B3 := Lib.hid (heap_alloc_new wx (.cells #[.int .i64 s.rows, .int .i64 s.cols, .slice va3 s.cs.length vc3, .int .i64 ((x1 : Nat) : Int), .bool false, .bool s.ins] 24))
          have C3 := Lib.hid ((OwnCels.below ho HA).to)
          replace hb := kept_trans hb HA
          replace XR := Lib.hid (blk XR.out hb)
          replace TR := Lib.hid (blk TR.out hb)
          replace IR := Lib.hid (IR.out.below hb)
          replace CR := Lib.hid (CR.out.below hb)
          replace KF := kept_hid KF hb
          clear HA ho hb
          go_upto_region 16 with (fail)
          generalize wx.heap.size = N3 at *
          generalize wx.alloc _ = wxb at *
          obtain ⟨c0, c1, c2, c3, c4, c5⟩ := cells6 B3.out
          go_wp2_with fail
          with_reducible refine (Q4.out _ _ _ C3.out).mono ?_
          rintro e wy ⟨va4, vc4, rfl, ho, hb⟩
          clear c0 c1 c2 c3 c4 c5
          have HA := al_any wy (.cells #[.int .i64 s.rows, .int .i64 s.cols, .slice va4 s.cs.length vc4, .int .i64 ((x2 : Nat) : Int), .bool false, .bool s.ins] 24)
          have B4 := Lib.hid (heap_alloc_new wy (.cells #[.int .i64 s.rows, .int .i64 s.cols, .slice va4 s.cs.length vc4, .int .i64 ((x2 : Nat) : Int), .bool false, .bool s.ins] 24))
          have C4 := Lib.hid ((OwnCels.below ho HA).to)
          replace hb := kept_trans hb HA
          replace XR := Lib.hid (blk XR.out hb)
          replace TR := Lib.hid (blk TR.out hb)
          replace B3 := Lib.hid (blk B3.out hb)
          replace IR := Lib.hid (IR.out.below hb)
          replace CR := Lib.hid (CR.out.below hb)
          replace KF := kept_hid KF hb
          clear HA ho hb
          go_upto_region 17 with (fail)
          generalize wy.heap.size = N4 at *
          generalize wy.alloc _ = wyb at *
          obtain ⟨c0, c1, c2, c3, c4, c5⟩ := cells6 B4.out
          go_wp2_with fail
          with_reducible refine (Q5.out _ _ _ C4.out).mono ?_
          rintro e wz ⟨va5, vc5, rfl, ho, hb⟩
          clear c0 c1 c2 c3 c4 c5
          have HA := al_any wz (.cells #[.int .i64 s.rows, .int .i64 s.cols, .slice va5 s.cs.length vc5, .int .i64 ((x1 : Nat) : Int), .bool false, .bool s.ins] 24)
          have B5 := Lib.hid (heap_alloc_new wz (.cells #[.int .i64 s.rows, .int .i64 s.cols, .slice va5 s.cs.length vc5, .int .i64 ((x1 : Nat) : Int), .bool false, .bool s.ins] 24))
          have C5 := Lib.hid ((OwnCels.below ho HA).to)
          replace hb := kept_trans hb HA
          replace XR := Lib.hid (blk XR.out hb)
          replace TR := Lib.hid (blk TR.out hb)
          replace B3 := Lib.hid (blk B3.out hb)
          replace IR := Lib.hid (IR.out.below hb)
          replace CR := Lib.hid (CR.out.below hb)
          replace KF := kept_hid KF hb
          clear HA ho hb
          go_upto_region 18 with (fail)
          generalize wz.heap.size = N5 at *
          generalize wz.alloc _ = wzb at *
          have HSM := Lib.hid (rsame_any s.rows s.cols (kc : Int) false s.ins va s.cs.length vc ad s.cs.length k s.cs s.cs wzb CR.out IR.out (by have := HL.out; omega))
          rw [decide_eq_true rfl] at HSM
          obtain ⟨c0, c1, c2, c3, c4, c5⟩ := cells6 TR.out
          obtain ⟨d0, d1, d2, d3, d4, d5⟩ := cells6 XR.out
          go_wp2_with fail
          with_reducible refine HSM.out.mono ?_
          rintro e wg ⟨rfl, hb⟩
          clear c0 c1 c2 c3 c4 c5 d0 d1 d2 d3 d4 d5
          have KG := kept_hid KF hb
          obtain ⟨c0, c1, c2, c3, c4, c5⟩ := cells6 (blk B3.out hb)
          obtain ⟨d0, d1, d2, d3, d4, d5⟩ := cells6 (blk B5.out hb)
          clear hb
          go_wp2_with fail
          go_ret
          exact ⟨by first | rfl | simp, KG.out⟩
    · have HT1 := Lib.hid (show gto ⟨s.rows, s.cols, s.cs, (kc : Int), false, s.ins⟩ 5 = on s.cs.length (kc : Int) (s.cols) from rfl)
      have HT2 := Lib.hid (show gto ⟨s.rows, s.cols, s.cs, ((on s.cs.length (kc : Int) (s.cols) : Nat) : Int), false, s.ins⟩ 4 = kc from (show on s.cs.length ((on s.cs.length (kc : Int) (s.cols) : Nat) : Int) (-s.cols) = kc from by rw [on_on HP.out, show (s.cols) + (-s.cols) = (0 : Int) by omega]; exact on_zero HKC.out))
      have HL1 := Lib.hid (show on s.cs.length (kc : Int) (s.cols) < s.cs.length from on_lt HP.out _ _)
      generalize on s.cs.length (kc : Int) (s.cols) = p1 at *
      have Q1 := Lib.hid fun W (h : CelsIn W (.slice ad s.cs.length k) s.cs) => do_ok s.rows s.cols s.cs s.ins kc 5 ad k W h (right_p HR.out false HKC.out) H8.out HLT.out (by decide)
      rw [HT1.out] at Q1
      have Q2 := Lib.hid fun va vc W (h : CelsIn W (.slice va s.cs.length vc) s.cs) => do_ok s.rows s.cols s.cs s.ins p1 4 va vc W h (right_p HR.out false HL1.out) H8.out HLT.out (by decide)
      rw [HT2.out] at Q2
      obtain ⟨c0, c1, c2, c3, c4, c5⟩ := cells6 X4.out
      have HA1 := al_any w4 (.cells #[.int .i64 2, .int .i64 3, .int .i64 4, .int .i64 5] 3)
      have HA2 := kept_trans HA1 (al_any (w4.alloc (.cells #[.int .i64 2, .int .i64 3, .int .i64 4, .int .i64 5] 3)) (.cells #[.int .i64 3, .int .i64 2, .int .i64 5, .int .i64 4] 3))
      have X5 := Lib.hid (blk X4.out HA2)
      have I5 := Lib.hid (I4.out.below HA2)
      have K5 := kept_hid K4 HA2
      clear HA1 HA2 X4 I4 K4
      go_upto_region 6 with (fail)
      clear c0 c1 c2 c3 c4 c5 hx
      generalize (w4.alloc _).alloc _ = w5 at *
      obtain ⟨c0, c1, c2, c3, c4, c5⟩ := cells6 X5.out
      go_wp2_with fail
      with_reducible refine (Q1.out _ I5.out).mono ?_
      rintro e w6 ⟨va1, vc1, rfl, ho, hb⟩
      clear c0 c1 c2 c3 c4 c5
      have HA := al_any w6 (.cells #[.int .i64 s.rows, .int .i64 s.cols, .slice va1 s.cs.length vc1, .int .i64 ((p1 : Nat) : Int), .bool false, .bool s.ins] 24)
      have B1 := Lib.hid (heap_alloc_new w6 (.cells #[.int .i64 s.rows, .int .i64 s.cols, .slice va1 s.cs.length vc1, .int .i64 ((p1 : Nat) : Int), .bool false, .bool s.ins] 24))
      have C1 := Lib.hid ((OwnCels.below ho HA).to)
      replace hb := kept_trans hb HA
      replace X5 := Lib.hid (blk X5.out hb)
      replace I5 := Lib.hid (I5.out.below hb)
      replace K5 := kept_hid K5 hb
      clear HA ho hb
      go_upto_region 7 with (fail)
      generalize w6.heap.size = N1 at *
      generalize w6.alloc _ = w6b at *
      obtain ⟨c0, c1, c2, c3, c4, c5⟩ := cells6 B1.out
      go_wp2_with fail
      with_reducible refine (Q2.out _ _ _ C1.out).mono ?_
      rintro e w7 ⟨va2, vc2, rfl, ho, hb⟩
      clear c0 c1 c2 c3 c4 c5
      have HA := al_any w7 (.cells #[.int .i64 s.rows, .int .i64 s.cols, .slice va2 s.cs.length vc2, .int .i64 ((kc : Nat) : Int), .bool false, .bool s.ins] 24)
      have B2 := Lib.hid (heap_alloc_new w7 (.cells #[.int .i64 s.rows, .int .i64 s.cols, .slice va2 s.cs.length vc2, .int .i64 ((kc : Nat) : Int), .bool false, .bool s.ins] 24))
      have C2 := Lib.hid ((OwnCels.below ho HA).to)
      replace hb := kept_trans hb HA
      replace X5 := Lib.hid (blk X5.out hb)
      replace B1 := Lib.hid (blk B1.out hb)
      replace I5 := Lib.hid (I5.out.below hb)
      replace C1 := Lib.hid (C1.out.below hb)
      replace K5 := kept_hid K5 hb
      clear HA ho hb
      go_upto_region 8 with (fail)
      generalize w7.heap.size = N2 at *
      generalize w7.alloc _ = w7b at *
      clear Q1 Q2 HT1 HT2 C1 B1
      have HSM := Lib.hid (rsame_any s.rows s.cols (kc : Int) false s.ins va2 s.cs.length vc2 ad s.cs.length k s.cs s.cs w7b C2.out I5.out (by have := HL.out; omega))
      rw [decide_eq_true rfl] at HSM
      obtain ⟨c0, c1, c2, c3, c4, c5⟩ := cells6 B2.out
      obtain ⟨d0, d1, d2, d3, d4, d5⟩ := cells6 X5.out
      go_wp2_with fail
      with_reducible refine HSM.out.mono ?_
      rintro e w8 ⟨rfl, hb⟩
      clear c0 c1 c2 c3 c4 c5 d0 d1 d2 d3 d4 d5 HSM B2 C2
      have X8 := Lib.hid (blk X5.out hb)
      have I8 := Lib.hid (I5.out.below hb)
      have K8 := kept_hid K5 hb
      clear hb X5 I5 K5
      obtain ⟨c0, c1, c2, c3, c4, c5⟩ := cells6 X8.out
      go_upto_region 10 with (fail)
      have HA := al_any w8 (.cells #[.int .i64 s.rows, .int .i64 s.cols, .slice ad s.cs.length k, .int .i64 ((kc : Nat) : Int), .bool false, .bool s.ins] 24)
      have T9 := Lib.hid (heap_alloc_new w8 (.cells #[.int .i64 s.rows, .int .i64 s.cols, .slice ad s.cs.length k, .int .i64 ((kc : Nat) : Int), .bool false, .bool s.ins] 24))
      have K9 := Lib.hid HA
      have C9 := Lib.hid (I8.out.below HA)
      have HXN := Lib.hid (there_lt X8.out)
      clear HA
      go_upto_region 11 with (fail)
      clear c0 c1 c2 c3 c4 c5
      generalize w8.alloc _ = w9 at *
      have HNA := Lib.hid (celsIn_lt I8.out HP.out)
      generalize hN : w8.heap.size = N3 at *
      replace hN := Lib.hid hN
      obtain ⟨pos, hpos⟩ : ∃ pos : Nat → Nat, pos = fun (q : Nat) => on s.cs.length (kc : Int) ((q : Int) * s.cols) := ⟨_, rfl⟩
      have HP0 := Lib.hid (show pos 0 = kc from by rw [hpos]; show on s.cs.length (kc : Int) (((0 : Nat) : Int) * s.cols) = kc; rw [show ((0 : Nat) : Int) * s.cols = 0 by simp]; exact on_zero HKC.out)
      have HPL := Lib.hid (show ∀ q, pos q < s.cs.length from by rw [hpos]; exact fun q => on_lt HP.out _ _)
      have HPS := Lib.hid (show ∀ q, gto ⟨s.rows, s.cols, s.cs, ((pos q : Nat) : Int), false, s.ins⟩ 5 = pos (q + 1) from by
        rw [hpos]; intro q
        show on s.cs.length ((on s.cs.length (kc : Int) ((q : Int) * s.cols) : Nat) : Int) s.cols = on s.cs.length (kc : Int) (((q + 1 : Nat) : Int) * s.cols)
        rw [on_on HP.out, show ((q + 1 : Nat) : Int) = (q : Int) + 1 by omega, Int.add_mul, Int.one_mul])
      obtain ⟨rn, hrn⟩ : ∃ rn : Nat, s.rows = (rn : Int) := ⟨s.rows.toNat, by have := (sized_le (sright_parts HR.out).1).1; omega⟩
      have HRN := Lib.hid hrn
      have HRB := Lib.hid (show s.rows ≤ 16383 from (sized_le (sright_parts HR.out).1).2.2.2.1)
      have HPZ := Lib.hid (show pos rn = kc from by
        rw [hpos]
        show on s.cs.length (kc : Int) ((rn : Int) * s.cols) = kc
        rw [← hrn, ← (sright_parts HR.out).2.1]; exact on_all HKC.out)
      clear hpos hrn
      rw [← HP0.out] at T9
      go_wp2_with fail
      go_loopg [12] (rn + 1) (fun mm ii wr => ∃ q : Nat, q ≤ rn ∧ mm = rn + 1 - q ∧ ii = .int .i64 q ∧ Hid (Below w8.heap.size w8 wr) ∧ ∃ va vc, Hid (wr.heap[N3]? = some (.cells #[.int .i64 s.rows, .int .i64 s.cols, .slice va s.cs.length vc, .int .i64 ((pos q : Nat) : Int), .bool false, .bool s.ins] 24 (0, 0))) ∧ Hid (CelsIn wr (.slice va s.cs.length vc) s.cs))
      case atStart => exact ⟨0, Nat.zero_le _, rfl, rfl, by rw [hN.out]; exact K9, ad, k, T9, C9⟩
      case round =>
        obtain ⟨q, hq, rfl, rfl, KR, va, vc, TR, CR⟩ := hrel
        clear K9 T9 C9
        have ew : IntKind.i64.wrap ((q : Int) + 1) = (q : Int) + 1 := by
          have := HRB.out; have := HRN.out
          rw [IntWalk.i64_in] <;> omega
        have XR := Lib.hid (blk X8.out KR.out)
        obtain ⟨c0, c1, c2, c3, c4, c5⟩ := cells6 XR.out
        by_cases hlt : q < rn
        · have hlr : (q : Int) < s.rows := by have := HRN.out; omega
          have QD := Lib.hid (do_ok s.rows s.cols s.cs s.ins (pos q) 5 va vc wr CR.out (right_p HR.out false (HPL.out q)) H8.out HLT.out (by decide))
          rw [HPS.out q] at QD
          generalize hp2 : pos (q + 1) = p2 at *
          replace hp2 := Lib.hid hp2
          generalize pos q = p at *
          obtain ⟨d0, d1, d2, d3, d4, d5⟩ := cells6 TR.out
          go_wp2_with fail
          with_reducible refine QD.out.mono ?_
          rintro e wx ⟨vb, vd, rfl, ho, hb⟩
          clear c0 c1 c2 c3 c4 c5 d0 d1 d2 d3 d4 d5
          have HTL := Lib.hid (there_lt TR.out)
          have T2 := Lib.hid (blk TR.out hb)
          have C2 := Lib.hid ho.to
          have K2 := kept_hid KR hb
          clear ho hb TR CR KR XR QD
          obtain ⟨f0, f1, f2, f3, f4, f5⟩ := free6 T2.out
          obtain ⟨z0, z1, z2, z3, z4, z5⟩ := cells6 T2.out
          have SF := over6 wx N3 24 _ _ _ _ _ _ (.int .i64 s.rows) (.int .i64 s.cols) (.slice vb s.cs.length vd) (.int .i64 ((p2 : Nat) : Int)) (.bool false) (.bool s.ins) T2.out
          have T3 := Lib.hid SF.1
          have C3 := Lib.hid (celsIn_away C2.out SF.2 (fun y hy => (not_screen C2.out HP.out T2.out y hy).1))
          have K3' := Lib.hid (below_grown K2.out SF.2 (by have := hN.out; omega))
          clear SF C2 K2
          go_upto_region 13 with (fail)
          clear f0 f1 f2 f3 f4 f5 z0 z1 z2 z3 z4 z5 T2
          generalize (((((wx.setCell _ _).setCell _ _).setCell _ _).setCell _ _).setCell _ _).setCell _ _ = wy at *
          go_wp2_with fail
          go_roundg (rn + 1 - (q + 1))
          case measure => omega
          case rel => exact ⟨q + 1, by omega, rfl, by first | rfl | go_num, K3', vb, vd, by rw [hp2.out]; exact T3, C3⟩
        · obtain rfl : q = rn := by omega
          have hn0 : ¬ (q : Int) < s.rows := by have := HRN.out; omega
          rw [HPZ.out] at TR
          have IR := Lib.hid (I8.out.below KR.out)
          have KF := kept_hid K8 KR.out
          have HXR := Lib.hid KR.out.size
          clear hlt c0 c1 c2 c3 c4 c5 X8 I8 K8 KR HP0 HPL HPS HPZ
          generalize hx1 : (next s.cs kc).toNat = x1 at *
          have HT3 := Lib.hid (show gto ⟨s.rows, s.cols, s.cs, (kc : Int), false, s.ins⟩ 6 = x1 from hx1)
          have HX1 := Lib.hid (show x1 < s.cs.length from by rw [← hx1]; exact next_lt HKC.out)
          generalize hx2 : (next s.cs x1).toNat = x2 at *
          have HT4 := Lib.hid (show gto ⟨s.rows, s.cols, s.cs, ((x1 : Nat) : Int), false, s.ins⟩ 6 = x2 from hx2)
          have HX2 := Lib.hid (show x2 < s.cs.length from by rw [← hx2]; exact next_lt HX1.out)
          have HT5 := Lib.hid (show gto ⟨s.rows, s.cols, s.cs, ((x2 : Nat) : Int), false, s.ins⟩ 7 = x1 from (show (prev s.cs x2).toNat = x1 from by rw [← hx2, ← hx1]; exact tab_tab_back HKC.out))
          clear hx1 hx2
          have Q3 := Lib.hid (do_ok s.rows s.cols s.cs s.ins kc 6 ad k wr IR.out (right_p HR.out false HKC.out) H8.out HLT.out (by decide))
          rw [HT3.out] at Q3
          have Q4 := Lib.hid fun va vc W (h : CelsIn W (.slice va s.cs.length vc) s.cs) => do_ok s.rows s.cols s.cs s.ins x1 6 va vc W h (right_p HR.out false HX1.out) H8.out HLT.out (by decide)
          rw [HT4.out] at Q4
          have Q5 := Lib.hid fun va vc W (h : CelsIn W (.slice va s.cs.length vc) s.cs) => do_ok s.rows s.cols s.cs s.ins x2 7 va vc W h (right_p HR.out false HX2.out) H8.out HLT.out (by decide)
          rw [HT5.out] at Q5
          clear HT3 HT4 HT5
          obtain ⟨c0, c1, c2, c3, c4, c5⟩ := cells6 XR.out
          go_wp2_with fail
          with_reducible refine Q3.out.mono ?_
          rintro e wx ⟨va3, vc3, rfl, ho, hb⟩
          clear c0 c1 c2 c3 c4 c5 Q3
          have HA := al_any wx (.cells #[.int .i64 s.rows, .int .i64 s.cols, .slice va3 s.cs.length vc3, .int .i64 ((x1 : Nat) : Int), .bool false, .bool s.ins] 24)
          have B3 := Lib.hid (heap_alloc_new wx (.cells #[.int .i64 s.rows, .int .i64 s.cols, .slice va3 s.cs.length vc3, .int .i64 ((x1 : Nat) : Int), .bool false, .bool s.ins] 24))
          have C3 := Lib.hid ((OwnCels.below ho HA).to)
          replace hb := kept_trans hb HA
          replace XR := Lib.hid (blk XR.out hb)
          replace TR := Lib.hid (blk TR.out hb)
          replace IR := Lib.hid (IR.out.below hb)
          replace CR := Lib.hid (CR.out.below hb)
          replace KF := kept_hid KF hb
          clear HA ho hb
          go_upto_region 16 with (fail)
          generalize wx.heap.size = N3 at *
          generalize wx.alloc _ = wxb at *
          obtain ⟨c0, c1, c2, c3, c4, c5⟩ := cells6 B3.out
          go_wp2_with fail
          with_reducible refine (Q4.out _ _ _ C3.out).mono ?_
          rintro e wy ⟨va4, vc4, rfl, ho, hb⟩
          clear c0 c1 c2 c3 c4 c5
          have HA := al_any wy (.cells #[.int .i64 s.rows, .int .i64 s.cols, .slice va4 s.cs.length vc4, .int .i64 ((x2 : Nat) : Int), .bool false, .bool s.ins] 24)
          have B4 := Lib.hid (heap_alloc_new wy (.cells #[.int .i64 s.rows, .int .i64 s.cols, .slice va4 s.cs.length vc4, .int .i64 ((x2 : Nat) : Int), .bool false, .bool s.ins] 24))
          have C4 := Lib.hid ((OwnCels.below ho HA).to)
          replace hb := kept_trans hb HA
          replace XR := Lib.hid (blk XR.out hb)
          replace TR := Lib.hid (blk TR.out hb)
          replace B3 := Lib.hid (blk B3.out hb)
          replace IR := Lib.hid (IR.out.below hb)
          replace CR := Lib.hid (CR.out.below hb)
          replace KF := kept_hid KF hb
          clear HA ho hb
          go_upto_region 17 with (fail)
          generalize wy.heap.size = N4 at *
          generalize wy.alloc _ = wyb at *
          obtain ⟨c0, c1, c2, c3, c4, c5⟩ := cells6 B4.out
          go_wp2_with fail
          with_reducible refine (Q5.out _ _ _ C4.out).mono ?_
          rintro e wz ⟨va5, vc5, rfl, ho, hb⟩
          clear c0 c1 c2 c3 c4 c5
          have HA := al_any wz (.cells #[.int .i64 s.rows, .int .i64 s.cols, .slice va5 s.cs.length vc5, .int .i64 ((x1 : Nat) : Int), .bool false, .bool s.ins] 24)
          have B5 := Lib.hid (heap_alloc_new wz (.cells #[.int .i64 s.rows, .int .i64 s.cols, .slice va5 s.cs.length vc5, .int .i64 ((x1 : Nat) : Int), .bool false, .bool s.ins] 24))
          have C5 := Lib.hid ((OwnCels.below ho HA).to)
          replace hb := kept_trans hb HA
          replace XR := Lib.hid (blk XR.out hb)
          replace TR := Lib.hid (blk TR.out hb)
          replace B3 := Lib.hid (blk B3.out hb)
          replace IR := Lib.hid (IR.out.below hb)
          replace CR := Lib.hid (CR.out.below hb)
          replace KF := kept_hid KF hb
          clear HA ho hb
          go_upto_region 18 with (fail)
          generalize wz.heap.size = N5 at *
          generalize wz.alloc _ = wzb at *
          have HSM := Lib.hid (rsame_any s.rows s.cols (kc : Int) false s.ins va s.cs.length vc ad s.cs.length k s.cs s.cs wzb CR.out IR.out (by have := HL.out; omega))
          rw [decide_eq_true rfl] at HSM
          obtain ⟨c0, c1, c2, c3, c4, c5⟩ := cells6 TR.out
          obtain ⟨d0, d1, d2, d3, d4, d5⟩ := cells6 XR.out
          go_wp2_with fail
          with_reducible refine HSM.out.mono ?_
          rintro e wg ⟨rfl, hb⟩
          clear c0 c1 c2 c3 c4 c5 d0 d1 d2 d3 d4 d5
          have KG := kept_hid KF hb
          obtain ⟨c0, c1, c2, c3, c4, c5⟩ := cells6 (blk B3.out hb)
          obtain ⟨d0, d1, d2, d3, d4, d5⟩ := cells6 (blk B5.out hb)
          clear hb
          go_wp2_with fail
          go_ret
          exact ⟨by first | rfl | simp, KG.out⟩
end Mov
end Go.Proofs.YtjgodmfannhnhaaDoor
