/- The law KeysGuard. Written by tools/gen_kyb_laws.py. -/
import Derived.Test.YtpgbnnnfeaodmaaGreatDoorKybAwake
import Derived.Test.YtpgbnnnfeaodmaaGreatDoorBunGrd
import Derived.Test.YtpgbnnnfeaodmaaGreatDoorBunGrd
import Derived.Test.YtpgbnnnfeaodmaaGreatDoorOpnScr
import Derived.Test.YtpgbnnnfeaodmaaGreatDoorOpnKey
import Derived.Test.YtpgbnnnfeaodmaaGreatDoorBunGrd
import Derived.Test.YtpgbnnnfeaodmaaGreatDoorBunFld
import Derived.Deep.LoopGhost
import Derived.Deep.QuietTactic
import Derived.BigQuiet
import Derived.StillTailTactics
import Derived.Deep.Cut
import Derived.Deep.RegionHeld3
namespace Go.Proofs.YtpgbnnnfeaodmaaGreatDoor
open Go.RowKit Sha Six Apd Cut Err Att Grd Fld Scr Edt
set_option linter.unusedVariables false
namespace Kyb
set_option maxRecDepth 100000 in
set_option maxHeartbeats 8000000 in
theorem guards_any (s : S) (ad : Option Addr) (k : Nat) (kind c : Int) (w : World) (h : CelsIn w (.slice ad s.cs.length k) s.cs) (hwf : Opn.Wf s.cs) (hm : s.cs.length ≤ maxLen) (wkind : (Lit.int .i64 kind).wf = true) (wc : (Lit.int .u8 c).wf = true) (hg : Handle w) :
    Calls Tryz.prog 4 #[.agg #[.int .i64 s.rows, .int .i64 s.cols, .slice ad s.cs.length k, .int .i64 s.cur, .bool s.lk, .bool s.ins], .agg #[.int .i64 kind, .int .u8 c]] w fun e w' => e = .returned (.bool true) ∧ Below w.heap.size w w' := by
  obtain ⟨b0c, b1c⟩ := Go.Proofs.YtpgbnnnfeaodmaaGreatDoor.Ord.wf_u8 wc
  obtain ⟨c, rfl⟩ := Int.eq_ofNat_of_zero_le b0c
  have HBc := Lib.hid (show c < 256 by omega)
  have HAW := Lib.hid fun W (hb : Below w.heap.size w W) => awake_any W (hand_of hg hb)
  have HB := Lib.hid (kept_trans (al_any w (.cells #[.int .i64 s.rows, .int .i64 s.cols, .slice ad s.cs.length k, .int .i64 s.cur, .bool s.lk, .bool s.ins] 24)) (al_any _ (.cells #[.int .i64 kind, .int .u8 (c : Int)] 26)))
  have HX := Lib.hid (heap_alloc2_old w (.cells #[.int .i64 s.rows, .int .i64 s.cols, .slice ad s.cs.length k, .int .i64 s.cur, .bool s.lk, .bool s.ins] 24) (.cells #[.int .i64 kind, .int .u8 (c : Int)] 26))
  have HY := Lib.hid (heap_alloc2_new w (.cells #[.int .i64 s.rows, .int .i64 s.cols, .slice ad s.cs.length k, .int .i64 s.cur, .bool s.lk, .bool s.ins] 24) (.cells #[.int .i64 kind, .int .u8 (c : Int)] 26))
  have HI := Lib.hid (h.below HB.out)
  have HF := Lib.hid fun W hb => rfew_any s ad k W (HI.out.below hb) (wf_sound hwf)
  have H8 := Lib.hid (wf_sound hwf)
  clear h hwf hm hg wkind wc b0c b1c
  cases hf : few s with
  | false =>
    rw [hf] at HF
    go_enter Tryz.func4, Tryz.ntmps4
    go_upto_region 1 with (fail)
    generalize (w.alloc _).alloc _ = w1 at *
    go_wp2_with fail
    with_reducible refine (HAW.out _ HB.out).mono ?_
    rintro e w2 ⟨rfl, hb⟩
    have K2 := Lib.hid hb
    have X2 := Lib.hid (blk HX.out hb)
    have Y2 := Lib.hid (blk HY.out hb)
    have K2' := kept_hid HB hb
    have I2 := Lib.hid (HI.out.below hb)
    clear hb
    obtain ⟨c0, c1, c2, c3, c4, c5⟩ := cells6 X2.out
    go_wp2_with fail
    with_reducible refine (HF.out _ K2.out).mono ?_
    rintro e w3 ⟨rfl, hb⟩
    have K3 := kept_hid K2' hb
    have X3 := Lib.hid (blk X2.out hb)
    have Y3 := Lib.hid (blk Y2.out hb)
    have I3 := Lib.hid (I2.out.below hb)
    clear hb c0 c1 c2 c3 c4 c5 K2 K2' X2 Y2 I2 HB HX HY HI HF
    go_wp2_with fail
    with_reducible refine (HAW.out _ K3.out).mono ?_
    rintro e w4 ⟨rfl, hb⟩
    have KE := kept_hid K3 hb
    clear hb
    go_wp2_with fail
    go_ret
    exact ⟨rfl, KE.out⟩
  | true =>
    rw [hf] at HF
    obtain ⟨q1, q2, q3⟩ := few_parts hf
    have HL := Lib.hid q1
    have HP := Lib.hid q2
    have HR := Lib.hid q3
    have HLT := Lib.hid (show s.cs.length < 10000 from by have := HL.out; omega)
    clear q1 q2 q3 hf
    go_enter Tryz.func4, Tryz.ntmps4
    go_upto_region 1 with (fail)
    generalize (w.alloc _).alloc _ = w1 at *
    go_wp2_with fail
    with_reducible refine (HAW.out _ HB.out).mono ?_
    rintro e w2 ⟨rfl, hb⟩
    have K2 := Lib.hid hb
    have X2 := Lib.hid (blk HX.out hb)
    have Y2 := Lib.hid (blk HY.out hb)
    have K2' := kept_hid HB hb
    have I2 := Lib.hid (HI.out.below hb)
    clear hb
    obtain ⟨c0, c1, c2, c3, c4, c5⟩ := cells6 X2.out
    go_wp2_with fail
    with_reducible refine (HF.out _ K2.out).mono ?_
    rintro e w3 ⟨rfl, hb⟩
    have K3 := kept_hid K2' hb
    have X3 := Lib.hid (blk X2.out hb)
    have Y3 := Lib.hid (blk Y2.out hb)
    have I3 := Lib.hid (I2.out.below hb)
    clear hb c0 c1 c2 c3 c4 c5 K2 K2' X2 Y2 I2 HB HX HY HI HF
    by_cases h17 : kind = 17
    · subst h17
      obtain ⟨y0, y1⟩ := cells2 Y3.out
      go_wp2_with fail
      with_reducible refine (HAW.out _ K3.out).mono ?_
      rintro e w4 ⟨rfl, hb⟩
      have KE := kept_hid K3 hb
      clear hb
      go_wp2_with fail
      go_ret
      exact ⟨rfl, KE.out⟩
    · clear HAW
      have e17 : (kind == 17) = false := by simpa using h17
      have HTL := Lib.hid (kdo_length s kind c)
      have HTR := Lib.hid (kdo_right HR.out kind c)
      have HCH := Lib.hid (fun i (hi : i < s.cs.length) => kdo_change HR.out c h17 (i := i) hi)
      have HBF := Lib.hid (fun q (hq : q < s.cs.length) => begin_fat (cs := s.cs) hq)
      have HBG2 := Lib.hid fun W h q hq => rbegin_any s ad k q W h (by omega) (by have := HLT.out; omega) hq
      have HOP2 := Lib.hid fun W h q hq => ropen_any s ad k q W h (by omega) (by have := HLT.out; omega) hq
      have Q1 := Lib.hid (do_any s ad k c kind w3 I3.out HR.out H8.out HLT.out HBc.out)
      rw [kdo_asks h17] at Q1
      simp only [GaveK] at Q1
      generalize (kdo s kind c).2.2.2 = wh at *
      generalize (kdo s kind c).2.2.1 = code at *
      generalize (kdo s kind c).1 = t at *
      replace h17 := Lib.hid h17
      obtain ⟨y0, y1⟩ := cells2 Y3.out
      go_upto_region 3 with (fail)
      clear y0 y1
      obtain ⟨c0, c1, c2, c3, c4, c5⟩ := cells6 X3.out
      obtain ⟨y0, y1⟩ := cells2 Y3.out
      go_wp2_with fail
      with_reducible refine Q1.out.mono ?_
      rintro e w4 ⟨va1, vc1, ev1, rfl, hc, ht, hn, hb⟩
      clear c0 c1 c2 c3 c4 c5 y0 y1
      have HA := al_any w4 (.cells #[.int .i64 t.rows, .int .i64 t.cols, .slice va1 t.cs.length vc1, .int .i64 t.cur, .bool t.lk, .bool t.ins] 24)
      have B1 := Lib.hid (heap_alloc_new w4 (.cells #[.int .i64 t.rows, .int .i64 t.cols, .slice va1 t.cs.length vc1, .int .i64 t.cur, .bool t.lk, .bool t.ins] 24))
      have C1 := Lib.hid (hc.below HA)
      have T1 := Lib.hid (Err.Told.below ht HA)
      have E1 := Lib.hid (fun h => (hn h).1)
      replace hb := kept_trans hb HA
      replace X3 := Lib.hid (blk X3.out hb)
      replace Y3 := Lib.hid (blk Y3.out hb)
      replace I3 := Lib.hid (I3.out.below hb)
      replace K3 := kept_hid K3 hb
      clear HA hc ht hn hb
      go_upto_region 4 with (fail)
      generalize w4.heap.size = N1 at *
      generalize w4.alloc _ = w4b at *
      clear Q1 T1 E1
      have HRG := Lib.hid (rright_any t va1 vc1 w4b C1.out (right_sound HTR.out) (by rw [HTL.out.1]; have := HL.out; omega))
      rw [HTR.out] at HRG
      have hll : ((t.cs.length : Int) != (s.cs.length : Int)) = false := by rw [HTL.out.1]; simp
      obtain ⟨c0, c1, c2, c3, c4, c5⟩ := cells6 B1.out
      obtain ⟨d0, d1, d2, d3, d4, d5⟩ := cells6 X3.out
      go_wp2_with fail
      with_reducible refine HRG.out.mono ?_
      rintro e w6 ⟨rfl, hb⟩
      clear c0 c1 c2 c3 c4 c5 d0 d1 d2 d3 d4 d5 HRG
      replace X3 := Lib.hid (blk X3.out hb)
      replace Y3 := Lib.hid (blk Y3.out hb)
      replace B1 := Lib.hid (blk B1.out hb)
      replace I3 := Lib.hid (I3.out.below hb)
      replace C1 := Lib.hid (C1.out.below hb)
      replace K3 := kept_hid K3 hb
      clear hb
      obtain ⟨c0, c1, c2, c3, c4, c5⟩ := cells6 B1.out
      obtain ⟨d0, d1, d2, d3, d4, d5⟩ := cells6 X3.out
      go_upto_region 6 with (fail)
      clear c0 c1 c2 c3 c4 c5 d0 d1 d2 d3 d4 d5 hll
      go_wp2_with fail
      go_loopg [8] (s.cs.length + 1) (fun mm ii wr => ∃ q : Nat, q ≤ s.cs.length ∧ mm = s.cs.length + 1 - q ∧ ii = .int .i64 q ∧ Hid (Below w6.heap.size w6 wr))
      case atStart => exact ⟨0, Nat.zero_le _, rfl, rfl, Lib.hid (Below.refl _ _)⟩
      case round =>
        obtain ⟨q, hq, rfl, rfl, K9⟩ := hrel
        have ew : IntKind.i64.wrap ((q : Int) + 1) = (q : Int) + 1 := by
          have := HL.out
          rw [IntWalk.i64_in] <;> omega
        have X9 := Lib.hid (blk X3.out K9.out)
        have B9 := Lib.hid (blk B1.out K9.out)
        have C9 := Lib.hid (C1.out.below K9.out)
        obtain ⟨c0, c1, c2, c3, c4, c5⟩ := cells6 B9.out
        obtain ⟨d0, d1, d2, d3, d4, d5⟩ := cells6 X9.out
        by_cases hlt : q < s.cs.length
        · obtain ⟨xf, xp, xn, xs', xm, xc, ex⟩ := c_eta (t.cs.getD q noC)
          obtain ⟨yf, yp, yn, ys', ym, yc, ey⟩ := c_eta (s.cs.getD q noC)
          obtain ⟨b1, o1, hva, g0, g1, g2, g3, g4, g5⟩ := C9.out.cells (show q < t.cs.length by rw [HTL.out.1]; exact hlt) ex
          subst hva
          have hi0 : (0 : Int) ≤ (q : Int) := by omega
          have hi1 : (q : Int) < (s.cs.length : Int) := by omega
          have hi2 : (q : Int) < (t.cs.length : Int) := by rw [HTL.out.1]; omega
          have HAL := al_any wr (.cells #[.bool xf, .bool xp, .bool xn, .int .i64 xs', .bool xm, .int .u8 (xc : Int)] 42)
          have YC := Lib.hid (heap_alloc_new wr (.cells #[.bool xf, .bool xp, .bool xn, .int .i64 xs', .bool xm, .int .u8 (xc : Int)] 42))
          have K10 := kept_hid K9 HAL
          have HYN := Lib.hid K9.out.size
          clear HAL
          go_upto_region 10 with (fail)
          clear c0 c1 c2 c3 c4 c5 d0 d1 d2 d3 d4 d5 g0 g1 g2 g3 g4 g5 X9 B9 C9 K9
          generalize wr.alloc _ = w7 at *
          generalize wr.heap.size = Y at *
          have X9 := Lib.hid (blk X3.out K10.out)
          have I9 := Lib.hid (I3.out.below K10.out)
          obtain ⟨b2, o2, had, p0, p1, p2, p3, p4, p5⟩ := I9.out.cells hlt ey
          subst had
          obtain ⟨d0, d1, d2, d3, d4, d5⟩ := cells6 X9.out
          obtain ⟨e0, e1, e2, e3, e4, e5⟩ := cells6 YC.out
          have HN : ∀ W, (binOp BinOp.eql 42 (.agg #[.bool xf, .bool xp, .bool xn, .int .i64 xs', .bool xm, .int .u8 (xc : Int)]) (.agg #[.bool yf, .bool yp, .bool yn, .int .i64 ys', .bool ym, .int .u8 (yc : Int)])).run Tryz.prog W = .ok (.bool (decide ((⟨xf, xp, xn, xs', xm, xc⟩ : C) = ⟨yf, yp, yn, ys', ym, yc⟩))) W := fun W => by
            have := run_eqC ⟨xf, xp, xn, xs', xm, xc⟩ ⟨yf, yp, yn, ys', ym, yc⟩ W
            rw [run_eql_struct, this]; rfl
          generalize hd : decide ((⟨xf, xp, xn, xs', xm, xc⟩ : C) = ⟨yf, yp, yn, ys', ym, yc⟩) = bd at HN
          have HDN := Lib.hid fun n => below_drewN w7.heap.size n w7
          cases bd with
          | true =>
            clear hd ex ey
            go_quiet (fail)
            go_wp2_with fail
            go_roundg (s.cs.length + 1 - (q + 1))
            case measure => omega
            case rel => exact ⟨q + 1, by omega, rfl, by first | rfl | go_num, kept_hid K10 (HDN.out _)⟩
          | false =>
            have hdn : t.cs.getD q noC ≠ s.cs.getD q noC := by rw [ex, ey]; simpa using hd
            have z2 := HCH.out q hlt hdn
            rw [ex, ey] at z2
            simp only at z2
            have HQ := Lib.hid hlt
            have Z2 := Lib.hid z2
            have EY := Lib.hid ey
            clear hd ex ey hdn z2
            go_quiet (fail)
            have K11 := kept_hid K10 (HDN.out nq)
            have YD := Lib.hid (blk YC.out (HDN.out nq))
            clear d0 d1 d2 d3 d4 d5 p0 p1 p2 p3 p4 p5 e0 e1 e2 e3 e4 e5 X9 I9 K10 YC HDN
            generalize w7.drewN nq = wz at *
            have X10 := Lib.hid (blk X3.out K11.out)
            have I10 := Lib.hid (I3.out.below K11.out)
            obtain ⟨b3, o3, had, p0, p1, p2, p3, p4, p5⟩ := I10.out.cells hlt EY.out
            injection had with had
            injection had with ha1 ha2
            subst ha1 ha2
            obtain ⟨d0, d1, d2, d3, d4, d5⟩ := cells6 X10.out
            obtain ⟨e0, e1, e2, e3, e4, e5⟩ := cells6 YD.out
            rcases Z2.out with ⟨zf, zm⟩ | ⟨zf, zx, zo, zb, z14⟩
            · subst zf
              injection zm with t1 t2 t3 t4 t5 t6
              subst t1 t2 t3 t4 t6
              clear t5
              have p4' : wz.cell? ⟨b2, o2 + q * 6 + 1 + 3, none⟩ = some (.bool ym) := p4
              obtain ⟨f0, f1, f2, f3, f4, f5⟩ := free6 YD.out
              have e4' : wz.cell? ⟨Y, 1 + 3, none⟩ = some (.bool xm) := e4
              have SO := gsetCell wz Y 4 (.bool ym)
              have YS := Lib.hid (heap_setCell_same wz Y 4 _ 42 (.bool ym) YD.out)
              have K12 := Lib.hid (below_grown K11.out SO HYN.out)
              clear SO
              go_upto_region 13 with (fail)
              clear d0 d1 d2 d3 d4 d5 p0 p1 p2 p3 p4 p5 e0 e1 e2 e3 e4 e5 p4' e4' f0 f1 f2 f3 f4 f5 X10 I10 K11 YD
              generalize wz.setCell _ _ = wu at *
              have X11 := Lib.hid (blk X3.out K12.out)
              have I11 := Lib.hid (I3.out.below K12.out)
              obtain ⟨b3, o3, had, p0, p1, p2, p3, p4, p5⟩ := I11.out.cells hlt EY.out
              injection had with had
              injection had with ha1 ha2
              subst ha1 ha2
              obtain ⟨d0, d1, d2, d3, d4, d5⟩ := cells6 X11.out
              obtain ⟨e0, e1, e2, e3, e4, e5⟩ := cells6 YS.out
              have HN2 := run_neqC ⟨true, xp, xn, xs', ym, xc⟩ ⟨true, xp, xn, xs', ym, xc⟩
              rw [decide_eq_true rfl] at HN2
              simp only [Bool.not_true] at HN2
              have HDN := Lib.hid fun n => below_drewN wu.heap.size n wu
              go_quiet (fail)
              go_wp2_with fail
              go_roundg (s.cs.length + 1 - (q + 1))
              case measure => omega
              case rel => exact ⟨q + 1, HQ.out, rfl, by first | rfl | go_num, kept_hid K12 (HDN.out _)⟩
            · subst zf
              subst zx
              have ZB := Lib.hid zb
              have Z14 := Lib.hid z14
              have HBq := Lib.hid (HBG2.out wz I10.out q hlt)
              have HBf := Lib.hid (HBF.out q hlt)
              have HOq := Lib.hid fun W (hb : Below wz.heap.size wz W) => HOP2.out W (I10.out.below hb) q hlt
              rw [zo] at HOq
              clear zo zb z14
              generalize begin_ s.cs q = bq at *
              go_wp2_with fail
              with_reducible refine HBq.out.mono ?_
              rintro e wb ⟨rfl, hb⟩
              clear d0 d1 d2 d3 d4 d5 p0 p1 p2 p3 p4 p5 e0 e1 e2 e3 e4 e5 HBq
              have HOr := Lib.hid (HOq.out _ hb)
              have X11 := Lib.hid (blk X10.out hb)
              have YE := Lib.hid (blk YD.out hb)
              have K12 := kept_hid K11 hb
              clear hb HOq X10 YD K11
              obtain ⟨d0, d1, d2, d3, d4, d5⟩ := cells6 X11.out
              obtain ⟨e0, e1, e2, e3, e4, e5⟩ := cells6 YE.out
              go_wp2_with fail
              with_reducible refine HOr.out.mono ?_
              rintro e wu ⟨rfl, hb⟩
              clear d0 d1 d2 d3 d4 d5 e0 e1 e2 e3 e4 e5 HOr
              have YF := Lib.hid (blk YE.out hb)
              have K13 := kept_hid K12 hb
              clear hb X11 YE K12
              have BF := Lib.hid (blk B1.out K13.out)
              have CF := Lib.hid (C1.out.below K13.out)
              obtain ⟨y0, y1⟩ := cells2 (blk Y3.out K13.out)
              obtain ⟨e0, e1, e2, e3, e4, e5⟩ := cells6 YF.out
              obtain ⟨d0, d1, d2, d3, d4, d5⟩ := cells6 BF.out
              by_cases h14 : kind = 14
              · have hz := Z14.out h14
                subst hz
                subst h14
                go_wp2_with fail
                go_roundg (s.cs.length + 1 - (q + 1))
                case measure => omega
                case rel => exact ⟨q + 1, HQ.out, rfl, by first | rfl | go_num, K13⟩
              · have e14 : (kind == 14) = false := by simpa using h14
                have e14' : (kind != 14) = true := by simpa using h14
                by_cases hb0 : 0 ≤ bq
                · obtain ⟨b, hbe, hbl, _⟩ := HBf.out (by omega)
                  subst hbe
                  have hmd := ZB.out h14 b rfl
                  obtain ⟨uf, up, un, us', um, uc, eu⟩ := c_eta (t.cs.getD b noC)
                  rw [eu] at hmd
                  simp only at hmd
                  subst hmd
                  obtain ⟨b4, o4, hva4, g0, g1, g2, g3, g4, g5⟩ := CF.out.cells (show b < t.cs.length by rw [HTL.out.1]; exact hbl) eu
                  injection hva4 with hva4
                  injection hva4 with ha1 ha2
                  subst ha1 ha2
                  have g4' : wu.cell? ⟨b1, o1 + b * 6 + 1 + 3, none⟩ = some (.bool true) := g4
                  have hj0 : (0 : Int) ≤ (b : Int) := by omega
                  have hj1 : (b : Int) < (t.cs.length : Int) := by rw [HTL.out.1]; omega
                  replace h14 := Lib.hid h14
                  clear eu hbl hb0
                  go_wp2_with fail
                  go_roundg (s.cs.length + 1 - (q + 1))
                  case measure => omega
                  case rel => exact ⟨q + 1, HQ.out, rfl, by first | rfl | go_num, K13⟩
                · replace h14 := Lib.hid h14
                  go_wp2_with fail
                  go_roundg (s.cs.length + 1 - (q + 1))
                  case measure => omega
                  case rel => exact ⟨q + 1, HQ.out, rfl, by first | rfl | go_num, K13⟩
        · obtain rfl : q = s.cs.length := by omega
          have hn0 : ¬ (s.cs.length : Int) < (s.cs.length : Int) := by omega
          have K10 := kept_hid K3 K9.out
          clear hlt
          go_wp2_with fail
          go_ret
          exact ⟨rfl, K10.out⟩
end Kyb
end Go.Proofs.YtpgbnnnfeaodmaaGreatDoor
