/- The law EditGuards. Written by tools/gen_edt_laws.py. -/
import Derived.Test.YtoafcmklomopaaaDoorEdtAwake
import Derived.Test.YtoafcmklomopaaaDoorEdtRtyp3
import Derived.Test.YtoafcmklomopaaaDoorBunGrd
import Derived.Test.YtoafcmklomopaaaDoorBunGrd
import Derived.Test.YtoafcmklomopaaaDoorOpnScr
import Derived.Test.YtoafcmklomopaaaDoorBunGrd
import Derived.Test.YtoafcmklomopaaaDoorBunFld
import Derived.Deep.QuietTactic
import Derived.StillTailTactics
import Derived.Deep.Cut
import Derived.Deep.RegionHeld3
namespace Go.Proofs.YtoafcmklomopaaaDoor
open Go.RowKit Sha Six Apd Cut Err Att Grd Fld Scr
set_option linter.unusedVariables false
namespace Edt
set_option maxRecDepth 100000 in
set_option maxHeartbeats 8000000 in
theorem guards_any (s : S) (ad : Option Addr) (k : Nat) (c : Int) (w : World) (h : CelsIn w (.slice ad s.cs.length k) s.cs) (hwf : Opn.Wf s.cs) (hm : s.cs.length ≤ maxLen) (wc : (Lit.int .u8 c).wf = true) (hg : Handle w) :
    Calls Tryd.prog 5 #[.agg #[.int .i64 s.rows, .int .i64 s.cols, .slice ad s.cs.length k, .int .i64 s.cur, .bool s.lk, .bool s.ins], .int .u8 c] w fun e w' => e = .returned (.bool true) ∧ Below w.heap.size w w' := by
  obtain ⟨b0c, b1c⟩ := Go.Proofs.YtoafcmklomopaaaDoor.Ord.wf_u8 wc
  obtain ⟨c, rfl⟩ := Int.eq_ofNat_of_zero_le b0c
  have HBc := Lib.hid (show c < 256 by omega)
  have HG := Lib.hid fun W (hb : Below w.heap.size w W) => hand_of hg hb
  have HAW := Lib.hid fun W (hb : Below w.heap.size w W) => awake_any W (hand_of hg hb)
  have HB := Lib.hid (al_any w (.cells #[.int .i64 s.rows, .int .i64 s.cols, .slice ad s.cs.length k, .int .i64 s.cur, .bool s.lk, .bool s.ins] 24))
  have HX := Lib.hid (heap_alloc_new w (.cells #[.int .i64 s.rows, .int .i64 s.cols, .slice ad s.cs.length k, .int .i64 s.cur, .bool s.lk, .bool s.ins] 24))
  have HI := Lib.hid (h.below HB.out)
  have HF := Lib.hid fun W hb => rfew_any s ad k W (HI.out.below hb) (wf_sound hwf)
  have H8 := Lib.hid (wf_sound hwf)
  have HCO := Lib.hid fun W ev (c n : Int) (hb : Below w.heap.size w W) (ht : Err.Told W ev c n) => code_told ev c n W (hand_of hg hb) ht
  have HWH := Lib.hid fun W ev (c n : Int) (hb : Below w.heap.size w W) (ht : Err.Told W ev c n) => where_told ev c n W (hand_of hg hb) ht
  clear h hwf hm hg wc b0c b1c
  cases hf : few s with
  | false =>
    rw [hf] at HF
    go_enter Tryd.func5, Tryd.ntmps5
    go_upto_region 1 with (fail)
    generalize w.alloc _ = w1 at *
    go_wp2_with fail
    with_reducible refine (HAW.out _ HB.out).mono ?_
    rintro e w2 ⟨rfl, hb⟩
    have K2 := Lib.hid hb
    have X2 := Lib.hid (blk HX.out hb)
    have K2' := kept_hid HB hb
    have I2 := Lib.hid (HI.out.below hb)
    clear hb
    obtain ⟨c0, c1, c2, c3, c4, c5⟩ := cells6 X2.out
    go_wp2_with fail
    with_reducible refine (HF.out _ K2.out).mono ?_
    rintro e w3 ⟨rfl, hb⟩
    have K3 := kept_hid K2' hb
    have X3 := Lib.hid (blk X2.out hb)
    have I3 := Lib.hid (I2.out.below hb)
    clear hb c0 c1 c2 c3 c4 c5 K2 K2' X2 I2 HB HX HI HF
    go_wp2_with fail
    with_reducible refine (HAW.out _ K3.out).mono ?_
    rintro e w4 ⟨rfl, hb⟩
    have KE := kept_hid K3 hb
    clear hb
    go_wp2_with fail
    go_ret
    exact ⟨rfl, KE.out⟩
  | true =>
    rw [hf] at HF
    obtain ⟨q1, q2, q3⟩ := few_parts hf
    have HL := Lib.hid q1
    have HP := Lib.hid q2
    have HR := Lib.hid q3
    have HLT := Lib.hid (show s.cs.length < 10000 from by have := HL.out; omega)
    clear q1 q2 q3 hf
    go_enter Tryd.func5, Tryd.ntmps5
    go_upto_region 1 with (fail)
    generalize w.alloc _ = w1 at *
    go_wp2_with fail
    with_reducible refine (HAW.out _ HB.out).mono ?_
    rintro e w2 ⟨rfl, hb⟩
    have K2 := Lib.hid hb
    have X2 := Lib.hid (blk HX.out hb)
    have K2' := kept_hid HB hb
    have I2 := Lib.hid (HI.out.below hb)
    clear hb
    obtain ⟨c0, c1, c2, c3, c4, c5⟩ := cells6 X2.out
    go_wp2_with fail
    with_reducible refine (HF.out _ K2.out).mono ?_
    rintro e w3 ⟨rfl, hb⟩
    have K3 := kept_hid K2' hb
    have X3 := Lib.hid (blk X2.out hb)
    have I3 := Lib.hid (I2.out.below hb)
    clear hb c0 c1 c2 c3 c4 c5 K2 K2' X2 I2 HB HX HI HF
    clear HAW
    by_cases hcode : (typ s c).2.1 = 0
    · obtain ⟨kc, hcur, hcn, hk⟩ := cur_nat HR.out
      have HTY := Lib.hid (show typ s c = (typed s kc c, 0, -1) ∧ open_ s.cs kc = true ∧ s.lk = false ∧ ltr c = true from by
        rcases typ_cases s c with ⟨code, _, h0, h | h⟩ | ⟨h, c1, c2, c3, _, _⟩
        · rw [h] at hcode; exact absurd hcode h0
        · rw [h] at hcode; exact absurd hcode h0
        rw [hcn] at h c3
        exact ⟨h, c3, c2, c1⟩)
      have HRT := Lib.hid (typed_right HR.out hk HTY.out.2.1 (ltr_char HTY.out.2.2.2).1)
      have Q1 := Lib.hid (type_any s ad k c w3 I3.out HR.out H8.out HLT.out HBc.out)
      simp only [GaveE] at Q1
      rw [HTY.out.1] at Q1
      simp only [typed] at Q1 HRT
      obtain ⟨l1, l2, l3, l4⟩ := laid_at hk HTY.out.2.1 c
      have HL1 := Lib.hid l1
      have HL3 := Lib.hid l3
      have HLCH := Lib.hid (fun i => laid_change hk HTY.out.2.1 c i)
      have HLC := Lib.hid (laid_length s kc c)
      have HGL := Lib.hid (goes_lt (cs := laid s kc c) (by rw [laid_length]; omega) kc)
      have HBF := Lib.hid (begin_fat (cs := s.cs) hk)
      have HKK := Lib.hid hk
      have HBEG := Lib.hid fun W h => rbegin_any s ad k kc W h (by omega) (by have := HLT.out; omega) hk
      have HBG2 := Lib.hid fun W h q hq => rbegin_any s ad k q W h (by omega) (by have := HLT.out; omega) hq
      have HOP2 := Lib.hid fun W h q hq => ropen_any s ad k q W h (by omega) (by have := HLT.out; omega) hq
      have HLK := Lib.hid HTY.out.2.2.1
      generalize laid s kc c = lc at *
      generalize goes lc kc = gk at *
      generalize begin_ s.cs kc = bI at *
      clear hcode hk hcn l1 l2 l3 l4 HTY
      replace hcur := Lib.hid hcur
      obtain ⟨c0, c1, c2, c3, c4, c5⟩ := cells6 X3.out
      go_wp2_with fail
      with_reducible refine Q1.out.mono ?_
      rintro e w4 ⟨va1, vc1, ev1, rfl, hc, ht, hn, hb⟩
      clear c0 c1 c2 c3 c4 c5
      have HA := al_any w4 (.cells #[.int .i64 s.rows, .int .i64 s.cols, .slice va1 lc.length vc1, .int .i64 ((gk : Nat) : Int), .bool s.lk, .bool s.ins] 24)
      have B1 := Lib.hid (heap_alloc_new w4 (.cells #[.int .i64 s.rows, .int .i64 s.cols, .slice va1 lc.length vc1, .int .i64 ((gk : Nat) : Int), .bool s.lk, .bool s.ins] 24))
      have C1 := Lib.hid (hc.below HA)
      have T1 := Lib.hid (Err.Told.below ht HA)
      have E1 := Lib.hid (fun h => (hn h).1)
      clear hn
      replace hb := kept_trans hb HA
      replace X3 := Lib.hid (blk X3.out hb)
      replace I3 := Lib.hid (I3.out.below hb)
      replace K3 := kept_hid K3 hb
      clear HA hc ht hb
      go_upto_region 4 with (fail)
      generalize w4.heap.size = N1 at *
      generalize w4.alloc _ = w4b at *
      have HRG := Lib.hid (rright_any ⟨s.rows, s.cols, lc, ((gk : Nat) : Int), s.lk, s.ins⟩ va1 vc1 w4b C1.out (right_sound HRT.out) (by simp only; rw [HLC.out]; have := HL.out; omega))
      rw [HRT.out] at HRG
      simp only at HRG
      have hll : ((lc.length : Int) != (s.cs.length : Int)) = false := by rw [HLC.out]; simp
      obtain ⟨c0, c1, c2, c3, c4, c5⟩ := cells6 B1.out
      obtain ⟨d0, d1, d2, d3, d4, d5⟩ := cells6 X3.out
      have e1 := E1.out rfl
      subst e1
      go_wp2_with fail
      with_reducible refine HRG.out.mono ?_
      rintro e w5 ⟨rfl, hb⟩
      replace X3 := Lib.hid (blk X3.out hb)
      replace B1 := Lib.hid (blk B1.out hb)
      replace I3 := Lib.hid (I3.out.below hb)
      replace C1 := Lib.hid (C1.out.below hb)
      replace K3 := kept_hid K3 hb
      clear hb HRG c0 c1 c2 c3 c4 c5 d0 d1 d2 d3 d4 d5
      rw [hcur.out] at X3 HBEG
      obtain ⟨c0, c1, c2, c3, c4, c5⟩ := cells6 B1.out
      obtain ⟨d0, d1, d2, d3, d4, d5⟩ := cells6 X3.out
      have HBE1 := Lib.hid (HBEG.out w5 I3.out)
      go_wp2_with fail
      with_reducible refine HBE1.out.mono ?_
      rintro e w6 ⟨rfl, hb⟩
      clear c0 c1 c2 c3 c4 c5 d0 d1 d2 d3 d4 d5 hll HBE1 HBEG
      replace X3 := Lib.hid (blk X3.out hb)
      replace B1 := Lib.hid (blk B1.out hb)
      replace I3 := Lib.hid (I3.out.below hb)
      replace C1 := Lib.hid (C1.out.below hb)
      replace K3 := kept_hid K3 hb
      clear hb T1 E1
      go_wp2_with fail
      go_loopg [9] (s.cs.length + 1) (fun mm ii wr => ∃ q : Nat, q ≤ s.cs.length ∧ mm = s.cs.length + 1 - q ∧ ii = .int .i64 q ∧ Hid (Below w6.heap.size w6 wr))
      case atStart => exact ⟨0, Nat.zero_le _, rfl, rfl, Lib.hid (Below.refl _ _)⟩
      case round =>
        obtain ⟨q, hq, rfl, rfl, K9⟩ := hrel
        have ew : IntKind.i64.wrap ((q : Int) + 1) = (q : Int) + 1 := by
          have := HL.out
          rw [IntWalk.i64_in] <;> omega
        have X9 := Lib.hid (blk X3.out K9.out)
        have B9 := Lib.hid (blk B1.out K9.out)
        have I9 := Lib.hid (I3.out.below K9.out)
        have C9 := Lib.hid (C1.out.below K9.out)
        obtain ⟨c0, c1, c2, c3, c4, c5⟩ := cells6 B9.out
        obtain ⟨d0, d1, d2, d3, d4, d5⟩ := cells6 X9.out
        by_cases hlt : q < s.cs.length
        · obtain ⟨xf, xp, xn, xs', xm, xc, ex⟩ := c_eta (lc.getD q noC)
          obtain ⟨yf, yp, yn, ys', ym, yc, ey⟩ := c_eta (s.cs.getD q noC)
          obtain ⟨b1, o1, hva, g0, g1, g2, g3, g4, g5⟩ := C9.out.cells (show q < lc.length by rw [HLC.out]; exact hlt) ex
          subst hva
          obtain ⟨b2, o2, had, p0, p1, p2, p3, p4, p5⟩ := I9.out.cells hlt ey
          subst had
          have hi0 : (0 : Int) ≤ (q : Int) := by omega
          have hi1 : (q : Int) < (s.cs.length : Int) := by omega
          have hi2 : (q : Int) < (lc.length : Int) := by rw [HLC.out]; omega
          by_cases hb : bI = (q : Int)
          · have eb : ((q : Int) == bI) = true := by rw [hb]; simp
            have h3 := HL3.out q hb
            obtain ⟨b', hb', _, hbf⟩ := HBF.out (by omega)
            have hqb : b' = q := by omega
            subst hqb
            rw [ey] at h3 hbf
            rw [ex] at h3
            simp only at hbf
            subst hbf
            injection h3 with t1 t2 t3 t4 t5 t6
            subst t1 t2 t3 t4 t5 t6
            clear hb hb'
            have g4' : wr.cell? ⟨b1, o1 + b' * 6 + 1 + 3, none⟩ = some (.bool true) := g4
            have p4' : wr.cell? ⟨b2, o2 + b' * 6 + 1 + 3, none⟩ = some (.bool ym) := p4
            have HAL := al_any wr (.cells #[.bool true, .bool xp, .bool xn, .int .i64 xs', .bool ym, .int .u8 (xc : Int)] 50)
            have YC := Lib.hid (heap_alloc_new wr (.cells #[.bool true, .bool xp, .bool xn, .int .i64 xs', .bool ym, .int .u8 (xc : Int)] 50))
            have K10 := kept_hid K9 HAL
            have hxy := there_lt X9.out
            have g0' := ((al_any wr (.cells #[.bool true, .bool xp, .bool xn, .int .i64 xs', .bool true, .int .u8 (xc : Int)] 50)).cell (p := ⟨b2, o2 + b' * 6 + 1 + 3, none⟩) (cell_lt p4')).trans p4'
            clear HAL
            go_upto_region 19 with (fail)
            clear c0 c1 c2 c3 c4 c5 d0 d1 d2 d3 d4 d5 g0 g1 g2 g3 g4 g5 p0 p1 p2 p3 p4 p5 g4' p4' hxy g0' X9 B9 I9 C9 K9
            generalize wr.alloc _ = w7 at *
            generalize wr.heap.size = Y at *
            have X9 := Lib.hid (blk X3.out K10.out)
            have I9 := Lib.hid (I3.out.below K10.out)
            obtain ⟨b3, o3, had, p0, p1, p2, p3, p4, p5⟩ := I9.out.cells hlt ey
            injection had with had
            injection had with e1 e2
            subst e1 e2
            obtain ⟨d0, d1, d2, d3, d4, d5⟩ := cells6 X9.out
            obtain ⟨e0, e1, e2, e3, e4, e5⟩ := cells6 YC.out
            have HN := run_neqC ⟨true, xp, xn, xs', ym, xc⟩ ⟨true, xp, xn, xs', ym, xc⟩
            rw [decide_eq_true rfl] at HN
            simp only [Bool.not_true] at HN
            have HDN := Lib.hid fun n => below_drewN w7.heap.size n w7
            clear ey ex
            go_quiet (fail)
            go_wp2_with fail
            go_roundg (s.cs.length + 1 - (b' + 1))
            case measure => omega
            case rel => exact ⟨b' + 1, by omega, rfl, by first | rfl | go_num, kept_hid K10 (HDN.out _)⟩
          · have eb : ((q : Int) == bI) = false := by rw [beq_eq_false_iff_ne]; exact fun h => hb h.symm
            have HN := run_neqC ⟨xf, xp, xn, xs', xm, xc⟩ ⟨yf, yp, yn, ys', ym, yc⟩
            simp only at HN
            generalize hd : decide ((⟨xf, xp, xn, xs', xm, xc⟩ : C) = ⟨yf, yp, yn, ys', ym, yc⟩) = bd at HN
            have HDN := Lib.hid fun n => below_drewN wr.heap.size n wr
            cases bd with
            | true =>
              simp only [Bool.not_true] at HN
              clear hd ex ey hb
              go_upto_region 21 with (fail)
              go_quiet (fail)
              go_wp2_with fail
              go_roundg (s.cs.length + 1 - (q + 1))
              case measure => omega
              case rel => exact ⟨q + 1, by omega, rfl, by first | rfl | go_num, kept_hid K9 (HDN.out _)⟩
            | false =>
              simp only [Bool.not_false] at HN
              have hdn : ¬ lc.getD q noC = s.cs.getD q noC := by rw [ex, ey]; simpa using hd
              obtain ⟨z1, z2, z3⟩ := HLCH.out q hb hdn
              have HBq := Lib.hid fun W (hbw : Below wr.heap.size wr W) => HBG2.out W (I9.out.below hbw) q hlt
              have HOq := Lib.hid fun W (hbw : Below wr.heap.size wr W) => HOP2.out W (I9.out.below hbw) q hlt
              rw [z1, hcur.out] at HBq
              rw [z2, hcur.out] at HOq
              have hbb : (bI != bI) = false := by simp
              have Z3 := Lib.hid z3
              clear z1 z2 z3 hd ex ey hb hdn HDN
              go_upto_region 21 with (fail)
              clear c0 c1 c2 c3 c4 c5 d0 d1 d2 d3 d4 d5
              have HSX := Lib.hid (show ∀ W', Below wr.heap.size wr W' → Below wr.heap.size wr W' ∧ (W'.cell? ⟨w.heap.size, 0, none⟩ = some (.int .i64 s.rows) ∧ W'.cell? ⟨w.heap.size, 1, none⟩ = some (.int .i64 s.cols) ∧ W'.cell? ⟨w.heap.size, 2, none⟩ = some (.slice (some ⟨b2, o2, none⟩) s.cs.length k) ∧ W'.cell? ⟨w.heap.size, 3, none⟩ = some (.int .i64 (kc : Int)) ∧ W'.cell? ⟨w.heap.size, 4, none⟩ = some (.bool s.lk) ∧ W'.cell? ⟨w.heap.size, 5, none⟩ = some (.bool s.ins)) ∧ W'.cell? ⟨N1, 2, none⟩ = some (.slice (some ⟨b1, o1, none⟩) lc.length vc1) ∧ (W'.cell? ⟨b1, o1 + q * 6, none⟩ = some (.bool xf) ∧ W'.cell? ⟨b1, o1 + q * 6 + 1, none⟩ = some (.bool xp) ∧ W'.cell? ⟨b1, o1 + q * 6 + 2, none⟩ = some (.bool xn) ∧ W'.cell? ⟨b1, o1 + q * 6 + 3, none⟩ = some (.int .i64 xs') ∧ W'.cell? ⟨b1, o1 + q * 6 + 4, none⟩ = some (.bool xm) ∧ W'.cell? ⟨b1, o1 + q * 6 + 5, none⟩ = some (.int .u8 (xc : Int))) ∧ W'.cell? ⟨b2, o2 + q * 6, none⟩ = some (.bool yf) ∧ W'.cell? ⟨b2, o2 + q * 6 + 1, none⟩ = some (.bool yp) ∧ W'.cell? ⟨b2, o2 + q * 6 + 2, none⟩ = some (.bool yn) ∧ W'.cell? ⟨b2, o2 + q * 6 + 3, none⟩ = some (.int .i64 ys') ∧ W'.cell? ⟨b2, o2 + q * 6 + 4, none⟩ = some (.bool ym) ∧ W'.cell? ⟨b2, o2 + q * 6 + 5, none⟩ = some (.int .u8 (yc : Int)) from fun W' hW => ⟨hW, cells6 (blk X9.out hW), (cells6 (blk B9.out hW)).2.2.1, ⟨(hW.cell (p := ⟨b1, _, none⟩) (cell_lt g0)).trans g0, (hW.cell (p := ⟨b1, _, none⟩) (cell_lt g1)).trans g1, (hW.cell (p := ⟨b1, _, none⟩) (cell_lt g2)).trans g2, (hW.cell (p := ⟨b1, _, none⟩) (cell_lt g3)).trans g3, (hW.cell (p := ⟨b1, _, none⟩) (cell_lt g4)).trans g4, (hW.cell (p := ⟨b1, _, none⟩) (cell_lt g5)).trans g5⟩, (hW.cell (p := ⟨b2, _, none⟩) (cell_lt p0)).trans p0, (hW.cell (p := ⟨b2, _, none⟩) (cell_lt p1)).trans p1, (hW.cell (p := ⟨b2, _, none⟩) (cell_lt p2)).trans p2, (hW.cell (p := ⟨b2, _, none⟩) (cell_lt p3)).trans p3, (hW.cell (p := ⟨b2, _, none⟩) (cell_lt p4)).trans p4, (hW.cell (p := ⟨b2, _, none⟩) (cell_lt p5)).trans p5⟩)
              clear g0 g1 g2 g3 g4 g5 p0 p1 p2 p3 p4 p5
              rcases Bool.eq_false_or_eq_true s.ins with hin | hin
              · have hni : (!s.ins) = false := by rw [hin]; rfl
                replace hin := Lib.hid hin
                clear Z3
                refine wp_region_held_drew (S := fun W' => Below wr.heap.size wr W' ∧ (W'.cell? ⟨w.heap.size, 0, none⟩ = some (.int .i64 s.rows) ∧ W'.cell? ⟨w.heap.size, 1, none⟩ = some (.int .i64 s.cols) ∧ W'.cell? ⟨w.heap.size, 2, none⟩ = some (.slice (some ⟨b2, o2, none⟩) s.cs.length k) ∧ W'.cell? ⟨w.heap.size, 3, none⟩ = some (.int .i64 (kc : Int)) ∧ W'.cell? ⟨w.heap.size, 4, none⟩ = some (.bool s.lk) ∧ W'.cell? ⟨w.heap.size, 5, none⟩ = some (.bool s.ins)) ∧ W'.cell? ⟨N1, 2, none⟩ = some (.slice (some ⟨b1, o1, none⟩) lc.length vc1) ∧ (W'.cell? ⟨b1, o1 + q * 6, none⟩ = some (.bool xf) ∧ W'.cell? ⟨b1, o1 + q * 6 + 1, none⟩ = some (.bool xp) ∧ W'.cell? ⟨b1, o1 + q * 6 + 2, none⟩ = some (.bool xn) ∧ W'.cell? ⟨b1, o1 + q * 6 + 3, none⟩ = some (.int .i64 xs') ∧ W'.cell? ⟨b1, o1 + q * 6 + 4, none⟩ = some (.bool xm) ∧ W'.cell? ⟨b1, o1 + q * 6 + 5, none⟩ = some (.int .u8 (xc : Int))) ∧ W'.cell? ⟨b2, o2 + q * 6, none⟩ = some (.bool yf) ∧ W'.cell? ⟨b2, o2 + q * 6 + 1, none⟩ = some (.bool yp) ∧ W'.cell? ⟨b2, o2 + q * 6 + 2, none⟩ = some (.bool yn) ∧ W'.cell? ⟨b2, o2 + q * 6 + 3, none⟩ = some (.int .i64 ys') ∧ W'.cell? ⟨b2, o2 + q * 6 + 4, none⟩ = some (.bool ym) ∧ W'.cell? ⟨b2, o2 + q * 6 + 5, none⟩ = some (.int .u8 (yc : Int))) (by kernel_rfl) (HSX.out _ (Below.refl _ _).drew) (fun hHeld => ?_)
                refine' wpAnyH_take (i := 0) (oi := _) (v := _) ?hi0 (by kernel_rfl) (by kernel_rfl) (by kernel_rfl) ?hq0 ?hy0 (by assumption) ?rest0
                case hi0 => (simp only [List.getElem?_toArray, List.getElem?_cons_zero]; rfl)
                case hy0 =>
                  refine Or.inl ⟨by rfl, ?_⟩
                  intro w' hSw
                  try dsimp only at hSw
                  go_simp
                  try with_reducible rfl
                case hq0 => exact fun _ _ _ h => h
                simp only [Act.put, List.setIfInBounds_toArray, List.set_cons_zero, List.set_cons_succ]
                refine' wpAnyH_take (i := 1) (oi := _) (v := _) ?hi1 (by kernel_rfl) (by kernel_rfl) (by kernel_rfl) ?hq1 ?hy1 (by assumption) ?rest1
                case hi1 => (simp only [List.getElem?_toArray, List.getElem?_cons_succ, List.getElem?_cons_zero]; rfl)
                case hy1 =>
                  refine Or.inl ⟨by rfl, ?_⟩
                  intro w' hSw
                  try dsimp only at hSw
                  go_simp
                  try with_reducible rfl
                case hq1 => exact fun _ _ _ h => h
                simp only [Act.put, List.setIfInBounds_toArray, List.set_cons_zero, List.set_cons_succ]
                refine' wpAnyH_take (i := 2) (oi := _) (v := _) ?hi2 (by kernel_rfl) (by kernel_rfl) (by kernel_rfl) ?hq2 ?hy2 (by assumption) ?rest2
                case hi2 => (simp only [List.getElem?_toArray, List.getElem?_cons_succ, List.getElem?_cons_zero]; rfl)
                case hy2 =>
                  refine Or.inl ⟨by rfl, ?_⟩
                  intro w' hSw
                  try dsimp only at hSw
                  go_simp
                  try with_reducible rfl
                case hq2 => exact fun _ _ _ h => h
                simp only [Act.put, List.setIfInBounds_toArray, List.set_cons_zero, List.set_cons_succ]
                refine' wpAnyH_take (i := 3) (oi := _) (v := _) ?hi3 (by kernel_rfl) (by kernel_rfl) (by kernel_rfl) ?hq3 ?hy3 (by assumption) ?rest3
                case hi3 => (simp only [List.getElem?_toArray, List.getElem?_cons_succ, List.getElem?_cons_zero]; rfl)
                case hy3 =>
                  refine Or.inl ⟨by rfl, ?_⟩
                  intro w' hSw
                  try dsimp only at hSw
                  go_simp
                  try with_reducible rfl
                case hq3 => exact fun _ _ _ h => h
                simp only [Act.put, List.setIfInBounds_toArray, List.set_cons_zero, List.set_cons_succ]
                refine' wpAnyH_take (i := 4) (oi := _) (v := _) ?hi4 (by kernel_rfl) (by kernel_rfl) (by kernel_rfl) ?hq4 ?hy4 (by assumption) ?rest4
                case hi4 => (simp only [List.getElem?_toArray, List.getElem?_cons_succ, List.getElem?_cons_zero]; rfl)
                case hy4 =>
                  refine Or.inl ⟨by rfl, ?_⟩
                  intro w' hSw
                  try dsimp only at hSw
                  go_simp
                  try with_reducible rfl
                case hq4 => exact fun _ _ _ h => h
                simp only [Act.put, List.setIfInBounds_toArray, List.set_cons_zero, List.set_cons_succ]
                refine' wpAnyH_take (i := 5) (oi := _) (v := _) ?hi5 (by kernel_rfl) (by kernel_rfl) (by kernel_rfl) ?hq5 ?hy5 (by assumption) ?rest5
                case hi5 => (simp only [List.getElem?_toArray, List.getElem?_cons_succ, List.getElem?_cons_zero]; rfl)
                case hy5 =>
                  refine Or.inl ⟨by rfl, ?_⟩
                  intro w' hSw
                  try dsimp only at hSw
                  go_simp
                  try with_reducible rfl
                case hq5 => exact fun _ _ _ h => h
                simp only [Act.put, List.setIfInBounds_toArray, List.set_cons_zero, List.set_cons_succ]
                refine' wpAnyH_take (i := 6) (oi := _) (v := _) ?hi6 (by kernel_rfl) (by kernel_rfl) (by kernel_rfl) ?hq6 ?hy6 (by assumption) ?rest6
                case hi6 => (simp only [List.getElem?_toArray, List.getElem?_cons_succ, List.getElem?_cons_zero]; rfl)
                case hy6 =>
                  refine Or.inl ⟨by rfl, ?_⟩
                  intro w' hSw
                  try dsimp only at hSw
                  go_simp
                  try with_reducible rfl
                case hq6 => exact fun _ _ _ h => h
                simp only [Act.put, List.setIfInBounds_toArray, List.set_cons_zero, List.set_cons_succ]
                refine' wpAnyH_take (i := 7) (oi := _) (v := _) ?hi7 (by kernel_rfl) (by kernel_rfl) (by kernel_rfl) ?hq7 ?hy7 (by assumption) ?rest7
                case hi7 => (simp only [List.getElem?_toArray, List.getElem?_cons_succ, List.getElem?_cons_zero]; rfl)
                case hy7 =>
                  refine Or.inl ⟨by rfl, ?_⟩
                  intro w' hSw
                  try dsimp only at hSw
                  go_simp
                  try with_reducible rfl
                case hq7 => exact fun _ _ _ h => h
                simp only [Act.put, List.setIfInBounds_toArray, List.set_cons_zero, List.set_cons_succ]
                refine' wpAnyH_take (i := 8) (oi := _) (v := _) ?hi8 (by kernel_rfl) (by kernel_rfl) (by kernel_rfl) ?hq8 ?hy8 (by assumption) ?rest8
                case hi8 => (simp only [List.getElem?_toArray, List.getElem?_cons_succ, List.getElem?_cons_zero]; rfl)
                case hy8 =>
                  refine Or.inl ⟨by rfl, ?_⟩
                  intro w' hSw
                  try dsimp only at hSw
                  go_simp
                  try with_reducible rfl
                case hq8 => exact fun _ _ _ h => h
                simp only [Act.put, List.setIfInBounds_toArray, List.set_cons_zero, List.set_cons_succ]
                refine' wpAnyH_take (i := 9) (oi := _) (v := _) ?hi9 (by kernel_rfl) (by kernel_rfl) (by kernel_rfl) ?hq9 ?hy9 (by assumption) ?rest9
                case hi9 => (simp only [List.getElem?_toArray, List.getElem?_cons_succ, List.getElem?_cons_zero]; rfl)
                case hy9 =>
                  refine Or.inl ⟨by rfl, ?_⟩
                  intro w' hSw
                  try dsimp only at hSw
                  go_simp
                  try with_reducible rfl
                case hq9 => exact fun _ _ _ h => h
                simp only [Act.put, List.setIfInBounds_toArray, List.set_cons_zero, List.set_cons_succ]
                refine' wpAnyH_take (i := 10) (oi := _) (v := _) ?hi10 (by kernel_rfl) (by kernel_rfl) (by kernel_rfl) ?hq10 ?hy10 (by assumption) ?rest10
                case hi10 => (simp only [List.getElem?_toArray, List.getElem?_cons_succ, List.getElem?_cons_zero]; rfl)
                case hy10 =>
                  refine Or.inl ⟨by rfl, ?_⟩
                  intro w' hSw
                  try dsimp only at hSw
                  go_simp
                  try with_reducible rfl
                case hq10 => exact fun _ _ _ h => h
                simp only [Act.put, List.setIfInBounds_toArray, List.set_cons_zero, List.set_cons_succ]
                refine' wpAnyH_take (i := 11) (oi := _) (v := _) ?hi11 (by kernel_rfl) (by kernel_rfl) (by kernel_rfl) ?hq11 ?hy11 (by assumption) ?rest11
                case hi11 => (simp only [List.getElem?_toArray, List.getElem?_cons_succ, List.getElem?_cons_zero]; rfl)
                case hy11 =>
                  refine Or.inl ⟨by rfl, ?_⟩
                  intro w' hSw
                  try dsimp only at hSw
                  go_simp
                  try with_reducible rfl
                case hq11 => exact fun _ _ _ h => h
                simp only [Act.put, List.setIfInBounds_toArray, List.set_cons_zero, List.set_cons_succ]
                refine' wpAnyH_take (i := 12) (oi := _) (v := _) ?hi12 (by kernel_rfl) (by kernel_rfl) (by kernel_rfl) ?hq12 ?hy12 (by assumption) ?rest12
                case hi12 => (simp only [List.getElem?_toArray, List.getElem?_cons_succ, List.getElem?_cons_zero]; rfl)
                case hy12 =>
                  refine Or.inl ⟨by rfl, ?_⟩
                  intro w' hSw
                  try dsimp only at hSw
                  go_simp
                  try with_reducible rfl
                case hq12 => exact fun _ _ _ h => h
                simp only [Act.put, List.setIfInBounds_toArray, List.set_cons_zero, List.set_cons_succ]
                refine' wpAnyH_take (i := 13) (oi := _) (v := _) ?hi13 (by kernel_rfl) (by kernel_rfl) (by kernel_rfl) ?hq13 ?hy13 (by assumption) ?rest13
                case hi13 => (simp only [List.getElem?_toArray, List.getElem?_cons_succ, List.getElem?_cons_zero]; rfl)
                case hy13 =>
                  refine Or.inl ⟨by rfl, ?_⟩
                  intro w' hSw
                  try dsimp only at hSw
                  go_simp
                  try with_reducible rfl
                case hq13 => exact fun _ _ _ h => h
                simp only [Act.put, List.setIfInBounds_toArray, List.set_cons_zero, List.set_cons_succ]
                refine' wpAnyH_take (i := 15) (oi := _) (v := _) ?hi15 (by kernel_rfl) (by kernel_rfl) (by kernel_rfl) ?hq15 ?hy15 (by assumption) ?rest15
                case hi15 => (simp only [List.getElem?_toArray, List.getElem?_cons_succ, List.getElem?_cons_zero]; rfl)
                case hy15 =>
                  refine Or.inl ⟨by rfl, ?_⟩
                  intro w' hSw
                  try dsimp only at hSw
                  go_simp
                  try with_reducible rfl
                case hq15 => exact fun _ _ _ h => h
                simp only [Act.put, List.setIfInBounds_toArray, List.set_cons_zero, List.set_cons_succ]
                refine wpAnyH_ready (rs := [14]) (by kernel_rfl) (by simp) (AllReadyH.cons rfl (fun K hK => ?_) AllReadyH.nil)
                go_simp
                with_reducible refine (HBq.out _ (And.left (by assumption))).mono ?_
                rintro e wg ⟨rfl, hb⟩
                have hS := HSX.out wg (kept_trans hHeld.1 hb)
                clear hb hHeld
                refine hK.out _ _ hS (fun hHeld => ?_)
                clear hK K hS
                try simp only [Act.put, List.setIfInBounds_toArray, List.set_cons_zero, List.set_cons_succ]
                refine' wpAnyH_take (i := 16) (oi := _) (v := _) ?hi16 (by kernel_rfl) (by kernel_rfl) (by kernel_rfl) ?hq16 ?hy16 (by assumption) ?rest16
                case hi16 => (simp only [List.getElem?_toArray, List.getElem?_cons_succ, List.getElem?_cons_zero]; rfl)
                case hy16 =>
                  refine Or.inl ⟨by rfl, ?_⟩
                  intro w' hSw
                  try dsimp only at hSw
                  go_simp
                  try with_reducible rfl
                case hq16 => exact fun _ _ _ h => h
                simp only [Act.put, List.setIfInBounds_toArray, List.set_cons_zero, List.set_cons_succ]
                refine' wpAnyH_take (i := 17) (oi := _) (v := _) ?hi17 (by kernel_rfl) (by kernel_rfl) (by kernel_rfl) ?hq17 ?hy17 (by assumption) ?rest17
                case hi17 => (simp only [List.getElem?_toArray, List.getElem?_cons_succ, List.getElem?_cons_zero]; rfl)
                case hy17 =>
                  refine Or.inl ⟨by rfl, ?_⟩
                  intro w' hSw
                  try dsimp only at hSw
                  go_simp
                  try with_reducible rfl
                case hq17 => exact fun _ _ _ h => h
                simp only [Act.put, List.setIfInBounds_toArray, List.set_cons_zero, List.set_cons_succ]
                refine' wpAnyH_take (i := 18) (oi := _) (v := _) ?hi18 (by kernel_rfl) (by kernel_rfl) (by kernel_rfl) ?hq18 ?hy18 (by assumption) ?rest18
                case hi18 => (simp only [List.getElem?_toArray, List.getElem?_cons_succ, List.getElem?_cons_zero]; rfl)
                case hy18 =>
                  refine Or.inl ⟨by rfl, ?_⟩
                  intro w' hSw
                  try dsimp only at hSw
                  go_simp
                  try with_reducible rfl
                case hq18 => exact fun _ _ _ h => h
                simp only [Act.put, List.setIfInBounds_toArray, List.set_cons_zero, List.set_cons_succ]
                refine' wpAnyH_take (i := 19) (oi := _) (v := _) ?hi19 (by kernel_rfl) (by kernel_rfl) (by kernel_rfl) ?hq19 ?hy19 (by assumption) ?rest19
                case hi19 => (simp only [List.getElem?_toArray, List.getElem?_cons_succ, List.getElem?_cons_zero]; rfl)
                case hy19 =>
                  refine Or.inl ⟨by rfl, ?_⟩
                  intro w' hSw
                  try dsimp only at hSw
                  go_simp
                  try with_reducible rfl
                case hq19 => exact fun _ _ _ h => h
                simp only [Act.put, List.setIfInBounds_toArray, List.set_cons_zero, List.set_cons_succ]
                refine wpAnyH_ready (rs := [20]) (by kernel_rfl) (by simp) (AllReadyH.cons rfl (fun K hK => ?_) AllReadyH.nil)
                go_simp
                with_reducible refine (HOq.out _ (And.left (by assumption))).mono ?_
                rintro e wn ⟨rfl, hb⟩
                have hS := HSX.out wn (kept_trans hHeld.1 hb)
                clear hb hHeld
                refine hK.out _ _ hS (fun hHeld => ?_)
                clear hK K hS
                try simp only [Act.put, List.setIfInBounds_toArray, List.set_cons_zero, List.set_cons_succ]
                refine' wpAnyH_take (i := 21) (oi := _) (v := _) ?hi21 (by kernel_rfl) (by kernel_rfl) (by kernel_rfl) ?hq21 ?hy21 (by assumption) ?rest21
                case hi21 => (simp only [List.getElem?_toArray, List.getElem?_cons_succ, List.getElem?_cons_zero]; rfl)
                case hy21 =>
                  refine Or.inl ⟨by rfl, ?_⟩
                  intro w' hSw
                  try dsimp only at hSw
                  go_simp
                  try with_reducible rfl
                case hq21 => exact fun _ _ _ h => h
                simp only [Act.put, List.setIfInBounds_toArray, List.set_cons_zero, List.set_cons_succ]
                refine' wpAnyH_take (i := 22) (oi := _) (v := _) ?hi22 (by kernel_rfl) (by kernel_rfl) (by kernel_rfl) ?hq22 ?hy22 (by assumption) ?rest22
                case hi22 => (simp only [List.getElem?_toArray, List.getElem?_cons_succ, List.getElem?_cons_zero]; rfl)
                case hy22 =>
                  refine Or.inl ⟨by rfl, ?_⟩
                  intro w' hSw
                  try dsimp only at hSw
                  go_simp
                  try with_reducible rfl
                case hq22 => exact fun _ _ _ h => h
                simp only [Act.put, List.setIfInBounds_toArray, List.set_cons_zero, List.set_cons_succ]
                refine' wpAnyH_take (i := 23) (oi := _) (v := _) ?hi23 (by kernel_rfl) (by kernel_rfl) (by kernel_rfl) ?hq23 ?hy23 (by assumption) ?rest23
                case hi23 => (simp only [List.getElem?_toArray, List.getElem?_cons_succ, List.getElem?_cons_zero]; rfl)
                case hy23 =>
                  refine Or.inl ⟨by rfl, ?_⟩
                  intro w' hSw
                  try dsimp only at hSw
                  go_simp
                  try with_reducible rfl
                case hq23 => exact fun _ _ _ h => h
                simp only [Act.put, List.setIfInBounds_toArray, List.set_cons_zero, List.set_cons_succ]
                refine' wpAnyH_take (i := 24) (oi := _) (v := _) ?hi24 (by kernel_rfl) (by kernel_rfl) (by kernel_rfl) ?hq24 ?hy24 (by assumption) ?rest24
                case hi24 => (simp only [List.getElem?_toArray, List.getElem?_cons_succ, List.getElem?_cons_zero]; rfl)
                case hy24 =>
                  refine Or.inl ⟨by rfl, ?_⟩
                  intro w' hSw
                  try dsimp only at hSw
                  go_simp
                  try with_reducible rfl
                case hq24 => exact fun _ _ _ h => h
                simp only [Act.put, List.setIfInBounds_toArray, List.set_cons_zero, List.set_cons_succ]
                refine' wpAnyH_take (i := 25) (oi := _) (v := _) ?hi25 (by kernel_rfl) (by kernel_rfl) (by kernel_rfl) ?hq25 ?hy25 (by assumption) ?rest25
                case hi25 => (simp only [List.getElem?_toArray, List.getElem?_cons_succ, List.getElem?_cons_zero]; rfl)
                case hy25 =>
                  refine Or.inl ⟨by rfl, ?_⟩
                  intro w' hSw
                  try dsimp only at hSw
                  go_simp
                  try with_reducible rfl
                case hq25 => exact fun _ _ _ h => h
                simp only [Act.put, List.setIfInBounds_toArray, List.set_cons_zero, List.set_cons_succ]
                refine' wpAnyH_take (i := 26) (oi := _) (v := _) ?hi26 (by kernel_rfl) (by kernel_rfl) (by kernel_rfl) ?hq26 ?hy26 (by assumption) ?rest26
                case hi26 => (simp only [List.getElem?_toArray, List.getElem?_cons_succ, List.getElem?_cons_zero]; rfl)
                case hy26 =>
                  refine Or.inl ⟨by rfl, ?_⟩
                  intro w' hSw
                  try dsimp only at hSw
                  go_simp
                  try with_reducible rfl
                case hq26 => exact fun _ _ _ h => h
                simp only [Act.put, List.setIfInBounds_toArray, List.set_cons_zero, List.set_cons_succ]
                refine' wpAnyH_take (i := 27) (oi := _) (v := _) ?hi27 (by kernel_rfl) (by kernel_rfl) (by kernel_rfl) ?hq27 ?hy27 (by assumption) ?rest27
                case hi27 => (simp only [List.getElem?_toArray, List.getElem?_cons_succ, List.getElem?_cons_zero]; rfl)
                case hy27 =>
                  refine Or.inl ⟨by rfl, ?_⟩
                  intro w' hSw
                  try dsimp only at hSw
                  go_simp
                  try with_reducible rfl
                case hq27 => exact fun _ _ _ h => h
                simp only [Act.put, List.setIfInBounds_toArray, List.set_cons_zero, List.set_cons_succ]
                refine' wpAnyH_take (i := 28) (oi := _) (v := undef) ?hi28 (by kernel_rfl) (by kernel_rfl) (by kernel_rfl) ?hq28 ?hy28 (by assumption) ?rest28
                case hi28 => (simp only [List.getElem?_toArray, List.getElem?_cons_succ, List.getElem?_cons_zero]; rfl)
                case hy28 =>
                  refine Or.inr ⟨by rfl, rfl⟩
                case hq28 => exact fun _ _ _ h => h
                try simp only [Act.put, List.setIfInBounds_toArray, List.set_cons_zero, List.set_cons_succ]
                refine' wpAnyH_take (i := 29) (oi := _) (v := undef) ?hi29 (by kernel_rfl) (by kernel_rfl) (by kernel_rfl) ?hq29 ?hy29 (by assumption) ?rest29
                case hi29 => (simp only [List.getElem?_toArray, List.getElem?_cons_succ, List.getElem?_cons_zero]; rfl)
                case hy29 =>
                  refine Or.inr ⟨by rfl, rfl⟩
                case hq29 => exact fun _ _ _ h => h
                try simp only [Act.put, List.setIfInBounds_toArray, List.set_cons_zero, List.set_cons_succ]
                refine' wpAnyH_take (i := 30) (oi := _) (v := undef) ?hi30 (by kernel_rfl) (by kernel_rfl) (by kernel_rfl) ?hq30 ?hy30 (by assumption) ?rest30
                case hi30 => (simp only [List.getElem?_toArray, List.getElem?_cons_succ, List.getElem?_cons_zero]; rfl)
                case hy30 =>
                  refine Or.inr ⟨by rfl, rfl⟩
                case hq30 => exact fun _ _ _ h => h
                try simp only [Act.put, List.setIfInBounds_toArray, List.set_cons_zero, List.set_cons_succ]
                refine' wpAnyH_take (i := 31) (oi := _) (v := undef) ?hi31 (by kernel_rfl) (by kernel_rfl) (by kernel_rfl) ?hq31 ?hy31 (by assumption) ?rest31
                case hi31 => (simp only [List.getElem?_toArray, List.getElem?_cons_succ, List.getElem?_cons_zero]; rfl)
                case hy31 =>
                  refine Or.inr ⟨by rfl, rfl⟩
                case hq31 => exact fun _ _ _ h => h
                try simp only [Act.put, List.setIfInBounds_toArray, List.set_cons_zero, List.set_cons_succ]
                refine' wpAnyH_take (i := 32) (oi := _) (v := _) ?hi32 (by kernel_rfl) (by kernel_rfl) (by kernel_rfl) ?hq32 ?hy32 (by assumption) ?rest32
                case hi32 => (simp only [List.getElem?_toArray, List.getElem?_cons_succ, List.getElem?_cons_zero]; rfl)
                case hy32 =>
                  refine Or.inl ⟨by rfl, ?_⟩
                  intro w' hSw
                  try dsimp only at hSw
                  go_simp
                  try with_reducible rfl
                case hq32 => exact fun _ _ _ h => h
                simp only [Act.put, List.setIfInBounds_toArray, List.set_cons_zero, List.set_cons_succ]
                refine' wpAnyH_take (i := 33) (oi := _) (v := _) ?hi33 (by kernel_rfl) (by kernel_rfl) (by kernel_rfl) ?hq33 ?hy33 (by assumption) ?rest33
                case hi33 => (simp only [List.getElem?_toArray, List.getElem?_cons_succ, List.getElem?_cons_zero]; rfl)
                case hy33 =>
                  refine Or.inl ⟨by rfl, ?_⟩
                  intro w' hSw
                  try dsimp only at hSw
                  go_simp
                  try with_reducible rfl
                case hq33 => exact fun _ _ _ h => h
                simp only [Act.put, List.setIfInBounds_toArray, List.set_cons_zero, List.set_cons_succ]
                refine' wpAnyH_take (i := 34) (oi := _) (v := _) ?hi34 (by kernel_rfl) (by kernel_rfl) (by kernel_rfl) ?hq34 ?hy34 (by assumption) ?rest34
                case hi34 => (simp only [List.getElem?_toArray, List.getElem?_cons_succ, List.getElem?_cons_zero]; rfl)
                case hy34 =>
                  refine Or.inl ⟨by rfl, ?_⟩
                  intro w' hSw
                  try dsimp only at hSw
                  go_simp
                  try with_reducible rfl
                case hq34 => exact fun _ _ _ h => h
                simp only [Act.put, List.setIfInBounds_toArray, List.set_cons_zero, List.set_cons_succ]
                refine wpAnyH_done (by kernel_rfl) ?_ _
                have K10 := kept_hid K9 hHeld.1
                clear hHeld
                go_wp2_with fail
                go_roundg (s.cs.length + 1 - (q + 1))
                case measure => omega
                case rel => exact ⟨q + 1, by omega, rfl, by first | rfl | go_num, K10⟩
              · have hni : (!s.ins) = true := by rw [hin]; rfl
                have hqk : ((q : Int) != (kc : Int)) = false := by
                  rcases Z3.out with h | h
                  · rw [hin] at h; cases h
                  · rw [h]; simp
                replace hin := Lib.hid hin
                clear Z3
                go_region_held3 (fun W' => Below wr.heap.size wr W' ∧ (W'.cell? ⟨w.heap.size, 0, none⟩ = some (.int .i64 s.rows) ∧ W'.cell? ⟨w.heap.size, 1, none⟩ = some (.int .i64 s.cols) ∧ W'.cell? ⟨w.heap.size, 2, none⟩ = some (.slice (some ⟨b2, o2, none⟩) s.cs.length k) ∧ W'.cell? ⟨w.heap.size, 3, none⟩ = some (.int .i64 (kc : Int)) ∧ W'.cell? ⟨w.heap.size, 4, none⟩ = some (.bool s.lk) ∧ W'.cell? ⟨w.heap.size, 5, none⟩ = some (.bool s.ins)) ∧ W'.cell? ⟨N1, 2, none⟩ = some (.slice (some ⟨b1, o1, none⟩) lc.length vc1) ∧ (W'.cell? ⟨b1, o1 + q * 6, none⟩ = some (.bool xf) ∧ W'.cell? ⟨b1, o1 + q * 6 + 1, none⟩ = some (.bool xp) ∧ W'.cell? ⟨b1, o1 + q * 6 + 2, none⟩ = some (.bool xn) ∧ W'.cell? ⟨b1, o1 + q * 6 + 3, none⟩ = some (.int .i64 xs') ∧ W'.cell? ⟨b1, o1 + q * 6 + 4, none⟩ = some (.bool xm) ∧ W'.cell? ⟨b1, o1 + q * 6 + 5, none⟩ = some (.int .u8 (xc : Int))) ∧ W'.cell? ⟨b2, o2 + q * 6, none⟩ = some (.bool yf) ∧ W'.cell? ⟨b2, o2 + q * 6 + 1, none⟩ = some (.bool yp) ∧ W'.cell? ⟨b2, o2 + q * 6 + 2, none⟩ = some (.bool yn) ∧ W'.cell? ⟨b2, o2 + q * 6 + 3, none⟩ = some (.int .i64 ys') ∧ W'.cell? ⟨b2, o2 + q * 6 + 4, none⟩ = some (.bool ym) ∧ W'.cell? ⟨b2, o2 + q * 6 + 5, none⟩ = some (.int .u8 (yc : Int)))
                  ((refine HSX.out _ ?_; first | with_reducible exact (Below.refl _ _).drew | with_reducible exact (Below.refl _ _) | with_reducible exact (And.left (by assumption)) | with_reducible exact kept_trans (And.left (by assumption)) hb))
                  (first
                    | (go_at_call 25; with_reducible refine (HBq.out _ (And.left (by assumption))).mono ?_; rintro e wg ⟨rfl, hb⟩)
                    | (go_at_call 26; with_reducible refine (HOq.out _ (And.left (by assumption))).mono ?_; rintro e wn ⟨rfl, hb⟩))
                have hS := And.left (by assumption : Below wr.heap.size wr wn ∧ _)
                have K10 := kept_hid K9 hS
                clear hS hb
                go_wp2_with fail
                go_roundg (s.cs.length + 1 - (q + 1))
                case measure => omega
                case rel => exact ⟨q + 1, by omega, rfl, by first | rfl | go_num, K10⟩
        · obtain rfl : q = s.cs.length := by omega
          obtain ⟨xf, xp, xn, xs', xm, xc, ex⟩ := c_eta (lc.getD kc noC)
          have hn0 : ¬ (s.cs.length : Int) < (s.cs.length : Int) := by omega
          obtain ⟨b1, o1, hva, g0, g1, g2, g3, g4, g5⟩ := C9.out.cells (show kc < lc.length by rw [HLC.out]; exact HKK.out) ex
          subst hva
          have hxc : xc = c := by have := HL1.out; rw [ex] at this; exact congrArg C.c this
          subst hxc
          have hi0 : (0 : Int) ≤ (kc : Int) := by omega
          have hi1 : (kc : Int) < (lc.length : Int) := by rw [HLC.out]; have := HKK.out; omega
          have hcc : ((xc : Int) == (xc : Int)) = true := by simp
          have hii : (s.ins == s.ins) = true := by simp
          have hlk := HLK.out
          have K10 := kept_hid K3 K9.out
          clear ex hlt
          go_wp2_with fail
          go_ret
          exact ⟨by first | rfl | simp [hlk], K10.out⟩
    · have hnz := hcode
      obtain ⟨tl, e1, e2⟩ := typ_no s c hcode
      have HE2 := Lib.hid e2
      have Q1 := Lib.hid (type_any s ad k c w3 I3.out HR.out H8.out HLT.out HBc.out)
      simp only [GaveE] at Q1
      rw [e1] at Q1
      simp only at Q1
      generalize (typ s c).2.2 = wh at *
      generalize (typ s c).2.1 = code at *
      clear e1 e2 hcode
      obtain ⟨c0, c1, c2, c3, c4, c5⟩ := cells6 X3.out
      go_wp2_with fail
      with_reducible refine Q1.out.mono ?_
      rintro e w4 ⟨va1, vc1, ev1, rfl, hc, ht, hn, hb⟩
      clear c0 c1 c2 c3 c4 c5
      have HA := al_any w4 (.cells #[.int .i64 s.rows, .int .i64 s.cols, .slice va1 s.cs.length vc1, .int .i64 s.cur, .bool tl, .bool s.ins] 24)
      have B1 := Lib.hid (heap_alloc_new w4 (.cells #[.int .i64 s.rows, .int .i64 s.cols, .slice va1 s.cs.length vc1, .int .i64 s.cur, .bool tl, .bool s.ins] 24))
      have C1 := Lib.hid (hc.below HA)
      have T1 := Lib.hid (Err.Told.below ht HA)
      have E1 := Lib.hid (fun h => (hn h).1)
      clear hn
      replace hb := kept_trans hb HA
      replace X3 := Lib.hid (blk X3.out hb)
      replace I3 := Lib.hid (I3.out.below hb)
      replace K3 := kept_hid K3 hb
      clear HA hc ht hb
      go_upto_region 4 with (fail)
      generalize w4.heap.size = N1 at *
      generalize w4.alloc _ = w4b at *
      have HRG := Lib.hid (rright_any ⟨s.rows, s.cols, s.cs, s.cur, tl, s.ins⟩ va1 vc1 w4b C1.out H8.out (by have := HL.out; simp only; omega))
      have hll : ((s.cs.length : Int) != (s.cs.length : Int)) = false := by simp
      obtain ⟨c0, c1, c2, c3, c4, c5⟩ := cells6 B1.out
      obtain ⟨d0, d1, d2, d3, d4, d5⟩ := cells6 X3.out
      rw [show sright ⟨s.rows, s.cols, s.cs, s.cur, tl, s.ins⟩ = true from HR.out] at HRG
      simp only at HRG
      go_wp2_with fail
      with_reducible refine HRG.out.mono ?_
      rintro e w5 ⟨rfl, hb⟩
      replace X3 := Lib.hid (blk X3.out hb)
      replace B1 := Lib.hid (blk B1.out hb)
      replace I3 := Lib.hid (I3.out.below hb)
      replace C1 := Lib.hid (C1.out.below hb)
      replace T1 := Lib.hid (Err.Told.below T1.out hb)
      replace K3 := kept_hid K3 hb
      clear hb HRG c0 c1 c2 c3 c4 c5 d0 d1 d2 d3 d4 d5
      obtain ⟨c0, c1, c2, c3, c4, c5⟩ := cells6 B1.out
      obtain ⟨d0, d1, d2, d3, d4, d5⟩ := cells6 X3.out
      go_upto_region 6 with (fail)
      clear c0 c1 c2 c3 c4 c5 d0 d1 d2 d3 d4 d5
      have HNZ := Lib.hid hnz
      clear hnz hll E1
      obtain ⟨et, evv, hev⟩ := told_iface T1.out (by have := HNZ.out; omega)
      subst hev
      · skip
        obtain ⟨c0, c1, c2, c3, c4, c5⟩ := cells6 B1.out
        have HA := al_any w5 (.cells #[.int .i64 s.rows, .int .i64 s.cols, .slice va1 s.cs.length vc1, .int .i64 s.cur, .bool tl, .bool s.ins] 24)
        have U6 := Lib.hid (heap_alloc_new w5 (.cells #[.int .i64 s.rows, .int .i64 s.cols, .slice va1 s.cs.length vc1, .int .i64 s.cur, .bool tl, .bool s.ins] 24))
        have X6 := Lib.hid (blk X3.out HA)
        have B6 := Lib.hid (blk B1.out HA)
        have I6 := Lib.hid (I3.out.below HA)
        have C6' := Lib.hid (C1.out.below HA)
        have HTF := Lib.hid fun (W : World) (hgw : (w5.alloc (.cells #[.int .i64 s.rows, .int .i64 s.cols, .slice va1 s.cs.length vc1, .int .i64 s.cur, .bool tl, .bool s.ins] 24)).grownBy W (some w5.heap.size)) => Err.Told.below T1.out (below_grown HA hgw (Nat.le_refl _))
        have K6 := kept_hid K3 HA
        have HW5 := Lib.hid (show w.heap.size < w5.heap.size ∧ N1 < w5.heap.size ∧ w.heap.size ≤ w5.heap.size from ⟨there_lt X3.out, there_lt B1.out, K3.out.size⟩)
        clear HA X3 B1 I3 C1 T1 K3
        go_upto_region 8 with (fail)
        clear c0 c1 c2 c3 c4 c5
        generalize w5.heap.size = U at *
        generalize w5.alloc _ = w6 at *
        have SO := gsetCell w6 U 4 (.bool s.lk)
        have U7 := Lib.hid (heap_setCell_same w6 U 4 _ 24 (.bool s.lk) U6.out)
        have X7 := Lib.hid (blk_g X6.out SO (by intro e; injection e with e; have := HW5.out.1; omega))
        have B7 := Lib.hid (blk_g B6.out SO (by intro e; injection e with e; have := HW5.out.2.1; omega))
        have I7 := Lib.hid (celsIn_away I6.out SO (fun y hy => (not_screen I6.out HP.out U6.out y hy).1))
        have C7 := Lib.hid (celsIn_away C6'.out SO (fun y hy => (not_screen C6'.out HP.out U6.out y hy).1))
        have K7 := Lib.hid (below_grown K6.out SO HW5.out.2.2)
        have T7 := Lib.hid (HTF.out _ SO)
        obtain ⟨d0, d1, d2, d3, d4, d5⟩ := cells6 X6.out
        obtain ⟨e0, e1, e2, e3, e4, e5⟩ := cells6 U6.out
        obtain ⟨f0, f1, f2, f3, f4, f5⟩ := free6 U6.out
        go_upto_region 9 with (fail)
        clear d0 d1 d2 d3 d4 d5 e0 e1 e2 e3 e4 e5 f0 f1 f2 f3 f4 f5 SO U6 X6 B6 I6 C6' K6
        generalize w6.setCell _ _ = w7 at *
        have HSM := Lib.hid fun W (hb : Below w7.heap.size w7 W) => rsame_any s.rows s.cols s.cur s.lk s.ins va1 s.cs.length vc1 ad s.cs.length k s.cs s.cs W (C7.out.below hb) (I7.out.below hb) (by have := HL.out; omega)
        rw [decide_eq_true rfl] at HSM
        by_cases htl : tl = s.lk
        · subst htl
          obtain ⟨d0, d1, d2, d3, d4, d5⟩ := cells6 X7.out
          obtain ⟨e0, e1, e2, e3, e4, e5⟩ := cells6 U7.out
          obtain ⟨c0, c1, c2, c3, c4, c5⟩ := cells6 B7.out
          first
            | go_region_with (go_at_call 12; with_reducible refine (HSM.out _ ((Below.refl _ _).drew)).mono ?_; rintro e wg ⟨rfl, hb⟩; have hbg := kept_trans ((Below.refl w7.heap.size w7).drew) hb; obtain ⟨d0, d1, d2, d3, d4, d5⟩ := cells6 (blk X7.out hbg); obtain ⟨c0, c1, c2, c3, c4, c5⟩ := cells6 (blk B7.out hbg))
            | fail "no"
          all_goals
            have K8 := kept_hid K7 hbg
            clear hb hbg
            go_wp2_with fail
            go_ret
            exact ⟨rfl, K8.out⟩
        · have eb : (tl == s.lk) = false := by simpa using htl
          have HWS := Lib.hid (show wh = s.cur from by rcases HE2.out with h | h; exact absurd h htl; exact h)
          have HWE := Lib.hid fun W (hb : Below w7.heap.size w7 W) => HWH.out W _ _ _ (kept_trans K7.out hb) (Err.Told.below T7.out hb)
          rw [HWS.out] at HWE
          clear HE2 htl
          have HSX := Lib.hid (show ∀ W', Below w7.heap.size w7 W' → Below w7.heap.size w7 W' ∧ (W'.cell? ⟨U, 0, none⟩ = some (.int .i64 s.rows) ∧ W'.cell? ⟨U, 1, none⟩ = some (.int .i64 s.cols) ∧ W'.cell? ⟨U, 2, none⟩ = some (.slice va1 s.cs.length vc1) ∧ W'.cell? ⟨U, 3, none⟩ = some (.int .i64 s.cur) ∧ W'.cell? ⟨U, 4, none⟩ = some (.bool s.lk) ∧ W'.cell? ⟨U, 5, none⟩ = some (.bool s.ins)) ∧ (W'.cell? ⟨w.heap.size, 0, none⟩ = some (.int .i64 s.rows) ∧ W'.cell? ⟨w.heap.size, 1, none⟩ = some (.int .i64 s.cols) ∧ W'.cell? ⟨w.heap.size, 2, none⟩ = some (.slice ad s.cs.length k) ∧ W'.cell? ⟨w.heap.size, 3, none⟩ = some (.int .i64 s.cur) ∧ W'.cell? ⟨w.heap.size, 4, none⟩ = some (.bool s.lk) ∧ W'.cell? ⟨w.heap.size, 5, none⟩ = some (.bool s.ins)) ∧ W'.cell? ⟨N1, 4, none⟩ = some (.bool tl) from fun W' hW => ⟨hW, cells6 (blk U7.out hW), cells6 (blk X7.out hW), (cells6 (blk B7.out hW)).2.2.2.2.1⟩)
          go_region_held3 (fun W' => Below w7.heap.size w7 W' ∧ (W'.cell? ⟨U, 0, none⟩ = some (.int .i64 s.rows) ∧ W'.cell? ⟨U, 1, none⟩ = some (.int .i64 s.cols) ∧ W'.cell? ⟨U, 2, none⟩ = some (.slice va1 s.cs.length vc1) ∧ W'.cell? ⟨U, 3, none⟩ = some (.int .i64 s.cur) ∧ W'.cell? ⟨U, 4, none⟩ = some (.bool s.lk) ∧ W'.cell? ⟨U, 5, none⟩ = some (.bool s.ins)) ∧ (W'.cell? ⟨w.heap.size, 0, none⟩ = some (.int .i64 s.rows) ∧ W'.cell? ⟨w.heap.size, 1, none⟩ = some (.int .i64 s.cols) ∧ W'.cell? ⟨w.heap.size, 2, none⟩ = some (.slice ad s.cs.length k) ∧ W'.cell? ⟨w.heap.size, 3, none⟩ = some (.int .i64 s.cur) ∧ W'.cell? ⟨w.heap.size, 4, none⟩ = some (.bool s.lk) ∧ W'.cell? ⟨w.heap.size, 5, none⟩ = some (.bool s.ins)) ∧ W'.cell? ⟨N1, 4, none⟩ = some (.bool tl))
            ((refine HSX.out _ ?_; first | with_reducible exact (Below.refl _ _).drew | with_reducible exact (Below.refl _ _) | with_reducible exact (And.left (by assumption)) | with_reducible exact kept_trans (And.left (by assumption)) hb))
            (first
              | (go_at_call 12; with_reducible refine (HSM.out _ (And.left (by assumption))).mono ?_; rintro e wg ⟨rfl, hb⟩)
              | (go_at_call 14; with_reducible refine (HWE.out _ (And.left (by assumption))).mono ?_; rintro e wn ⟨rfl, hb⟩))
          have hS := And.left (by assumption : Below w7.heap.size w7 wn ∧ _)
          have K8 := kept_hid K7 hS
          clear hS hb
          go_wp2_with fail
          go_ret
          exact ⟨rfl, K8.out⟩
end Edt
end Go.Proofs.YtoafcmklomopaaaDoor
