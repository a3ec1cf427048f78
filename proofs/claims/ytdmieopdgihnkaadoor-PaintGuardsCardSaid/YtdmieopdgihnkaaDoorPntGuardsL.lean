/- The law PaintGuards. Written by tools/gen_pnt_laws.py. -/
import Derived.Test.YtdmieopdgihnkaaDoorBunFld
import Derived.Deep.QuietTactic
import Derived.Test.YtdmieopdgihnkaaDoorPntAwake
import Derived.Test.YtdmieopdgihnkaaDoorBunGrd
import Derived.Test.YtdmieopdgihnkaaDoorBunGrd
import Derived.Test.YtdmieopdgihnkaaDoorOpnScr
import Derived.Test.YtdmieopdgihnkaaDoorBunPnt
namespace Go.Proofs.YtdmieopdgihnkaaDoor
open Go.RowKit Sha Six Apd Cut Err Att Grd Fld
set_option linter.unusedVariables false
namespace Pnt
set_option maxRecDepth 100000 in
set_option maxHeartbeats 8000000 in
theorem guards_any (s : S) (ad : Option Addr) (k : Nat) (a : Int) (ok : Int) (ta : Option Addr) (tn tc : Nat) (zs : List Int) (op on_ : Bool) (oq : Int) (om : Bool) (oa oc : Int) (w : World) (h : CelsIn w (.slice ad s.cs.length k) s.cs) (hwf : Opn.Wf s.cs) (hm : s.cs.length ≤ maxLen) (wa : (Lit.int .u16 a).wf = true) (hr : IsRow .u8 w ta tn tc zs) (wc : (Lit.int .u8 oc).wf = true) (hg : Handle w) :
    Calls Tryd.prog 5 #[.agg #[.int .i64 s.rows, .int .i64 s.cols, .slice ad s.cs.length k, .int .i64 s.cur, .bool s.lk, .bool s.ins], .int .u16 a, .agg #[.int .i64 ok, .slice ta tn tc, .bool op, .bool on_, .int .i64 oq, .bool om, .int .i64 oa, .int .u8 oc]] w fun e w' => e = .returned (.bool true) ∧ Below w.heap.size w w' := by
  obtain ⟨b0, b1⟩ := Go.Proofs.YtdmieopdgihnkaaDoor.Ord.wf_u16 wa
  obtain ⟨a, rfl⟩ := Int.eq_ofNat_of_zero_le b0
  have HA16 := Lib.hid b1
  have HAW := Lib.hid fun W (hb : Below w.heap.size w W) => awake_any W (hand_of hg hb)
  have HCO := Lib.hid fun W ev (c n : Int) (hb : Below w.heap.size w W) (ht : Err.Told W ev c n) => code_told ev c n W (hand_of hg hb) ht
  have HWH := Lib.hid fun W ev (c n : Int) (hb : Below w.heap.size w W) (ht : Err.Told W ev c n) => where_told ev c n W (hand_of hg hb) ht
  obtain ⟨t, _, ht8, hBt⟩ := isRow_bytes hr
  have hT := hBt
  obtain rfl := blen hBt
  obtain ⟨c0, c1⟩ := Go.Proofs.YtdmieopdgihnkaaDoor.Ord.wf_u8 wc
  obtain ⟨oc, rfl⟩ := Int.eq_ofNat_of_zero_le c0
  have hc8 : oc < 256 := by omega
  have HT := Lib.hid hT
  have HT8 := Lib.hid ht8
  have HC8 := Lib.hid hc8
  have HB := Lib.hid (kept_trans (al_any w (.cells #[.int .i64 s.rows, .int .i64 s.cols, .slice ad s.cs.length k, .int .i64 s.cur, .bool s.lk, .bool s.ins] 24)) (al_any _ (.cells #[.int .i64 ok, .slice ta t.length tc, .bool op, .bool on_, .int .i64 oq, .bool om, .int .i64 oa, .int .u8 (oc : Int)] 30)))
  have HX := Lib.hid (heap_alloc2_old w (.cells #[.int .i64 s.rows, .int .i64 s.cols, .slice ad s.cs.length k, .int .i64 s.cur, .bool s.lk, .bool s.ins] 24) (.cells #[.int .i64 ok, .slice ta t.length tc, .bool op, .bool on_, .int .i64 oq, .bool om, .int .i64 oa, .int .u8 (oc : Int)] 30))
  have HY := Lib.hid (heap_alloc2_new w (.cells #[.int .i64 s.rows, .int .i64 s.cols, .slice ad s.cs.length k, .int .i64 s.cur, .bool s.lk, .bool s.ins] 24) (.cells #[.int .i64 ok, .slice ta t.length tc, .bool op, .bool on_, .int .i64 oq, .bool om, .int .i64 oa, .int .u8 (oc : Int)] 30))
  have HI := Lib.hid (h.below HB.out)
  have HF := Lib.hid fun W hb => rfew_any s ad k W (HI.out.below hb) (wf_sound hwf)
  have H8 := Lib.hid (wf_sound hwf)
  clear h hwf hm wa hr wc c0 c1 b0 b1 hT ht8 hc8 hg
  cases hf : few s with
  | false =>
    rw [hf] at HF
    go_enter Tryd.func5, Tryd.ntmps5
    go_upto_region 1 with (fail)
    generalize (w.alloc _).alloc _ = w1 at *
    go_wp2_with fail
    with_reducible refine (HAW.out _ HB.out).mono ?_
    rintro e w2 ⟨rfl, hb⟩
    have K2 := Lib.hid hb
    have X2 := Lib.hid (blk HX.out hb)
    have K2' := kept_hid HB hb
    clear hb
    obtain ⟨c0, c1, c2, c3, c4, c5⟩ := cells6 X2.out
    go_wp2_with fail
    with_reducible refine (HF.out _ K2.out).mono ?_
    rintro e w3 ⟨rfl, hb⟩
    have K3 := kept_hid K2' hb
    clear hb c0 c1 c2 c3 c4 c5
    go_wp2_with fail
    with_reducible refine (HAW.out _ K3.out).mono ?_
    rintro e w4 ⟨rfl, hb⟩
    have KE := kept_hid K3 hb
    clear hb
    go_wp2_with fail
    go_ret
    exact ⟨rfl, KE.out⟩
  | true =>
    rw [hf] at HF
    by_cases htl : 300 < t.length
    · have hgt : decide ((300 : Int) < (t.length : Int)) = true := decide_eq_true (by omega)
      go_enter Tryd.func5, Tryd.ntmps5
      go_upto_region 1 with (fail)
      generalize (w.alloc _).alloc _ = w1 at *
      go_wp2_with fail
      with_reducible refine (HAW.out _ HB.out).mono ?_
      rintro e w2 ⟨rfl, hb⟩
      have K2 := Lib.hid hb
      have X2 := Lib.hid (blk HX.out hb)
      have Y2 := Lib.hid (blk HY.out hb)
      have K2' := kept_hid HB hb
      have I2 := Lib.hid (HI.out.below hb)
      clear hb
      obtain ⟨c0, c1, c2, c3, c4, c5⟩ := cells6 X2.out
      go_wp2_with fail
      with_reducible refine (HF.out _ K2.out).mono ?_
      rintro e w3 ⟨rfl, hb⟩
      have K3 := kept_hid K2' hb
      have X3 := Lib.hid (blk X2.out hb)
      have Y3 := Lib.hid (blk Y2.out hb)
      have I3 := Lib.hid (I2.out.below hb)
      clear hb c0 c1 c2 c3 c4 c5 K2 K2' X2 Y2 I2 HB HX HY HI HF
      obtain ⟨c0, c1, c2, c3, c4, c5⟩ := cells6 X3.out
      obtain ⟨d0, d1, d2, d3, d4, d5, d6, d7⟩ := cells8 Y3.out
      go_wp2_with fail
      with_reducible refine (HAW.out _ K3.out).mono ?_
      rintro e w4 ⟨rfl, hb⟩
      have KE := kept_hid K3 hb
      clear hb
      go_wp2_with fail
      go_ret
      exact ⟨rfl, KE.out⟩
    · have hle : decide ((300 : Int) < (t.length : Int)) = false := decide_eq_false (by omega)
      have HTL := Lib.hid (show t.length < 1000000 from by omega)
      clear htl
      obtain ⟨q1, q2, q3⟩ := few_parts hf
      have HL := Lib.hid q1
      have HP := Lib.hid q2
      have HR := Lib.hid q3
      have HXX := Lib.hid (show ((a : Int) % (s.cs.length : Int)) = ((a % s.cs.length : Nat) : Int) by omega)
      have HXL := Lib.hid (Nat.mod_lt a q2)
      generalize a % s.cs.length = x at *
      clear q1 q2 q3
      by_cases hwr : Go.Proofs.YtdmieopdgihnkaaDoor.Ord.wrong ⟨ok, t, op, on_, oq, om, oa, oc⟩ s.cs.length = 0
      · clear hf
        have HWQ := Lib.hid hwr
        clear hwr
        go_enter Tryd.func5, Tryd.ntmps5
        go_upto_region 1 with (fail)
        generalize (w.alloc _).alloc _ = w1 at *
        go_wp2_with fail
        with_reducible refine (HAW.out _ HB.out).mono ?_
        rintro e w2 ⟨rfl, hb⟩
        have K2 := Lib.hid hb
        have X2 := Lib.hid (blk HX.out hb)
        have Y2 := Lib.hid (blk HY.out hb)
        have K2' := kept_hid HB hb
        have I2 := Lib.hid (HI.out.below hb)
        clear hb
        obtain ⟨c0, c1, c2, c3, c4, c5⟩ := cells6 X2.out
        go_wp2_with fail
        with_reducible refine (HF.out _ K2.out).mono ?_
        rintro e w3 ⟨rfl, hb⟩
        have K3 := kept_hid K2' hb
        have X3 := Lib.hid (blk X2.out hb)
        have Y3 := Lib.hid (blk Y2.out hb)
        have I3 := Lib.hid (I2.out.below hb)
        clear hb c0 c1 c2 c3 c4 c5 K2 K2' X2 Y2 I2 HB HX HY HI HF
        obtain ⟨c0, c1, c2, c3, c4, c5⟩ := cells6 X3.out
        obtain ⟨d0, d1, d2, d3, d4, d5, d6, d7⟩ := cells8 Y3.out
        have HONE := Lib.hid (one_ok s ad k x ⟨ok, t, op, on_, oq, om, oa, oc⟩ ta t.length tc w3 I3.out HR.out H8.out (by have := HL.out; omega) HXL.out (bytes_below HT.out K3.out) HT8.out HTL.out HC8.out HWQ.out)
        go_upto_region 3 with (fail)
        clear hle
        have hne : ¬ ((s.cs.length : Int) = 0) := by have := HP.out; omega
        have b1 := HA16.out
        have b0 : (0 : Int) ≤ (a : Int) := by omega
        go_upto_region 4 with (fail)
        rw [HXX.out]
        clear b0 b1 hne
        go_wp2_with fail
        with_reducible refine HONE.out.mono ?_
        rintro e w4 ⟨va, vc, rfl, ho, hb⟩
        clear HONE c0 c1 c2 c3 c4 c5 d0 d1 d2 d3 d4 d5 d6 d7
        have HPR := pone_rest s x ⟨ok, t, op, on_, oq, om, oa, oc⟩
        have HST := Lib.hid (fun h => pone_stay (s := s) (a := x) (o := ⟨ok, t, op, on_, oq, om, oa, oc⟩) h)
        have HWI := Lib.hid (fun h i => pone_wipe (s := s) (a := x) (o := ⟨ok, t, op, on_, oq, om, oa, oc⟩) h i)
        have HCU := Lib.hid (pone_cur (s := s) (a := x) (o := ⟨ok, t, op, on_, oq, om, oa, oc⟩))
        have HRI := Lib.hid (pone_right HR.out HXL.out HWQ.out)
        have HLT := Lib.hid (pone_lt HXL.out HWQ.out)
        have HSO := Lib.hid (pone_sound (a := x) (o := ⟨ok, t, op, on_, oq, om, oa, oc⟩) H8.out HT8.out HC8.out)
        simp only at HST HWI HCU
        generalize pone s x ⟨ok, t, op, on_, oq, om, oa, oc⟩ = st at *
        obtain ⟨⟨r', c', cs', cur', lk', ins'⟩, pl⟩ := st
        simp only at ho HPR HST HWI HCU HRI HLT HSO
        obtain ⟨rfl, rfl, hlen, rfl, rfl⟩ := HPR
        simp only
        rw [hlen] at ho ⊢
        have HLE := Lib.hid hlen
        clear hlen
        have HA := al_any w4 (.cells #[.int .i64 s.rows, .int .i64 s.cols, .slice va s.cs.length vc, .int .i64 cur', .bool s.lk, .bool s.ins] 24)
        have T5 := Lib.hid (heap_alloc_new w4 (.cells #[.int .i64 s.rows, .int .i64 s.cols, .slice va s.cs.length vc, .int .i64 cur', .bool s.lk, .bool s.ins] 24))
        have X5 := Lib.hid (blk X3.out (kept_trans hb HA))
        have Y5 := Lib.hid (blk Y3.out (kept_trans hb HA))
        have I5 := Lib.hid (I3.out.below (kept_trans hb HA))
        have K5 := kept_hid K3 (kept_trans hb HA)
        have O5 := Lib.hid (show CelsIn (w4.alloc (.cells #[.int .i64 s.rows, .int .i64 s.cols, .slice va s.cs.length vc, .int .i64 cur', .bool s.lk, .bool s.ins] 24)) (.slice va s.cs.length vc) cs' from by
          have := (OwnCels.below ho HA).to
          exact this)
        clear HA ho hb X3 Y3 I3 K3
        go_upto_region 5 with (fail)
        generalize w4.heap.size = B at *
        generalize w4.alloc _ = w5 at *
        have HRR := Lib.hid (rright_any ⟨s.rows, s.cols, cs', cur', s.lk, s.ins⟩ va vc w5 (by simp only; rw [HLE.out]; exact O5.out) HSO.out (by simp only; rw [HLE.out]; have := HL.out; omega))
        rw [HRI.out] at HRR
        simp only at HRR
        rw [HLE.out] at HRR
        obtain ⟨c0, c1, c2, c3, c4, c5⟩ := cells6 T5.out
        go_wp2_with fail
        with_reducible refine HRR.out.mono ?_
        rintro e w6 ⟨rfl, hb⟩
        clear c0 c1 c2 c3 c4 c5
        have T6 := Lib.hid (blk T5.out hb)
        have X6 := Lib.hid (blk X5.out hb)
        have Y6 := Lib.hid (blk Y5.out hb)
        have I6 := Lib.hid (I5.out.below hb)
        have K6 := kept_hid K5 hb
        have O6 := Lib.hid (O5.out.below hb)
        clear hb T5 X5 Y5 I5 K5 O5 HRR
        obtain ⟨c0, c1, c2, c3, c4, c5⟩ := cells6 T6.out
        obtain ⟨d0, d1, d2, d3, d4, d5⟩ := cells6 X6.out
        have hp0 : decide ((pl : Int) < 0) = false := decide_eq_false (by omega)
        have hp1 : decide (s.cs.length ≤ pl) = false := decide_eq_false (by have := HLT.out; omega)
        go_upto_region 9 with (fail)
        clear c0 c1 c2 c3 c4 c5 d0 d1 d2 d3 d4 d5 hp0 hp1
        go_wp2_with fail
        go_loopg [11] (s.cs.length + 1) (fun mm ii wr => ∃ q : Nat, q ≤ s.cs.length ∧ mm = s.cs.length + 1 - q ∧ ii = .int .i64 q ∧ Hid (wr.heap[B]? = some (.cells #[.int .i64 s.rows, .int .i64 s.cols, .slice va s.cs.length vc, .int .i64 cur', .bool s.lk, .bool s.ins] 24 (0, 0))) ∧ Hid (wr.heap[w.heap.size]? = some (.cells #[.int .i64 s.rows, .int .i64 s.cols, .slice ad s.cs.length k, .int .i64 s.cur, .bool s.lk, .bool s.ins] 24 (0, 0))) ∧ Hid (wr.heap[w.heap.size + 1]? = some (.cells #[.int .i64 ok, .slice ta t.length tc, .bool op, .bool on_, .int .i64 oq, .bool om, .int .i64 oa, .int .u8 (oc : Int)] 30 (0, 0))) ∧ Hid (CelsIn wr (.slice ad s.cs.length k) s.cs) ∧ Hid (CelsIn wr (.slice va s.cs.length vc) cs') ∧ Hid (Below w.heap.size w wr))
        case atStart => exact ⟨0, Nat.zero_le _, rfl, rfl, T6, X6, Y6, I6, O6, K6⟩
        case round =>
          obtain ⟨q, hq, rfl, rfl, T7, X7, Y7, I7, O7, K7⟩ := hrel
          clear T6 X6 Y6 I6 O6 K6
          have ew : IntKind.i64.wrap ((q : Int) + 1) = (q : Int) + 1 := by
            have := HL.out
            rw [IntWalk.i64_in] <;> omega
          obtain ⟨c0, c1, c2, c3, c4, c5⟩ := cells6 T7.out
          obtain ⟨d0, d1, d2, d3, d4, d5⟩ := cells6 X7.out
          by_cases hlt : q < s.cs.length
          · have HQL := Lib.hid hlt
            obtain ⟨xf, xp, xn, xs', xm, xc, ex⟩ := c_eta (cs'.getD q noC)
            obtain ⟨yf, yp, yn, ys', ym, yc, ey⟩ := c_eta (s.cs.getD q noC)
            obtain ⟨b1, o1, hva, g0, g1, g2, g3, g4, g5⟩ := CelsIn.cells O7.out (show q < cs'.length by rw [HLE.out]; exact hlt) ex
            subst hva
            obtain ⟨b2, o2, had, p0, p1, p2, p3, p4, p5⟩ := I7.out.cells hlt ey
            subst had
            have hi0 : (0 : Int) ≤ (q : Int) := by omega
            have hi1 : (q : Int) < (s.cs.length : Int) := by omega
            have HN := run_eqC ⟨xf, xp, xn, xs', xm, xc⟩ ⟨yf, yp, yn, ys', ym, yc⟩
            simp only at HN
            generalize hd : decide ((⟨xf, xp, xn, xs', xm, xc⟩ : C) = ⟨yf, yp, yn, ys', ym, yc⟩) = bd at HN
            have HDN := Lib.hid fun n => below_drewN wr.heap.size n wr
            cases bd with
            | true =>
              clear hd ex ey
              go_wp2_with fail
              go_quiet (fail)
              go_wp2_with fail
              go_roundg (s.cs.length + 1 - (q + 1))
              case measure => omega
              case rel => exact ⟨q + 1, by omega, rfl, by first | rfl | go_num, Lib.hid (blk T7.out (HDN.out _)), Lib.hid (blk X7.out (HDN.out _)), Lib.hid (blk Y7.out (HDN.out _)), Lib.hid (I7.out.below (HDN.out _)), Lib.hid (O7.out.below (HDN.out _)), kept_hid K7 (HDN.out _)⟩
            | false =>
              have hdn : ¬ cs'.getD q noC = s.cs.getD q noC := by rw [ex, ey]; simpa using hd
              have hk345 : ¬ (ok = 3 ∨ ok = 4 ∨ ok = 5) := fun h => hdn (by rw [HST.out h])
              have hk3 : ((ok : Int) == 3) = false := by simp; omega
              have hk4 : ((ok : Int) == 4) = false := by simp; omega
              have hk5 : ((ok : Int) == 5) = false := by simp; omega
              have H7 := Lib.hid (show ok = 7 → xf = false ∧ xc = 0 ∧ open_ s.cs q = true from fun h => by
                rcases HWI.out h q with h1 | ⟨h1, h2, h3⟩
                · exact absurd h1 hdn
                · rw [ex] at h1 h2
                  exact ⟨h1, h2, h3⟩)
              obtain ⟨e0, e1, e2, e3, e4, e5, e6, e7⟩ := cells8 Y7.out
              clear hd ex ey hdn hk345
              go_upto_region 12 with (fail)
              go_quiet (fail)
              have hW := HDN.out nq
              have g0' := (hW.cell (p := ⟨b1, o1 + q * 6, none⟩) (Str.cell_lt g0)).trans g0
              have g5' := (hW.cell (p := ⟨b1, o1 + q * 6 + 5, none⟩) (Str.cell_lt g5)).trans g5
              have T8 := Lib.hid (blk T7.out hW)
              have X8 := Lib.hid (blk X7.out hW)
              have Y8 := Lib.hid (blk Y7.out hW)
              have I8 := Lib.hid (I7.out.below hW)
              have O8 := Lib.hid (O7.out.below hW)
              have K8 := kept_hid K7 hW
              clear hW HDN T7 X7 Y7 I7 O7 K7 c0 c1 c2 c3 c4 c5 d0 d1 d2 d3 d4 d5 e0 e1 e2 e3 e4 e5 e6 e7 g0 g1 g2 g3 g4 g5 p0 p1 p2 p3 p4 p5 HN
              generalize wr.drewN nq = wq at *
              obtain ⟨e0, e1, e2, e3, e4, e5, e6, e7⟩ := cells8 Y8.out
              by_cases h7 : ok = 7
              · subst h7
                obtain ⟨rfl, rfl, hop⟩ := H7.out rfl
                have HOP := Lib.hid (ropen_any s (some ⟨b2, o2, none⟩) k q wq I8.out HP.out (by have := HL.out; omega) HQL.out)
                rw [hop] at HOP
                clear hop H7 HST HWI HCU hk3 hk4 hk5
                obtain ⟨c0, c1, c2, c3, c4, c5⟩ := cells6 T8.out
                obtain ⟨d0, d1, d2, d3, d4, d5⟩ := cells6 X8.out
                go_wp2_with fail
                with_reducible refine HOP.out.mono ?_
                rintro e we ⟨rfl, hb⟩
                have T9 := Lib.hid (blk T8.out hb)
                have X9 := Lib.hid (blk X8.out hb)
                have Y9 := Lib.hid (blk Y8.out hb)
                have I9 := Lib.hid (I8.out.below hb)
                have O9 := Lib.hid (O8.out.below hb)
                have K9 := kept_hid K8 hb
                clear hb HOP T8 X8 Y8 I8 O8 K8 c0 c1 c2 c3 c4 c5 d0 d1 d2 d3 d4 d5 e0 e1 e2 e3 e4 e5 e6 e7 g0' g5'
                go_wp2_with fail
                go_roundg (s.cs.length + 1 - (q + 1))
                case measure => omega
                case rel => exact ⟨q + 1, by omega, rfl, by first | rfl | go_num, T9, X9, Y9, I9, O9, K9⟩
              · have hk7 : ((ok : Int) == 7) = false := by simp; exact h7
                clear h7 H7
                go_wp2_with fail
                go_roundg (s.cs.length + 1 - (q + 1))
                case measure => omega
                case rel => exact ⟨q + 1, by omega, rfl, by first | rfl | go_num, T8, X8, Y8, I8, O8, K8⟩
          · obtain rfl : q = s.cs.length := by omega
            have hn0 : ¬ (s.cs.length : Int) < (s.cs.length : Int) := by omega
            obtain ⟨e0, e1, e2, e3, e4, e5, e6, e7⟩ := cells8 Y7.out
            clear hlt
            have HCC := HCU.out
            clear HCU
            by_cases h4 : ok = 4
            · have hk4 : ((ok : Int) == 4) = true := by simp; exact h4
              clear h4 HCC
              go_wp2_with fail
              go_ret
              exact ⟨rfl, K7.out⟩
            · have hk4 : ((ok : Int) == 4) = false := by simp; exact h4
              rw [if_neg h4] at HCC
              subst HCC
              clear h4
              go_wp2_with fail
              go_ret
              exact ⟨rfl, K7.out⟩
      · clear hf
        have HWQ := Lib.hid hwr
        clear hwr
        go_enter Tryd.func5, Tryd.ntmps5
        go_upto_region 1 with (fail)
        generalize (w.alloc _).alloc _ = w1 at *
        go_wp2_with fail
        with_reducible refine (HAW.out _ HB.out).mono ?_
        rintro e w2 ⟨rfl, hb⟩
        have K2 := Lib.hid hb
        have X2 := Lib.hid (blk HX.out hb)
        have Y2 := Lib.hid (blk HY.out hb)
        have K2' := kept_hid HB hb
        have I2 := Lib.hid (HI.out.below hb)
        clear hb
        obtain ⟨c0, c1, c2, c3, c4, c5⟩ := cells6 X2.out
        go_wp2_with fail
        with_reducible refine (HF.out _ K2.out).mono ?_
        rintro e w3 ⟨rfl, hb⟩
        have K3 := kept_hid K2' hb
        have X3 := Lib.hid (blk X2.out hb)
        have Y3 := Lib.hid (blk Y2.out hb)
        have I3 := Lib.hid (I2.out.below hb)
        clear hb c0 c1 c2 c3 c4 c5 K2 K2' X2 Y2 I2 HB HX HY HI HF
        obtain ⟨c0, c1, c2, c3, c4, c5⟩ := cells6 X3.out
        obtain ⟨d0, d1, d2, d3, d4, d5, d6, d7⟩ := cells8 Y3.out
        have HONE := Lib.hid (one_no s ad k x ⟨ok, t, op, on_, oq, om, oa, oc⟩ ta t.length tc w3 I3.out HR.out H8.out (by have := HL.out; omega) HXL.out (bytes_below HT.out K3.out) HT8.out HTL.out HC8.out HWQ.out)
        go_upto_region 3 with (fail)
        clear hle
        have hne : ¬ ((s.cs.length : Int) = 0) := by have := HP.out; omega
        have b1 := HA16.out
        have b0 : (0 : Int) ≤ (a : Int) := by omega
        go_upto_region 4 with (fail)
        rw [HXX.out]
        clear b0 b1 hne
        go_wp2_with fail
        with_reducible refine HONE.out.mono ?_
        rintro e w4 ⟨wh, va, vc, ev, rfl, hci, htd, hb⟩
        clear HONE c0 c1 c2 c3 c4 c5 d0 d1 d2 d3 d4 d5 d6 d7
        have K4 := kept_hid K3 hb
        have HWN := HWQ.out
        clear hb hci K3 X3 Y3 I3 HWQ
        rcases htd with ⟨_, h1, _⟩ | ⟨rfl, _⟩ | ⟨_, _, rfl, _⟩
        · exact absurd h1 (by omega)
        all_goals
          clear HWN
          go_wp2_with fail
          go_ret
          exact ⟨rfl, kept_trans K4.out (al_any _ _)⟩
end Pnt
end Go.Proofs.YtdmieopdgihnkaaDoor
