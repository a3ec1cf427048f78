/- The law WipeUndoes. Written by tools/gen_wip_laws.py. -/
import Derived.Test.YtaopkelobglnbaaDoorWipAwake
import Derived.Test.YtaopkelobglnbaaDoorWipOk
import Derived.Test.YtaopkelobglnbaaDoorBunGrd
import Derived.Test.YtaopkelobglnbaaDoorBunGrd
import Derived.Test.YtaopkelobglnbaaDoorOpnScr
import Derived.Test.YtaopkelobglnbaaDoorEdtCode
import Derived.Deep.LoopGhost
import Derived.Deep.QuietTactic
import Derived.BigQuiet
import Derived.StillTailTactics
import Derived.Deep.Cut
import Derived.Deep.RegionHeld3
namespace Go.Proofs.YtaopkelobglnbaaDoor
open Go.RowKit Sha Six Apd Cut Err Att Grd Fld Scr Edt
set_option linter.unusedVariables false
namespace Wip
set_option maxRecDepth 100000 in
set_option maxHeartbeats 8000000 in
theorem undoes_any (s : S) (ad : Option Addr) (k : Nat) (c : Int) (w : World) (h : CelsIn w (.slice ad s.cs.length k) s.cs) (hwf : Opn.Wf s.cs) (hm : s.cs.length ≤ maxLen) (wc : (Lit.int .u8 c).wf = true) (hg : Handle w) :
    Calls Tryd.prog 5 #[.agg #[.int .i64 s.rows, .int .i64 s.cols, .slice ad s.cs.length k, .int .i64 s.cur, .bool s.lk, .bool s.ins], .int .u8 c] w fun e w' => e = .returned (.bool true) ∧ Below w.heap.size w w' := by
  obtain ⟨b0c, b1c⟩ := Go.Proofs.YtaopkelobglnbaaDoor.Ord.wf_u8 wc
  obtain ⟨c, rfl⟩ := Int.eq_ofNat_of_zero_le b0c
  have HBc := Lib.hid (show c < 256 by omega)
  have HG := Lib.hid fun W (hb : Below w.heap.size w W) => hand_of hg hb
  have HAW := Lib.hid fun W (hb : Below w.heap.size w W) => awake_any W (hand_of hg hb)
  have HB := Lib.hid (al_any w (.cells #[.int .i64 s.rows, .int .i64 s.cols, .slice ad s.cs.length k, .int .i64 s.cur, .bool s.lk, .bool s.ins] 24))
  have HX := Lib.hid (heap_alloc_new w (.cells #[.int .i64 s.rows, .int .i64 s.cols, .slice ad s.cs.length k, .int .i64 s.cur, .bool s.lk, .bool s.ins] 24))
  have HI := Lib.hid (h.below HB.out)
  have HF := Lib.hid fun W hb => rfew_any s ad k W (HI.out.below hb) (wf_sound hwf)
  have H8 := Lib.hid (wf_sound hwf)
  clear h hwf hm hg wc b0c b1c
  cases hf : few s with
  | false =>
    rw [hf] at HF
    go_enter Tryd.func5, Tryd.ntmps5
    go_upto_region 1 with (fail)
    generalize w.alloc _ = w1 at *
    go_wp2_with fail
    with_reducible refine (HAW.out _ HB.out).mono ?_
    rintro e w2 ⟨rfl, hb⟩
    have K2 := Lib.hid hb
    have X2 := Lib.hid (blk HX.out hb)
    have K2' := kept_hid HB hb
    have I2 := Lib.hid (HI.out.below hb)
    clear hb
    obtain ⟨c0, c1, c2, c3, c4, c5⟩ := cells6 X2.out
    go_wp2_with fail
    with_reducible refine (HF.out _ K2.out).mono ?_
    rintro e w3 ⟨rfl, hb⟩
    have K3 := kept_hid K2' hb
    have X3 := Lib.hid (blk X2.out hb)
    have I3 := Lib.hid (I2.out.below hb)
    clear hb c0 c1 c2 c3 c4 c5 K2 K2' X2 I2 HB HX HI HF
    go_wp2_with fail
    with_reducible refine (HAW.out _ K3.out).mono ?_
    rintro e w4 ⟨rfl, hb⟩
    have KE := kept_hid K3 hb
    clear hb
    go_wp2_with fail
    go_ret
    exact ⟨rfl, KE.out⟩
  | true =>
    rw [hf] at HF
    obtain ⟨q1, q2, q3⟩ := few_parts hf
    have HL := Lib.hid q1
    have HP := Lib.hid q2
    have HR := Lib.hid q3
    have HLT := Lib.hid (show s.cs.length < 10000 from by have := HL.out; omega)
    clear q1 q2 q3 hf
    go_enter Tryd.func5, Tryd.ntmps5
    go_upto_region 1 with (fail)
    generalize w.alloc _ = w1 at *
    go_wp2_with fail
    with_reducible refine (HAW.out _ HB.out).mono ?_
    rintro e w2 ⟨rfl, hb⟩
    have K2 := Lib.hid hb
    have X2 := Lib.hid (blk HX.out hb)
    have K2' := kept_hid HB hb
    have I2 := Lib.hid (HI.out.below hb)
    clear hb
    obtain ⟨c0, c1, c2, c3, c4, c5⟩ := cells6 X2.out
    go_wp2_with fail
    with_reducible refine (HF.out _ K2.out).mono ?_
    rintro e w3 ⟨rfl, hb⟩
    have K3 := kept_hid K2' hb
    have X3 := Lib.hid (blk X2.out hb)
    have I3 := Lib.hid (I2.out.below hb)
    clear hb c0 c1 c2 c3 c4 c5 K2 K2' X2 I2 HB HX HI HF
    clear HAW
    obtain ⟨s1, hs1⟩ : ∃ s1 : S, s1 = { s with ins := true, lk := false } := ⟨_, rfl⟩
    have HR1 := Lib.hid (show sright s1 = true from by rw [hs1]; exact HR.out)
    have H81 := Lib.hid (show Sound s1.cs from by rw [hs1]; exact H8.out)
    have HL1 := Lib.hid (show s1.cs.length < 10000 from by rw [hs1]; exact HLT.out)
    have HP1 := Lib.hid (show 0 < s1.cs.length from by rw [hs1]; exact HP.out)
    have HCS := Lib.hid (show s1.cs = s.cs from by rw [hs1])
    obtain ⟨c0, c1, c2, c3, c4, c5⟩ := cells6 X3.out
    obtain ⟨f0, f1, f2, f3, f4, f5⟩ := free6 X3.out
    have SO := gsetCell w3 w.heap.size 5 (.bool true)
    have X4 := heap_setCell_same w3 w.heap.size 5 _ 24 (.bool true) X3.out
    have I4 := celsIn_away I3.out SO (fun y hy => (not_screen I3.out HP.out X3.out y hy).1)
    have K4 := below_grown K3.out SO (Nat.le_refl _)
    obtain ⟨g0, g1, g2, g3, g4, g5⟩ := cells6 X4
    obtain ⟨q0, q1, q2, q3, q4, q5⟩ := free6 X4
    have SO2 := gsetCell (w3.setCell ⟨w.heap.size, 5, none⟩ (.bool true)) w.heap.size 4 (.bool false)
    have X5 := Lib.hid (show ((w3.setCell ⟨w.heap.size, 5, none⟩ (.bool true)).setCell ⟨w.heap.size, 4, none⟩ (.bool false)).heap[w.heap.size]? = some (.cells #[.int .i64 s1.rows, .int .i64 s1.cols, .slice ad s1.cs.length k, .int .i64 s1.cur, .bool s1.lk, .bool s1.ins] 24 (0, 0)) from by
      rw [hs1]
      exact heap_setCell_same (w3.setCell ⟨w.heap.size, 5, none⟩ (.bool true)) w.heap.size 4 _ 24 (.bool false) X4)
    have I5 := Lib.hid (show CelsIn ((w3.setCell ⟨w.heap.size, 5, none⟩ (.bool true)).setCell ⟨w.heap.size, 4, none⟩ (.bool false)) (.slice ad s1.cs.length k) s1.cs from by
      rw [HCS.out]
      exact celsIn_away I4 SO2 (fun y hy => (not_screen I4 HP.out X4 y hy).1))
    have K5 := Lib.hid (below_grown K4 SO2 (Nat.le_refl _))
    clear SO SO2 X3 I3 K3 X4 I4 K4
    go_upto_region 5 with (fail)
    clear c0 c1 c2 c3 c4 c5 f0 f1 f2 f3 f4 f5 g0 g1 g2 g3 g4 g5 q0 q1 q2 q3 q4 q5
    generalize (w3.setCell _ _).setCell _ _ = w4 at *
    have HIN := Lib.hid (show s1.ins = true from by rw [hs1])
    clear hs1
    obtain ⟨kc, hcur, hcn, hk⟩ := cur_nat HR1.out
    have HUN := Lib.hid fun hl ht => undoes (c := c) HR1.out hcur hk HIN.out hl ht
    have HTL := Lib.hid (typ_length (s := s1) c)
    have HLN := fun W h => line_any s1 ad k kc W h H81.out HL1.out hk
    simp only [← hcur] at HLN
    replace HLN := Lib.hid HLN
    have HMY := fun W h => modify_any s1 ad k kc W h H81.out HL1.out hk
    simp only [← hcur, GaveA] at HMY
    replace HMY := Lib.hid HMY
    have HML := Lib.hid (modif_length s1 kc)
    have Q1 := Lib.hid fun W (h : CelsIn W (.slice ad s1.cs.length k) s1.cs) => type_any s1 ad k c W h HR1.out H81.out HL1.out HBc.out
    simp only [GaveE] at Q1
    generalize (typ s1 c).2.2 = wh at *
    generalize (typ s1 c).2.1 = code at *
    generalize (typ s1 c).1 = t at *
    generalize modif s1 kc = md at *
    have HLL := Lib.hid (line_length s1.cs kc)
    have HLB := Lib.hid (lineLen_le hk)
    have HLX := Lib.hid (fun x (hx : x ∈ line s1.cs kc) => line_lt (cs := s1.cs) HP1.out hx)
    have HCH := Lib.hid (fun i => (show ch s1 kc i = (s1.cs.getD ((line s1.cs kc).getD i 0) noC).c from rfl))
    rw [← HLL.out] at HUN HLB
    clear hcur hcn hk HLL
    generalize ch s1 kc = zf at *
    generalize line s1.cs kc = L at *
    obtain ⟨c0, c1, c2, c3, c4, c5⟩ := cells6 X5.out
    go_wp2_with fail
    with_reducible refine (HLN.out _ I5.out).mono ?_
    rintro e w5 ⟨vl, rfl, hvl, hb⟩
    obtain ⟨al, kl, rfl⟩ := hvl.form
    have HV := Lib.hid hvl
    replace X5 := Lib.hid (blk X5.out hb)
    replace I5 := Lib.hid (I5.out.below hb)
    replace K5 := kept_hid K5 hb
    clear c0 c1 c2 c3 c4 c5 hvl hb HLN
    go_wp2_with fail
    go_loopg [6] (L.length + 1) (fun mm ii wr => ∃ q : Nat, q ≤ L.length ∧ mm = L.length + 1 - q ∧ ii = .int .i64 q ∧ Hid (Below w5.heap.size w5 wr) ∧ Hid (∀ i, i < q → (zf i = 0 ↔ i + 1 = L.length)))
    case atStart => exact ⟨0, Nat.zero_le _, rfl, rfl, Lib.hid (Below.refl _ _), Lib.hid (fun i hi => absurd hi (Nat.not_lt_zero _))⟩
    case round =>
      obtain ⟨q, hq, rfl, rfl, KR, HZ⟩ := hrel
      have ew : IntKind.i64.wrap ((q : Int) + 1) = (q : Int) + 1 := by
        have := HLB.out; have := HL1.out
        rw [IntWalk.i64_in] <;> omega
      have XR := Lib.hid (blk X5.out KR.out)
      have IR := Lib.hid (I5.out.below KR.out)
      by_cases hlt : q < L.length
      · have HXL := Lib.hid (HLX.out _ (show L.getD q 0 ∈ L by rw [List.getD_eq_getElem?_getD, List.getElem?_eq_getElem hlt]; exact List.getElem_mem hlt))
        have HC := Lib.hid (HCH.out q)
        obtain ⟨lb, lo, rfl, d1⟩ := (HV.out.below KR.out).cell hlt
        have HQ := Lib.hid hlt
        have hi0 : (0 : Int) ≤ (q : Int) := by omega
        have hi1 : (q : Int) < (L.length : Int) := by omega
        generalize L.getD q 0 = x at *
        have hj0 : (0 : Int) ≤ (x : Int) := by omega
        have hj1 : (x : Int) < (s1.cs.length : Int) := by have := HXL.out; omega
        obtain ⟨yf, yp, yn, ys, ym, yc, ey⟩ := c_eta (s1.cs.getD x noC)
        obtain ⟨b1, o1, rfl, g0, g1, g2, g3, g4, g5⟩ := IR.out.cells HXL.out ey
        rw [ey] at HC
        obtain ⟨c0, c1, c2, c3, c4, c5⟩ := cells6 XR.out
        have HDN := Lib.hid fun n => below_drewN wr.heap.size n wr
        clear ey
        by_cases hy : yc = 0
        · have e0 : ((yc : Int) == 0) = true := by simp; omega
          by_cases hn : q + 1 = L.length
          · have e1 : ((q : Int) + 1 == (L.length : Int)) = true := by simp; omega
            have HZN := Lib.hid (show ∀ i, i < q + 1 → (zf i = 0 ↔ i + 1 = L.length) from fun i hi => by
              by_cases h : i = q
              · subst h; rw [HC.out]; exact ⟨fun _ => hn, fun _ => hy⟩
              · exact HZ.out i (by omega))
            clear hy hn
            go_upto_region 9 with (fail)
            go_quiet (fail)
            go_wp2_with fail
            go_roundg (L.length + 1 - (q + 1))
            case measure => omega
            case rel => exact ⟨q + 1, HQ.out, rfl, by first | rfl | go_num, kept_hid KR (HDN.out _), HZN⟩
          · have e1 : ((q : Int) + 1 == (L.length : Int)) = false := by simp; omega
            have KF := kept_hid K5 KR.out
            clear hy hn
            go_upto_region 9 with (fail)
            go_quiet (fail)
            have KG := kept_hid KF (HDN.out nq)
            go_wp2_with fail
            go_ret
            exact ⟨rfl, KG.out⟩
        · have e0 : ((yc : Int) == 0) = false := by simp; omega
          by_cases hn : q + 1 = L.length
          · have e1 : ((q : Int) + 1 == (L.length : Int)) = true := by simp; omega
            have KF := kept_hid K5 KR.out
            clear hy hn
            go_upto_region 9 with (fail)
            go_quiet (fail)
            have KG := kept_hid KF (HDN.out nq)
            go_wp2_with fail
            go_ret
            exact ⟨rfl, KG.out⟩
          · have e1 : ((q : Int) + 1 == (L.length : Int)) = false := by simp; omega
            have HZN := Lib.hid (show ∀ i, i < q + 1 → (zf i = 0 ↔ i + 1 = L.length) from fun i hi => by
              by_cases h : i = q
              · subst h; rw [HC.out]; exact ⟨fun h => absurd h hy, fun h => absurd h hn⟩
              · exact HZ.out i (by omega))
            clear hy hn
            go_upto_region 9 with (fail)
            go_quiet (fail)
            go_wp2_with fail
            go_roundg (L.length + 1 - (q + 1))
            case measure => omega
            case rel => exact ⟨q + 1, HQ.out, rfl, by first | rfl | go_num, kept_hid KR (HDN.out _), HZN⟩
      · obtain rfl : q = L.length := by omega
        have hn0 : ¬ (L.length : Int) < (L.length : Int) := by omega
        have KF := kept_hid K5 KR.out
        clear hlt X5 I5 K5 KR HV HCH HLX HLB ew hq
        obtain ⟨c0, c1, c2, c3, c4, c5⟩ := cells6 XR.out
        go_wp2_with fail
        with_reducible refine (Q1.out _ IR.out).mono ?_
        rintro e w6 ⟨va1, vc1, ev1, rfl, hc, ht, hn, hb⟩
        clear c0 c1 c2 c3 c4 c5
        have HNW := Lib.hid (show w.heap.size ≤ w6.heap.size from Nat.le_trans KF.out.size hb.size)
        have HNN := Lib.hid (show w.heap.size < w6.heap.size from there_lt (blk XR.out hb))
        have HA := al_any w6 (.cells #[.int .i64 t.rows, .int .i64 t.cols, .slice va1 t.cs.length vc1, .int .i64 t.cur, .bool t.lk, .bool t.ins] 24)
        have B1 := Lib.hid (heap_alloc_new w6 (.cells #[.int .i64 t.rows, .int .i64 t.cols, .slice va1 t.cs.length vc1, .int .i64 t.cur, .bool t.lk, .bool t.ins] 24))
        have C1 := Lib.hid (hc.below HA)
        have T1 := Lib.hid (Err.Told.below ht HA)
        have E1 := Lib.hid (fun h => (hn h).1)
        replace hb := kept_trans hb HA
        replace XR := Lib.hid (blk XR.out hb)
        replace IR := Lib.hid (IR.out.below hb)
        replace KF := kept_hid KF hb
        clear HA hc ht hn hb
        go_upto_region 12 with (fail)
        generalize w6.heap.size = N1 at *
        generalize w6.alloc _ = w6b at *
        by_cases hcode : code = 0
        · have hev := E1.out (by omega)
          subst hev
          obtain ⟨ulk, u1, u2, v, v1, v2, v3, v4⟩ := HUN.out HZ.out hcode
          clear ulk
          have HU1 := Lib.hid u1
          have HV3 := Lib.hid v3
          have HVL := Lib.hid v2
          have HTY := Lib.hid v4
          have HTP := Lib.hid (show 0 < t.cs.length from by rw [HTL.out.1]; exact HP1.out)
          have SO := gsetCell w6b N1 3 (.int .i64 s1.cur)
          have B2 := heap_setCell_same w6b N1 3 _ 24 (.int .i64 s1.cur) B1.out
          have X2 := Lib.hid (blk_g XR.out SO (by intro e; injection e with e; have := HNN.out; omega))
          have I2 := Lib.hid (celsIn_away IR.out SO (fun y hy => (not_screen IR.out HP1.out B1.out y hy).1))
          have C2 := celsIn_away C1.out SO (fun y hy => (not_screen C1.out HTP.out B1.out y hy).1)
          have K2 := Lib.hid (below_grown KF.out SO HNW.out)
          obtain ⟨c0, c1, c2, c3, c4, c5⟩ := cells6 XR.out
          obtain ⟨d0, d1, d2, d3, d4, d5⟩ := cells6 B1.out
          obtain ⟨f0, f1, f2, f3, f4, f5⟩ := free6 B1.out
          obtain ⟨u0, hu0⟩ : ∃ u0 : S, u0 = { t with cur := s1.cur } := ⟨_, rfl⟩
          have BU := Lib.hid (show (w6b.setCell ⟨N1, 3, none⟩ (.int .i64 s1.cur)).heap[N1]? = some (.cells #[.int .i64 u0.rows, .int .i64 u0.cols, .slice va1 u0.cs.length vc1, .int .i64 u0.cur, .bool u0.lk, .bool u0.ins] 24 (0, 0)) from by rw [hu0]; exact B2)
          have CU := Lib.hid (show CelsIn (w6b.setCell ⟨N1, 3, none⟩ (.int .i64 s1.cur)) (.slice va1 u0.cs.length vc1) u0.cs from by rw [hu0]; exact C2)
          rw [← hu0] at HU1 u2 v1
          have HUL := Lib.hid (show u0.cs.length < 10000 from by rw [hu0]; show t.cs.length < 10000; rw [HTL.out.1]; exact HL1.out)
          clear SO B2 C2 B1 C1 XR IR KF T1 E1 u1 v2 v3 v4 hcode hu0
          go_upto_region 15 with (fail)
          clear c0 c1 c2 c3 c4 c5 d0 d1 d2 d3 d4 d5 f0 f1 f2 f3 f4 f5
          generalize w6b.setCell _ _ = w7 at *
          have Q2 := fun W (h : CelsIn W (.slice va1 u0.cs.length vc1) u0.cs) => do_any u0 va1 vc1 12 W h HU1.out (right_sound HU1.out) HUL.out
          have Q3 := fun W (h : CelsIn W (.slice va1 u0.cs.length vc1) u0.cs) => do_any u0 va1 vc1 13 W h HU1.out (right_sound HU1.out) HUL.out
          simp only [u2, GaveE] at Q2
          simp only [v1, GaveE] at Q3
          replace Q2 := Lib.hid Q2
          replace Q3 := Lib.hid Q3
          clear u2 v1
          obtain ⟨c0, c1, c2, c3, c4, c5⟩ := cells6 BU.out
          go_wp2_with fail
          with_reducible refine (Q2.out _ CU.out).mono ?_
          rintro e w8 ⟨va2, vc2, ev2, rfl, hc, ht, hn, hb⟩
          clear c0 c1 c2 c3 c4 c5
          have HA := al_any w8 (.cells #[.int .i64 md.rows, .int .i64 md.cols, .slice va2 md.cs.length vc2, .int .i64 md.cur, .bool md.lk, .bool md.ins] 24)
          have B2 := Lib.hid (heap_alloc_new w8 (.cells #[.int .i64 md.rows, .int .i64 md.cols, .slice va2 md.cs.length vc2, .int .i64 md.cur, .bool md.lk, .bool md.ins] 24))
          have C2 := Lib.hid (hc.below HA)
          have T2 := Lib.hid (Err.Told.below ht HA)
          have E2 := Lib.hid (fun h => (hn h).1)
          replace hb := kept_trans hb HA
          replace X2 := Lib.hid (blk X2.out hb)
          replace BU := Lib.hid (blk BU.out hb)
          replace I2 := Lib.hid (I2.out.below hb)
          replace CU := Lib.hid (CU.out.below hb)
          replace K2 := kept_hid K2 hb
          clear HA hc ht hn hb
          go_upto_region 16 with (fail)
          generalize w8.heap.size = N2 at *
          generalize w8.alloc _ = w8b at *
          obtain ⟨c0, c1, c2, c3, c4, c5⟩ := cells6 BU.out
          go_wp2_with fail
          with_reducible refine (Q3.out _ CU.out).mono ?_
          rintro e w9 ⟨va3, vc3, ev3, rfl, hc, ht, hn, hb⟩
          clear c0 c1 c2 c3 c4 c5
          have HA := al_any w9 (.cells #[.int .i64 v.rows, .int .i64 v.cols, .slice va3 v.cs.length vc3, .int .i64 v.cur, .bool v.lk, .bool v.ins] 24)
          have B3 := Lib.hid (heap_alloc_new w9 (.cells #[.int .i64 v.rows, .int .i64 v.cols, .slice va3 v.cs.length vc3, .int .i64 v.cur, .bool v.lk, .bool v.ins] 24))
          have C3 := Lib.hid (hc.below HA)
          have T3 := Lib.hid (Err.Told.below ht HA)
          have E3 := Lib.hid (fun h => (hn h).1)
          replace hb := kept_trans hb HA
          replace X2 := Lib.hid (blk X2.out hb)
          replace B2 := Lib.hid (blk B2.out hb)
          replace I2 := Lib.hid (I2.out.below hb)
          replace C2 := Lib.hid (C2.out.below hb)
          replace K2 := kept_hid K2 hb
          clear HA hc ht hn hb
          go_upto_region 17 with (fail)
          generalize w9.heap.size = N3 at *
          generalize w9.alloc _ = w9b at *
          have hev2 := by first | exact E2.out rfl | exact E2.out trivial
          have hev3 := by first | exact E3.out rfl | exact E3.out trivial
          subst hev2
          subst hev3
          have Q4 := Lib.hid fun W (h : CelsIn W (.slice va3 v.cs.length vc3) v.cs) => type_any v va3 vc3 c W h HV3.out (right_sound HV3.out) (by rw [HVL.out]; exact HL1.out) HBc.out
          simp only [GaveE] at Q4
          rw [HTY.out] at Q4
          generalize (typ v c).2.2 = wh4 at *
          generalize (typ v c).1 = t4 at *
          clear T2 T3 E2 E3 Q2 Q3 BU CU
          obtain ⟨c0, c1, c2, c3, c4, c5⟩ := cells6 B3.out
          go_wp2_with fail
          with_reducible refine (Q4.out _ C3.out).mono ?_
          rintro e wa ⟨va4, vc4, ev4, rfl, hc, ht, hn, hb⟩
          clear c0 c1 c2 c3 c4 c5
          have HA := al_any wa (.cells #[.int .i64 t4.rows, .int .i64 t4.cols, .slice va4 t4.cs.length vc4, .int .i64 t4.cur, .bool t4.lk, .bool t4.ins] 24)
          have B4 := Lib.hid (heap_alloc_new wa (.cells #[.int .i64 t4.rows, .int .i64 t4.cols, .slice va4 t4.cs.length vc4, .int .i64 t4.cur, .bool t4.lk, .bool t4.ins] 24))
          have C4 := Lib.hid (hc.below HA)
          have T4 := Lib.hid (Err.Told.below ht HA)
          have E4 := Lib.hid (fun h => (hn h).1)
          replace hb := kept_trans hb HA
          replace X2 := Lib.hid (blk X2.out hb)
          replace B2 := Lib.hid (blk B2.out hb)
          replace I2 := Lib.hid (I2.out.below hb)
          replace C2 := Lib.hid (C2.out.below hb)
          replace K2 := kept_hid K2 hb
          clear HA hc ht hn hb
          go_upto_region 20 with (fail)
          generalize wa.heap.size = N4 at *
          generalize wa.alloc _ = wab at *
          have hev4 := by first | exact E4.out rfl | exact E4.out trivial
          subst hev4
          clear T4 E4 Q4 B3 C3
          have HSX := Lib.hid (show ∀ W', Below wab.heap.size wab W' → Below wab.heap.size wab W' ∧ (W'.cell? ⟨w.heap.size, 0, none⟩ = some (.int .i64 s1.rows) ∧ W'.cell? ⟨w.heap.size, 1, none⟩ = some (.int .i64 s1.cols) ∧ W'.cell? ⟨w.heap.size, 2, none⟩ = some (.slice ad s1.cs.length k) ∧ W'.cell? ⟨w.heap.size, 3, none⟩ = some (.int .i64 s1.cur) ∧ W'.cell? ⟨w.heap.size, 4, none⟩ = some (.bool s1.lk) ∧ W'.cell? ⟨w.heap.size, 5, none⟩ = some (.bool s1.ins)) ∧ (W'.cell? ⟨N2, 0, none⟩ = some (.int .i64 md.rows) ∧ W'.cell? ⟨N2, 1, none⟩ = some (.int .i64 md.cols) ∧ W'.cell? ⟨N2, 2, none⟩ = some (.slice va2 md.cs.length vc2) ∧ W'.cell? ⟨N2, 3, none⟩ = some (.int .i64 md.cur) ∧ W'.cell? ⟨N2, 4, none⟩ = some (.bool md.lk) ∧ W'.cell? ⟨N2, 5, none⟩ = some (.bool md.ins)) from fun W' hW => ⟨hW, cells6 (blk X2.out hW), cells6 (blk B2.out hW)⟩)
          have HMZ := Lib.hid fun W (hb : Below wab.heap.size wab W) => HMY.out W (I2.out.below hb)
          have HCD := Lib.hid fun W (hb : Below wab.heap.size wab W) => C2.out.below hb
          have HDL := Lib.hid (show md.cs.length < 1000000000 from by rw [HML.out]; have := HL1.out; omega)
          go_region_held3 (fun W' => Below wab.heap.size wab W' ∧ (W'.cell? ⟨w.heap.size, 0, none⟩ = some (.int .i64 s1.rows) ∧ W'.cell? ⟨w.heap.size, 1, none⟩ = some (.int .i64 s1.cols) ∧ W'.cell? ⟨w.heap.size, 2, none⟩ = some (.slice ad s1.cs.length k) ∧ W'.cell? ⟨w.heap.size, 3, none⟩ = some (.int .i64 s1.cur) ∧ W'.cell? ⟨w.heap.size, 4, none⟩ = some (.bool s1.lk) ∧ W'.cell? ⟨w.heap.size, 5, none⟩ = some (.bool s1.ins)) ∧ (W'.cell? ⟨N2, 0, none⟩ = some (.int .i64 md.rows) ∧ W'.cell? ⟨N2, 1, none⟩ = some (.int .i64 md.cols) ∧ W'.cell? ⟨N2, 2, none⟩ = some (.slice va2 md.cs.length vc2) ∧ W'.cell? ⟨N2, 3, none⟩ = some (.int .i64 md.cur) ∧ W'.cell? ⟨N2, 4, none⟩ = some (.bool md.lk) ∧ W'.cell? ⟨N2, 5, none⟩ = some (.bool md.ins)))
            ((refine HSX.out _ ?_; first | with_reducible exact (Below.refl _ _).drew | with_reducible exact (Below.refl _ _) | with_reducible exact (And.left (by assumption)) | with_reducible exact kept_trans (And.left (by assumption)) hb))
            (first
              | (go_at_call 18; with_reducible refine (HMZ.out _ (And.left (by assumption))).mono ?_; rintro e wh ⟨va5, vc5, rfl, ho5, hb⟩; have hc5 := HCD.out _ (kept_trans (And.left (by assumption : Below wab.heap.size wab _ ∧ _)) hb))
              | (go_at_call 15; with_reducible refine (rsame_any _ _ _ _ _ _ _ _ _ _ _ _ _ _ hc5 ho5.to HDL.out).mono ?_; rintro e wn ⟨rfl, hb⟩; rw [decide_eq_true rfl]))
          have hS := And.left (by assumption : Below wab.heap.size wab wn ∧ _)
          have K9 := kept_hid K2 hS
          clear hS hb
          go_wp2_with fail
          go_ret
          exact ⟨rfl, K9.out⟩
        · obtain ⟨et, evv, hev⟩ := told_iface T1.out (by omega)
          subst hev
          replace hcode := Lib.hid hcode
          go_wp2_with fail
          go_ret
          exact ⟨rfl, KF.out⟩
end Wip
end Go.Proofs.YtaopkelobglnbaaDoor
