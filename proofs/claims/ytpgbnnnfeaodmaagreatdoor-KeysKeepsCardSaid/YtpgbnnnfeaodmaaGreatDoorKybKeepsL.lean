/- The law KeysKeeps. Written by tools/gen_kyb_laws.py. -/
import Derived.Test.YtpgbnnnfeaodmaaGreatDoorKybAwake
import Derived.Test.YtpgbnnnfeaodmaaGreatDoorBunGrd
import Derived.Test.YtpgbnnnfeaodmaaGreatDoorBunGrd
import Derived.Test.YtpgbnnnfeaodmaaGreatDoorOpnScr
import Derived.Test.YtpgbnnnfeaodmaaGreatDoorOpnKey
import Derived.Deep.LoopGhost
import Derived.StillTailTactics
import Derived.Deep.Cut
import Derived.Deep.RegionHeld3
namespace Go.Proofs.YtpgbnnnfeaodmaaGreatDoor
open Go.RowKit Sha Six Apd Cut Err Att Grd Fld Scr Edt
set_option linter.unusedVariables false
namespace Kyb
set_option maxRecDepth 100000 in
set_option maxHeartbeats 8000000 in
theorem keeps_any (s : S) (ad : Option Addr) (k : Nat) (kind c : Int) (w : World) (h : CelsIn w (.slice ad s.cs.length k) s.cs) (hwf : Opn.Wf s.cs) (hm : s.cs.length ≤ maxLen) (wkind : (Lit.int .i64 kind).wf = true) (wc : (Lit.int .u8 c).wf = true) (hg : Handle w) :
    Calls Tryz.prog 7 #[.agg #[.int .i64 s.rows, .int .i64 s.cols, .slice ad s.cs.length k, .int .i64 s.cur, .bool s.lk, .bool s.ins], .agg #[.int .i64 kind, .int .u8 c]] w fun e w' => e = .returned (.bool true) ∧ Below w.heap.size w w' := by
  obtain ⟨b0c, b1c⟩ := Go.Proofs.YtpgbnnnfeaodmaaGreatDoor.Ord.wf_u8 wc
  obtain ⟨c, rfl⟩ := Int.eq_ofNat_of_zero_le b0c
  have HBc := Lib.hid (show c < 256 by omega)
  have HAW := Lib.hid fun W (hb : Below w.heap.size w W) => awake_any W (hand_of hg hb)
  have HB := Lib.hid (kept_trans (al_any w (.cells #[.int .i64 s.rows, .int .i64 s.cols, .slice ad s.cs.length k, .int .i64 s.cur, .bool s.lk, .bool s.ins] 24)) (al_any _ (.cells #[.int .i64 kind, .int .u8 (c : Int)] 26)))
  have HX := Lib.hid (heap_alloc2_old w (.cells #[.int .i64 s.rows, .int .i64 s.cols, .slice ad s.cs.length k, .int .i64 s.cur, .bool s.lk, .bool s.ins] 24) (.cells #[.int .i64 kind, .int .u8 (c : Int)] 26))
  have HY := Lib.hid (heap_alloc2_new w (.cells #[.int .i64 s.rows, .int .i64 s.cols, .slice ad s.cs.length k, .int .i64 s.cur, .bool s.lk, .bool s.ins] 24) (.cells #[.int .i64 kind, .int .u8 (c : Int)] 26))
  have HI := Lib.hid (h.below HB.out)
  have HF := Lib.hid fun W hb => rfew_any s ad k W (HI.out.below hb) (wf_sound hwf)
  have H8 := Lib.hid (wf_sound hwf)
  clear h hwf hm hg wkind wc b0c b1c
  cases hf : few s with
  | false =>
    rw [hf] at HF
    go_enter Tryz.func7, Tryz.ntmps7
    go_upto_region 1 with (fail)
    generalize (w.alloc _).alloc _ = w1 at *
    go_wp2_with fail
    with_reducible refine (HAW.out _ HB.out).mono ?_
    rintro e w2 ⟨rfl, hb⟩
    have K2 := Lib.hid hb
    have X2 := Lib.hid (blk HX.out hb)
    have Y2 := Lib.hid (blk HY.out hb)
    have K2' := kept_hid HB hb
    have I2 := Lib.hid (HI.out.below hb)
    clear hb
    obtain ⟨c0, c1, c2, c3, c4, c5⟩ := cells6 X2.out
    go_wp2_with fail
    with_reducible refine (HF.out _ K2.out).mono ?_
    rintro e w3 ⟨rfl, hb⟩
    have K3 := kept_hid K2' hb
    have X3 := Lib.hid (blk X2.out hb)
    have Y3 := Lib.hid (blk Y2.out hb)
    have I3 := Lib.hid (I2.out.below hb)
    clear hb c0 c1 c2 c3 c4 c5 K2 K2' X2 Y2 I2 HB HX HY HI HF
    go_wp2_with fail
    with_reducible refine (HAW.out _ K3.out).mono ?_
    rintro e w4 ⟨rfl, hb⟩
    have KE := kept_hid K3 hb
    clear hb
    go_wp2_with fail
    go_ret
    exact ⟨rfl, KE.out⟩
  | true =>
    rw [hf] at HF
    obtain ⟨q1, q2, q3⟩ := few_parts hf
    have HL := Lib.hid q1
    have HP := Lib.hid q2
    have HR := Lib.hid q3
    have HLT := Lib.hid (show s.cs.length < 10000 from by have := HL.out; omega)
    clear q1 q2 q3 hf
    go_enter Tryz.func7, Tryz.ntmps7
    go_upto_region 1 with (fail)
    generalize (w.alloc _).alloc _ = w1 at *
    go_wp2_with fail
    with_reducible refine (HAW.out _ HB.out).mono ?_
    rintro e w2 ⟨rfl, hb⟩
    have K2 := Lib.hid hb
    have X2 := Lib.hid (blk HX.out hb)
    have Y2 := Lib.hid (blk HY.out hb)
    have K2' := kept_hid HB hb
    have I2 := Lib.hid (HI.out.below hb)
    clear hb
    obtain ⟨c0, c1, c2, c3, c4, c5⟩ := cells6 X2.out
    go_wp2_with fail
    with_reducible refine (HF.out _ K2.out).mono ?_
    rintro e w3 ⟨rfl, hb⟩
    have K3 := kept_hid K2' hb
    have X3 := Lib.hid (blk X2.out hb)
    have Y3 := Lib.hid (blk Y2.out hb)
    have I3 := Lib.hid (I2.out.below hb)
    clear hb c0 c1 c2 c3 c4 c5 K2 K2' X2 Y2 I2 HB HX HY HI HF
    clear HAW
    have HRC := Lib.hid (rcopy_any s ad k w3 I3.out (by have := HL.out; omega))
    simp only [Copied] at HRC
    obtain ⟨c0, c1, c2, c3, c4, c5⟩ := cells6 X3.out
    go_wp2_with fail
    with_reducible refine HRC.out.mono ?_
    rintro e w5 ⟨va1, vc1, rfl, ho1, hb⟩
    clear HRC c0 c1 c2 c3 c4 c5
    have HA := al_any w5 (.cells #[.int .i64 s.rows, .int .i64 s.cols, .slice va1 s.cs.length vc1, .int .i64 s.cur, .bool s.lk, .bool s.ins] 24)
    have L6 := Lib.hid (heap_alloc_new w5 (.cells #[.int .i64 s.rows, .int .i64 s.cols, .slice va1 s.cs.length vc1, .int .i64 s.cur, .bool s.lk, .bool s.ins] 24))
    have X6 := Lib.hid (blk X3.out (kept_trans hb HA))
    have Y6 := Lib.hid (blk Y3.out (kept_trans hb HA))
    have I6 := Lib.hid (I3.out.below (kept_trans hb HA))
    have K6 := kept_hid K3 (kept_trans hb HA)
    have J6 := Lib.hid ((OwnCels.below ho1 HA).to)
    clear HA ho1 hb X3 Y3 I3 K3
    go_upto_region 4 with (fail)
    generalize w5.heap.size = B1 at *
    generalize w5.alloc _ = w6 at *
    have HDL := Lib.hid (kdo_length s kind c)
    have Q1 := Lib.hid (do_any s ad k c kind w6 I6.out HR.out H8.out HLT.out HBc.out)
    simp only [GaveK] at Q1
    generalize (kdo s kind c).2.2.2 = wh at *
    generalize (kdo s kind c).2.2.1 = code at *
    generalize (kdo s kind c).2.1 = asks at *
    generalize (kdo s kind c).1 = t at *
    rw [HDL.out.1] at Q1
    obtain ⟨c0, c1, c2, c3, c4, c5⟩ := cells6 X6.out
    obtain ⟨y0, y1⟩ := cells2 Y6.out
    go_wp2_with fail
    with_reducible refine Q1.out.mono ?_
    rintro e w7 ⟨va, vc, ev, rfl, hc, ht, hn, hb⟩
    clear c0 c1 c2 c3 c4 c5 y0 y1 Q1
    have HA := al_any w7 (.cells #[.int .i64 t.rows, .int .i64 t.cols, .slice va s.cs.length vc, .int .i64 t.cur, .bool t.lk, .bool t.ins] 24)
    have KW := Lib.hid (kept_trans hb HA)
    by_cases h0 : code = 0
    · obtain ⟨rfl, hown⟩ := hn (by omega)
      obtain ⟨g, vd, e1, hg1, hg2, _⟩ := OwnCels.at hown (by rw [HDL.out.1]; exact HP.out)
      injection e1 with e1 e2 e3
      subst e1
      subst e3
      clear e2
      have T8 := Lib.hid (heap_alloc_new w7 (.cells #[.int .i64 t.rows, .int .i64 t.cols, .slice (some ⟨g, 0, none⟩) s.cs.length vc, .int .i64 t.cur, .bool t.lk, .bool t.ins] 24))
      have O8 := Lib.hid (OwnCels.below hown HA)
      have HSEP := Lib.hid (show w6.heap.size ≤ g ∧ g < w7.heap.size ∧ w6.heap.size ≤ w7.heap.size from ⟨hg1, hg2, hb.size⟩)
      have HDT := Lib.hid HDL.out.1
      clear HA hb hc hn hown hg1 hg2 h0 ht
      go_upto_region 5 with (fail)
      generalize w7.heap.size = B2 at *
      generalize w7.alloc _ = w8 at *
      go_wp2_with fail
      go_loopg [9] (s.cs.length + 1) (fun mm ii wr => ∃ q : Nat, q ≤ s.cs.length ∧ mm = s.cs.length + 1 - q ∧ ii = .int .i64 q ∧ Hid (Below w6.heap.size w6 wr) ∧ Hid (wr.heap[B2]? = some (.cells #[.int .i64 t.rows, .int .i64 t.cols, .slice (some ⟨g, 0, none⟩) s.cs.length vc, .int .i64 t.cur, .bool t.lk, .bool t.ins] 24 (0, 0))) ∧ ∃ ds : List C, ds.length = s.cs.length ∧ Hid (OwnCels wr w6.heap.size (.slice (some ⟨g, 0, none⟩) s.cs.length vc) ds))
      case atStart => exact ⟨0, Nat.zero_le _, rfl, rfl, KW, T8, t.cs, HDT.out, O8⟩
      case round =>
        obtain ⟨q, hq, rfl, rfl, KWr, TB, ds, hds, OD⟩ := hrel
        clear KW T8 O8
        have ew : IntKind.i64.wrap ((q : Int) + 1) = (q : Int) + 1 := by
          have := HL.out
          rw [IntWalk.i64_in] <;> omega
        obtain ⟨c0, c1, c2, c3, c4, c5⟩ := cells6 TB.out
        by_cases hlt : q < s.cs.length
        · have HLDds := Lib.hid (show q < ds.length from by omega)
          have hi0 : (0 : Int) ≤ (q : Int) := by omega
          have hi1 : (q : Int) < (s.cs.length : Int) := by omega
          obtain ⟨yf, yp, yn, ys, ym, yc, ey⟩ := c_eta (ds.getD q noC)
          obtain ⟨⟨p0, p1, p2, p3, p4, p5⟩, fz⟩ := OwnCels.spot OD.out HLDds.out ey
          obtain ⟨q0, q1, q2, q3, q4, q5⟩ : wr.frozen? ⟨g, q * 6, none⟩ = false ∧ wr.frozen? ⟨g, q * 6 + 1, none⟩ = false ∧ wr.frozen? ⟨g, q * 6 + 2, none⟩ = false ∧ wr.frozen? ⟨g, q * 6 + 3, none⟩ = false ∧ wr.frozen? ⟨g, q * 6 + 4, none⟩ = false ∧ wr.frozen? ⟨g, q * 6 + 5, none⟩ = false := ⟨fz _, fz _, fz _, fz _, fz _, fz _⟩
          have SO := OwnCels.set OD.out HLDds.out ⟨false, false, false, 0, false, 7⟩
          simp only [show ((7 : Nat) : Int) = 7 from rfl] at SO
          have ODn := Lib.hid SO.1
          have TBn := Lib.hid (blk_g TB.out SO.2 (by intro e; injection e with e; have := HSEP.out; omega))
          have KWn := Lib.hid (below_grown KWr.out SO.2 (by have := HSEP.out; omega))
          clear SO fz ey OD TB KWr
          go_upto_region 8 with (fail)
          clear c0 c1 c2 c3 c4 c5 p0 p1 p2 p3 p4 p5 q0 q1 q2 q3 q4 q5
          generalize (((((wr.setCell _ _).setCell _ _).setCell _ _).setCell _ _).setCell _ _).setCell _ _ = wt at *
          go_wp2_with fail
          go_roundg (s.cs.length + 1 - (q + 1))
          case measure => omega
          case rel => exact ⟨q + 1, by omega, rfl, by first | rfl | go_num, KWn, TBn, _, by rw [List.length_set]; exact hds, ODn⟩
        · obtain rfl : q = s.cs.length := by omega
          have hn0 : ¬ (s.cs.length : Int) < (s.cs.length : Int) := by omega
          clear hlt
          have HSM := Lib.hid (rsame_any s.rows s.cols s.cur s.lk s.ins ad s.cs.length k va1 s.cs.length vc1 s.cs s.cs wr (I6.out.below KWr.out) (J6.out.below KWr.out) (by have := HL.out; omega))
          rw [decide_eq_true rfl] at HSM
          obtain ⟨d0, d1, d2, d3, d4, d5⟩ := cells6 (blk X6.out KWr.out)
          obtain ⟨e0, e1, e2, e3, e4, e5⟩ := cells6 (blk L6.out KWr.out)
          have K9 := kept_hid K6 KWr.out
          go_wp2_with fail
          with_reducible refine HSM.out.mono ?_
          rintro e wb ⟨rfl, hb⟩
          have K10 := kept_hid K9 hb
          clear hb
          go_wp2_with fail
          go_ret
          exact ⟨rfl, K10.out⟩
    · obtain ⟨et, evv, hev⟩ := told_iface ht (by omega)
      subst hev
      clear hn hc hb h0 HA ht
      go_upto_region 5 with (fail)
      generalize w7.alloc _ = w8 at *
      have HSM := Lib.hid (rsame_any s.rows s.cols s.cur s.lk s.ins ad s.cs.length k va1 s.cs.length vc1 s.cs s.cs w8 (I6.out.below KW.out) (J6.out.below KW.out) (by have := HL.out; omega))
      rw [decide_eq_true rfl] at HSM
      obtain ⟨d0, d1, d2, d3, d4, d5⟩ := cells6 (blk X6.out KW.out)
      obtain ⟨e0, e1, e2, e3, e4, e5⟩ := cells6 (blk L6.out KW.out)
      have K9 := kept_hid K6 KW.out
      go_wp2_with fail
      with_reducible refine HSM.out.mono ?_
      rintro e wb ⟨rfl, hb⟩
      have K10 := kept_hid K9 hb
      clear hb
      go_wp2_with fail
      go_ret
      exact ⟨rfl, K10.out⟩
end Kyb
end Go.Proofs.YtpgbnnnfeaodmaaGreatDoor
