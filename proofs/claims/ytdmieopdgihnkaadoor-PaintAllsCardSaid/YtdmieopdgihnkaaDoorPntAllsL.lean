/- The law PaintAlls. Written by tools/gen_pnt_laws.py. -/
import Derived.Test.YtdmieopdgihnkaaDoorBunRop
import Derived.Test.YtdmieopdgihnkaaDoorPntFewL
import Derived.StillTailTactics
import Derived.Test.YtdmieopdgihnkaaDoorPntAwake
import Derived.Test.YtdmieopdgihnkaaDoorBunGrd
import Derived.Test.YtdmieopdgihnkaaDoorBunGrd
import Derived.Test.YtdmieopdgihnkaaDoorOpnScr
import Derived.Test.YtdmieopdgihnkaaDoorBunPnt
namespace Go.Proofs.YtdmieopdgihnkaaDoor
open Go.RowKit Sha Six Apd Cut Err Att Grd Fld
set_option linter.unusedVariables false
namespace Pnt
set_option maxRecDepth 100000 in
set_option maxHeartbeats 8000000 in
theorem alls_any (s : S) (ad : Option Addr) (k : Nat) (a : Int) (al : Option Addr) (nl cl : Nat) (os : List Go.Proofs.YtdmieopdgihnkaaDoor.Ord.O) (w : World) (h : CelsIn w (.slice ad s.cs.length k) s.cs) (hwf : Opn.Wf s.cs) (hm : s.cs.length ≤ maxLen) (wa : (Lit.int .u16 a).wf = true) (hO : Str.OrdsIn w 0 (.slice al nl cl) os) (hos : ∀ o ∈ os, (∀ x ∈ o.t, x < 256) ∧ o.c < 256) (hom : os.length ≤ maxLen) (hg : Handle w) :
    Calls Tryd.prog 4 #[.agg #[.int .i64 s.rows, .int .i64 s.cols, .slice ad s.cs.length k, .int .i64 s.cur, .bool s.lk, .bool s.ins], .int .u16 a, .slice al nl cl] w fun e w' => e = .returned (.bool true) ∧ Below w.heap.size w w' := by
  obtain ⟨b0, b1⟩ := Go.Proofs.YtdmieopdgihnkaaDoor.Ord.wf_u16 wa
  obtain ⟨a, rfl⟩ := Int.eq_ofNat_of_zero_le b0
  have HA16 := Lib.hid b1
  have HAW := Lib.hid fun W (hb : Below w.heap.size w W) => awake_any W (hand_of hg hb)
  have HCO := Lib.hid fun W ev (c n : Int) (hb : Below w.heap.size w W) (ht : Err.Told W ev c n) => code_told ev c n W (hand_of hg hb) ht
  have HWH := Lib.hid fun W ev (c n : Int) (hb : Below w.heap.size w W) (ht : Err.Told W ev c n) => where_told ev c n W (hand_of hg hb) ht
  obtain rfl := hO.len
  have HB := Lib.hid (al_any w (.cells #[.int .i64 s.rows, .int .i64 s.cols, .slice ad s.cs.length k, .int .i64 s.cur, .bool s.lk, .bool s.ins] 24))
  have HX := Lib.hid (heap_alloc_new w (.cells #[.int .i64 s.rows, .int .i64 s.cols, .slice ad s.cs.length k, .int .i64 s.cur, .bool s.lk, .bool s.ins] 24))
  have HI := Lib.hid (h.below HB.out)
  have HF := Lib.hid fun W hb => rfew_any s ad k W (HI.out.below hb) (wf_sound hwf)
  have H8 := Lib.hid (wf_sound hwf)
  have HO := Lib.hid hO
  have HFL := Lib.hid fun W hb => pfew_any al os.length cl os W (hO.below hb) hom
  have HOS := Lib.hid hos
  clear h hwf hm wa hO hos hom b0 b1 hg
  cases hf : few s with
  | false =>
    rw [hf] at HF
    go_enter Tryd.func4, Tryd.ntmps4
    go_upto_region 1 with (fail)
    generalize w.alloc _ = w1 at *
    go_wp2_with fail
    with_reducible refine (HAW.out _ HB.out).mono ?_
    rintro e w2 ⟨rfl, hb⟩
    have K2 := Lib.hid hb
    have X2 := Lib.hid (blk HX.out hb)
    have K2' := kept_hid HB hb
    clear hb
    obtain ⟨c0, c1, c2, c3, c4, c5⟩ := cells6 X2.out
    go_wp2_with fail
    with_reducible refine (HF.out _ K2.out).mono ?_
    rintro e w3 ⟨rfl, hb⟩
    have K3 := kept_hid K2' hb
    clear hb c0 c1 c2 c3 c4 c5
    go_wp2_with fail
    with_reducible refine (HAW.out _ K3.out).mono ?_
    rintro e w4 ⟨rfl, hb⟩
    have KE := kept_hid K3 hb
    clear hb
    go_wp2_with fail
    go_ret
    exact ⟨rfl, KE.out⟩
  | true =>
    rw [hf] at HF
    cases hfl : Str.fewB os with
    | false =>
      rw [hfl] at HFL
      go_enter Tryd.func4, Tryd.ntmps4
      go_upto_region 1 with (fail)
      generalize w.alloc _ = w1 at *
      go_wp2_with fail
      with_reducible refine (HAW.out _ HB.out).mono ?_
      rintro e w2 ⟨rfl, hb⟩
      have K2 := Lib.hid hb
      have X2 := Lib.hid (blk HX.out hb)
      have K2' := kept_hid HB hb
      have I2 := Lib.hid (HI.out.below hb)
      clear hb
      obtain ⟨c0, c1, c2, c3, c4, c5⟩ := cells6 X2.out
      go_wp2_with fail
      with_reducible refine (HF.out _ K2.out).mono ?_
      rintro e w3 ⟨rfl, hb⟩
      have K3' := kept_hid K2' hb
      have X3' := Lib.hid (blk X2.out hb)
      have I3' := Lib.hid (I2.out.below hb)
      clear hb c0 c1 c2 c3 c4 c5 K2 K2' X2 I2 HB HX HI HF
      go_wp2_with fail
      with_reducible refine (HFL.out _ K3'.out).mono ?_
      rintro e w4 ⟨rfl, hb⟩
      have K3 := kept_hid K3' hb
      have X3 := Lib.hid (blk X3'.out hb)
      have I3 := Lib.hid (I3'.out.below hb)
      clear hb K3' X3' I3' HFL
      go_wp2_with fail
      with_reducible refine (HAW.out _ K3.out).mono ?_
      rintro e w5 ⟨rfl, hb⟩
      have KE := kept_hid K3 hb
      clear hb
      go_wp2_with fail
      go_ret
      exact ⟨rfl, KE.out⟩
    | true =>
      rw [hfl] at HFL
      obtain ⟨hol, hsd⟩ := few_sound hfl HOS.out
      have HOL := Lib.hid hol
      have HSD := Lib.hid hsd
      clear hol hsd hfl
      obtain ⟨q1, q2, q3⟩ := few_parts hf
      have HL := Lib.hid q1
      have HP := Lib.hid q2
      have HR := Lib.hid q3
      have HXX := Lib.hid (show ((a : Int) % (s.cs.length : Int)) = ((a % s.cs.length : Nat) : Int) by omega)
      have HXL := Lib.hid (Nat.mod_lt a q2)
      generalize a % s.cs.length = x at *
      clear q1 q2 q3
      clear hf
      cases hpw : pwrong s.cs.length os with
      | none =>
        have HWN := Lib.hid (pwrong_none hpw)
        have HPW := Lib.hid hpw
        clear hpw
        go_enter Tryd.func4, Tryd.ntmps4
        go_upto_region 1 with (fail)
        generalize w.alloc _ = w1 at *
        go_wp2_with fail
        with_reducible refine (HAW.out _ HB.out).mono ?_
        rintro e w2 ⟨rfl, hb⟩
        have K2 := Lib.hid hb
        have X2 := Lib.hid (blk HX.out hb)
        have K2' := kept_hid HB hb
        have I2 := Lib.hid (HI.out.below hb)
        clear hb
        obtain ⟨c0, c1, c2, c3, c4, c5⟩ := cells6 X2.out
        go_wp2_with fail
        with_reducible refine (HF.out _ K2.out).mono ?_
        rintro e w3 ⟨rfl, hb⟩
        have K3' := kept_hid K2' hb
        have X3' := Lib.hid (blk X2.out hb)
        have I3' := Lib.hid (I2.out.below hb)
        clear hb c0 c1 c2 c3 c4 c5 K2 K2' X2 I2 HB HX HI HF
        go_wp2_with fail
        with_reducible refine (HFL.out _ K3'.out).mono ?_
        rintro e w4 ⟨rfl, hb⟩
        have K3 := kept_hid K3' hb
        have X3 := Lib.hid (blk X3'.out hb)
        have I3 := Lib.hid (I3'.out.below hb)
        clear hb K3' X3' I3' HFL
        obtain ⟨c0, c1, c2, c3, c4, c5⟩ := cells6 X3.out
        have HALL := Lib.hid (all_ok s ad k x al os.length cl os w4 I3.out HR.out H8.out (by have := HL.out; omega) HXL.out (HO.out.below K3.out) HSD.out (by have := HOL.out; omega) HPW.out)
        go_upto_region 3 with (fail)
        have hne : ¬ ((s.cs.length : Int) = 0) := by have := HP.out; omega
        have b1 := HA16.out
        have b0 : (0 : Int) ≤ (a : Int) := by omega
        go_upto_region 4 with (fail)
        rw [HXX.out]
        clear b0 b1 hne
        go_wp2_with fail
        with_reducible refine HALL.out.mono ?_
        rintro e w5 ⟨va, vc, rfl, ho, hb⟩
        clear HALL c0 c1 c2 c3 c4 c5
        have HPR := Lib.hid (pall_rest os (s, x))
        have HRA := Lib.hid fun W hi hb => rall_any s ad k x al os.length cl os W hi (by have := HL.out; omega) HXL.out (HO.out.below hb) HSD.out (by have := HOL.out; omega) HWN.out
        generalize pall (s, x) os = st at *
        obtain ⟨st, pl⟩ := st
        simp only at ho HPR
        simp only [Shown] at HRA
        have HA := al_any w5 (.cells #[.int .i64 st.rows, .int .i64 st.cols, .slice va st.cs.length vc, .int .i64 st.cur, .bool st.lk, .bool st.ins] 24)
        have T6 := Lib.hid (heap_alloc_new w5 (.cells #[.int .i64 st.rows, .int .i64 st.cols, .slice va st.cs.length vc, .int .i64 st.cur, .bool st.lk, .bool st.ins] 24))
        have X6 := Lib.hid (blk X3.out (kept_trans hb HA))
        have I6 := Lib.hid (I3.out.below (kept_trans hb HA))
        have K6 := kept_hid K3 (kept_trans hb HA)
        have O6 := Lib.hid ((OwnCels.below ho HA).to)
        clear HA ho hb X3 I3 K3
        go_upto_region 5 with (fail)
        generalize w5.heap.size = B at *
        generalize w5.alloc _ = w6 at *
        go_wp2_with fail
        go_loopg [11] (os.length + 1) (fun mm ii wr => ∃ q : Nat, q ≤ os.length ∧ mm = os.length + 1 - q ∧ ii = .int .i64 q ∧ Hid (wr.heap[B]? = some (.cells #[.int .i64 st.rows, .int .i64 st.cols, .slice va st.cs.length vc, .int .i64 st.cur, .bool st.lk, .bool st.ins] 24 (0, 0))) ∧ Hid (wr.heap[w.heap.size]? = some (.cells #[.int .i64 s.rows, .int .i64 s.cols, .slice ad s.cs.length k, .int .i64 s.cur, .bool s.lk, .bool s.ins] 24 (0, 0))) ∧ Hid (CelsIn wr (.slice ad s.cs.length k) s.cs) ∧ Hid (CelsIn wr (.slice va st.cs.length vc) st.cs) ∧ Hid (Below w.heap.size w wr))
        case atStart => exact ⟨0, Nat.zero_le _, rfl, rfl, T6, X6, I6, O6, K6⟩
        case round =>
          obtain ⟨q, hq, rfl, rfl, T7, X7, I7, O7, K7⟩ := hrel
          clear T6 X6 I6 O6 K6
          have ew : IntKind.i64.wrap ((q : Int) + 1) = (q : Int) + 1 := by
            have := HOL.out
            rw [IntWalk.i64_in] <;> omega
          obtain ⟨c0, c1, c2, c3, c4, c5⟩ := cells6 X7.out
          by_cases hqo : q < os.length
          · have hwq : Go.Proofs.YtdmieopdgihnkaaDoor.Ord.wrong (os.getD q Go.Proofs.YtdmieopdgihnkaaDoor.Ord.none_) s.cs.length = 0 := by
              rw [List.getD_eq_getElem?_getD, List.getElem?_eq_getElem hqo]; exact HWN.out _ (List.getElem_mem hqo)
            obtain ⟨kk, tt, op, on_, oq, om, oa, oc, eo⟩ := Str.o_eta (os.getD q Go.Proofs.YtdmieopdgihnkaaDoor.Ord.none_)
            obtain ⟨h8t, htl, hc8⟩ := Str.sound_at HSD.out q
            obtain ⟨bo, oo, ta, tn, tc, hal, o0, o1, o2, o3, o4, o5, o6, o7, hBt, _⟩ := (HO.out.below K7.out).cells hqo eo
            subst hal
            rw [eo] at h8t htl hc8 hwq
            simp only at h8t htl hc8
            have HWR := Lib.hid (Go.Proofs.YtdmieopdgihnkaaDoor.Ord.rwrong_any ⟨kk, tt, op, on_, oq, om, oa, oc⟩ ta tn tc s.cs.length wr.drew (bytes_below hBt (Below.refl _ _).drew) h8t htl hc8)
            simp only at HWR
            obtain rfl := blen hBt
            clear h8t htl hc8 eo hBt
            have hi0 : (0 : Int) ≤ (q : Int) := by omega
            have hi1 : (q : Int) < (os.length : Int) := by omega
            go_upto_region 8 with (fail)
            go_still_tail 7, (by kernel_rfl)
            change wpList _ _ _ _ _ wr.drew
            go_wp2_with fail
            rw [hwq] at HWR
            with_reducible refine HWR.out.mono ?_
            rintro e w8 ⟨rfl, hb⟩
            replace hb := kept_trans ((Below.refl wr.heap.size wr).drew) hb
            have T8 := Lib.hid (blk T7.out hb)
            have X8 := Lib.hid (blk X7.out hb)
            have I8 := Lib.hid (I7.out.below hb)
            have O8 := Lib.hid (O7.out.below hb)
            have K8 := kept_hid K7 hb
            skip
            clear hb HWR T7 X7 I7 O7 K7 o0 o1 o2 o3 o4 o5 o6 o7 hi0 hi1 c0 c1 c2 c3 c4 c5
            clear hwq
            go_wp2_with fail
            go_roundg (os.length + 1 - (q + 1))
            case measure => omega
            case rel => exact ⟨q + 1, by omega, rfl, by first | rfl | go_num, T8, X8, I8, O8, K8⟩
          · obtain rfl : q = os.length := by omega
            have hn0 : ¬ (os.length : Int) < (os.length : Int) := by omega
            clear hqo
            go_wp2_with fail
            with_reducible refine (HRA.out _ I7.out K7.out).mono ?_
            rintro e w9 ⟨va2, vc2, rfl, ho, hb⟩
            clear c0 c1 c2 c3 c4 c5
            have HA := al_any w9 (.cells #[.int .i64 st.rows, .int .i64 st.cols, .slice va2 st.cs.length vc2, .int .i64 st.cur, .bool st.lk, .bool st.ins] 24)
            have U8 := Lib.hid (heap_alloc_new w9 (.cells #[.int .i64 st.rows, .int .i64 st.cols, .slice va2 st.cs.length vc2, .int .i64 st.cur, .bool st.lk, .bool st.ins] 24))
            have T8 := Lib.hid (blk T7.out (kept_trans hb HA))
            have K8 := kept_hid K7 (kept_trans hb HA)
            have O8 := Lib.hid (O7.out.below (kept_trans hb HA))
            have P8 := Lib.hid (ho.below HA)
            clear HA ho hb T7 X7 I7 K7 O7 HRA
            go_upto_region 12 with (fail)
            generalize w9.heap.size = B2 at *
            generalize w9.alloc _ = wa at *
            have HSM := Lib.hid (rsame_any st.rows st.cols st.cur st.lk st.ins va st.cs.length vc va2 st.cs.length vc2 st.cs st.cs wa O8.out P8.out (by have := HPR.out.2.2.1; have := HL.out; omega))
            rw [decide_eq_true rfl] at HSM
            obtain ⟨c0, c1, c2, c3, c4, c5⟩ := cells6 T8.out
            obtain ⟨d0, d1, d2, d3, d4, d5⟩ := cells6 U8.out
            go_wp2_with fail
            with_reducible refine HSM.out.mono ?_
            rintro e wb ⟨rfl, hb⟩
            have K9 := kept_hid K8 hb
            clear hb
            go_wp2_with fail
            go_ret
            exact ⟨rfl, K9.out⟩
      | some i =>
        obtain ⟨hil, hiw, hib⟩ := pwrong_some hpw
        have HIW := Lib.hid hiw
        have HIB := Lib.hid hib
        have HPW := Lib.hid hpw
        clear hpw hiw hib
        go_enter Tryd.func4, Tryd.ntmps4
        go_upto_region 1 with (fail)
        generalize w.alloc _ = w1 at *
        go_wp2_with fail
        with_reducible refine (HAW.out _ HB.out).mono ?_
        rintro e w2 ⟨rfl, hb⟩
        have K2 := Lib.hid hb
        have X2 := Lib.hid (blk HX.out hb)
        have K2' := kept_hid HB hb
        have I2 := Lib.hid (HI.out.below hb)
        clear hb
        obtain ⟨c0, c1, c2, c3, c4, c5⟩ := cells6 X2.out
        go_wp2_with fail
        with_reducible refine (HF.out _ K2.out).mono ?_
        rintro e w3 ⟨rfl, hb⟩
        have K3' := kept_hid K2' hb
        have X3' := Lib.hid (blk X2.out hb)
        have I3' := Lib.hid (I2.out.below hb)
        clear hb c0 c1 c2 c3 c4 c5 K2 K2' X2 I2 HB HX HI HF
        go_wp2_with fail
        with_reducible refine (HFL.out _ K3'.out).mono ?_
        rintro e w4 ⟨rfl, hb⟩
        have K3 := kept_hid K3' hb
        have X3 := Lib.hid (blk X3'.out hb)
        have I3 := Lib.hid (I3'.out.below hb)
        clear hb K3' X3' I3' HFL
        obtain ⟨c0, c1, c2, c3, c4, c5⟩ := cells6 X3.out
        have HALL := Lib.hid (all_no s ad k x al os.length cl os i w4 I3.out HR.out H8.out (by have := HL.out; omega) HXL.out (HO.out.below K3.out) HSD.out (by have := HOL.out; omega) HPW.out)
        go_upto_region 3 with (fail)
        have hne : ¬ ((s.cs.length : Int) = 0) := by have := HP.out; omega
        have b1 := HA16.out
        have b0 : (0 : Int) ≤ (a : Int) := by omega
        go_upto_region 4 with (fail)
        rw [HXX.out]
        clear b0 b1 hne
        go_wp2_with fail
        with_reducible refine HALL.out.mono ?_
        rintro e w5 ⟨va, vc, ev, rfl, ho, htd, hb⟩
        clear HALL c0 c1 c2 c3 c4 c5
        have HA := al_any w5 (.cells #[.int .i64 s.rows, .int .i64 s.cols, .slice va s.cs.length vc, .int .i64 s.cur, .bool s.lk, .bool s.ins] 24)
        have T6 := Lib.hid (heap_alloc_new w5 (.cells #[.int .i64 s.rows, .int .i64 s.cols, .slice va s.cs.length vc, .int .i64 s.cur, .bool s.lk, .bool s.ins] 24))
        have X6 := Lib.hid (blk X3.out (kept_trans hb HA))
        have I6 := Lib.hid (I3.out.below (kept_trans hb HA))
        have K6 := kept_hid K3 (kept_trans hb HA)
        have O6 := Lib.hid (ho.below HA)
        have E6 := Lib.hid (Err.Told.below htd HA)
        clear HA ho hb X3 I3 K3 htd
        go_upto_region 5 with (fail)
        generalize w5.heap.size = B at *
        generalize w5.alloc _ = w6 at *
        go_wp2_with fail
        go_loopg [11] (i + 1) (fun mm ii wr => ∃ q : Nat, q ≤ i ∧ mm = i + 1 - q ∧ ii = .int .i64 q ∧ Hid (wr.heap[B]? = some (.cells #[.int .i64 s.rows, .int .i64 s.cols, .slice va s.cs.length vc, .int .i64 s.cur, .bool s.lk, .bool s.ins] 24 (0, 0))) ∧ Hid (wr.heap[w.heap.size]? = some (.cells #[.int .i64 s.rows, .int .i64 s.cols, .slice ad s.cs.length k, .int .i64 s.cur, .bool s.lk, .bool s.ins] 24 (0, 0))) ∧ Hid (CelsIn wr (.slice ad s.cs.length k) s.cs) ∧ Hid (CelsIn wr (.slice va s.cs.length vc) s.cs) ∧ Hid (Below w.heap.size w wr) ∧ Hid (Err.Told wr ev ((Go.Proofs.YtdmieopdgihnkaaDoor.Ord.wrong (os.getD i Go.Proofs.YtdmieopdgihnkaaDoor.Ord.none_) s.cs.length : Nat) : Int) (i : Int)))
        case atStart => exact ⟨0, Nat.zero_le _, rfl, rfl, T6, X6, I6, O6, K6, E6⟩
        case round =>
          obtain ⟨q, hq, rfl, rfl, T7, X7, I7, O7, K7, E7⟩ := hrel
          clear T6 X6 I6 O6 K6 E6
          have ew : IntKind.i64.wrap ((q : Int) + 1) = (q : Int) + 1 := by
            have := HOL.out
            rw [IntWalk.i64_in] <;> omega
          obtain ⟨c0, c1, c2, c3, c4, c5⟩ := cells6 X7.out
          have hqo : q < os.length := by omega
          by_cases hqi : q < i
          · have hwq := HIB.out q hqi
            obtain ⟨kk, tt, op, on_, oq, om, oa, oc, eo⟩ := Str.o_eta (os.getD q Go.Proofs.YtdmieopdgihnkaaDoor.Ord.none_)
            obtain ⟨h8t, htl, hc8⟩ := Str.sound_at HSD.out q
            obtain ⟨bo, oo, ta, tn, tc, hal, o0, o1, o2, o3, o4, o5, o6, o7, hBt, _⟩ := (HO.out.below K7.out).cells hqo eo
            subst hal
            rw [eo] at h8t htl hc8 hwq
            simp only at h8t htl hc8
            have HWR := Lib.hid (Go.Proofs.YtdmieopdgihnkaaDoor.Ord.rwrong_any ⟨kk, tt, op, on_, oq, om, oa, oc⟩ ta tn tc s.cs.length wr.drew (bytes_below hBt (Below.refl _ _).drew) h8t htl hc8)
            simp only at HWR
            obtain rfl := blen hBt
            clear h8t htl hc8 eo hBt
            have hi0 : (0 : Int) ≤ (q : Int) := by omega
            have hi1 : (q : Int) < (os.length : Int) := by omega
            go_upto_region 8 with (fail)
            go_still_tail 7, (by kernel_rfl)
            change wpList _ _ _ _ _ wr.drew
            go_wp2_with fail
            rw [hwq] at HWR
            with_reducible refine HWR.out.mono ?_
            rintro e w8 ⟨rfl, hb⟩
            replace hb := kept_trans ((Below.refl wr.heap.size wr).drew) hb
            have T8 := Lib.hid (blk T7.out hb)
            have X8 := Lib.hid (blk X7.out hb)
            have I8 := Lib.hid (I7.out.below hb)
            have O8 := Lib.hid (O7.out.below hb)
            have K8 := kept_hid K7 hb
            have E8 := Lib.hid (Err.Told.below E7.out hb)
            clear hb HWR T7 X7 I7 O7 K7 E7 o0 o1 o2 o3 o4 o5 o6 o7 hi0 hi1 c0 c1 c2 c3 c4 c5
            clear hwq
            go_wp2_with fail
            go_roundg (i + 1 - (q + 1))
            case measure => omega
            case rel => exact ⟨q + 1, by omega, rfl, by first | rfl | go_num, T8, X8, I8, O8, K8, E8⟩
          · obtain rfl : q = i := by omega
            have hwq := HIW.out
            have hE := E7.out
            obtain ⟨kk, tt, op, on_, oq, om, oa, oc, eo⟩ := Str.o_eta (os.getD q Go.Proofs.YtdmieopdgihnkaaDoor.Ord.none_)
            obtain ⟨h8t, htl, hc8⟩ := Str.sound_at HSD.out q
            obtain ⟨bo, oo, ta, tn, tc, hal, o0, o1, o2, o3, o4, o5, o6, o7, hBt, _⟩ := (HO.out.below K7.out).cells hqo eo
            subst hal
            rw [eo] at h8t htl hc8 hwq hE
            simp only at h8t htl hc8
            have HWR := Lib.hid (Go.Proofs.YtdmieopdgihnkaaDoor.Ord.rwrong_any ⟨kk, tt, op, on_, oq, om, oa, oc⟩ ta tn tc s.cs.length wr.drew (bytes_below hBt (Below.refl _ _).drew) h8t htl hc8)
            simp only at HWR
            obtain rfl := blen hBt
            clear h8t htl hc8 eo hBt
            have hi0 : (0 : Int) ≤ (q : Int) := by omega
            have hi1 : (q : Int) < (os.length : Int) := by omega
            go_upto_region 8 with (fail)
            go_still_tail 7, (by kernel_rfl)
            change wpList _ _ _ _ _ wr.drew
            go_wp2_with fail
            clear E7
            have E7 := Lib.hid hE
            clear hE
            generalize Go.Proofs.YtdmieopdgihnkaaDoor.Ord.wrong ⟨kk, tt, op, on_, oq, om, oa, oc⟩ s.cs.length = code at *
            have hcn : ((code : Int) != 0) = true := by simp; exact hwq
            have hcn1 : ((code : Int) == 0) = false := by simp; exact hwq
            clear hwq
            with_reducible refine HWR.out.mono ?_
            rintro e w8 ⟨rfl, hb⟩
            replace hb := kept_trans ((Below.refl wr.heap.size wr).drew) hb
            have T8 := Lib.hid (blk T7.out hb)
            have X8 := Lib.hid (blk X7.out hb)
            have I8 := Lib.hid (I7.out.below hb)
            have O8 := Lib.hid (O7.out.below hb)
            have K8 := kept_hid K7 hb
            have E8 := Lib.hid (Err.Told.below E7.out hb)
            clear hb HWR T7 X7 I7 O7 K7 E7 o0 o1 o2 o3 o4 o5 o6 o7 hi0 hi1 c0 c1 c2 c3 c4 c5
            go_wp2_with fail
            with_reducible refine (HCO.out _ _ _ _ K8.out E8.out).mono ?_
            rintro e w9 ⟨rfl, hb⟩
            have T9 := Lib.hid (blk T8.out hb)
            have X9 := Lib.hid (blk X8.out hb)
            have I9 := Lib.hid (I8.out.below hb)
            have O9 := Lib.hid (O8.out.below hb)
            have K9 := kept_hid K8 hb
            have E9 := Lib.hid (Err.Told.below E8.out hb)
            clear hb T8 X8 I8 O8 K8 E8
            go_wp2_with fail
            with_reducible refine (HWH.out _ _ _ _ K9.out E9.out).mono ?_
            rintro e wa ⟨rfl, hb⟩
            have T10 := Lib.hid (blk T9.out hb)
            have X10 := Lib.hid (blk X9.out hb)
            have I10 := Lib.hid (I9.out.below hb)
            have O10 := Lib.hid (O9.out.below hb)
            have K10 := kept_hid K9 hb
            clear hb T9 X9 I9 O9 K9 E9
            have HSM := Lib.hid (rsame_any s.rows s.cols s.cur s.lk s.ins va s.cs.length vc ad s.cs.length k s.cs s.cs wa O10.out I10.out (by have := HL.out; omega))
            rw [decide_eq_true rfl] at HSM
            obtain ⟨c0, c1, c2, c3, c4, c5⟩ := cells6 X10.out
            obtain ⟨d0, d1, d2, d3, d4, d5⟩ := cells6 T10.out
            go_wp2_with fail
            with_reducible refine HSM.out.mono ?_
            rintro e wb ⟨rfl, hb⟩
            have K11 := kept_hid K10 hb
            clear hb
            go_wp2_with fail
            go_ret
            exact ⟨rfl, K11.out⟩
end Pnt
end Go.Proofs.YtdmieopdgihnkaaDoor
