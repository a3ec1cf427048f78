/- The law ReadKeeps. Written by tools/gen_red_laws.py. -/
import Derived.Test.YtpdlpmbjhopnnaaDoorRedAwake
import Derived.Test.YtpdlpmbjhopnnaaDoorRedLaw
import Derived.Test.YtpdlpmbjhopnnaaDoorRedShape
import Derived.Test.YtpdlpmbjhopnnaaDoorRedRimg
import Derived.Test.YtpdlpmbjhopnnaaDoorStrRsame
import Derived.Test.YtpdlpmbjhopnnaaDoorBunGrd
import Derived.Test.YtpdlpmbjhopnnaaDoorBunGrd
import Derived.Test.YtpdlpmbjhopnnaaDoorBunScr
import Derived.Test.YtpdlpmbjhopnnaaDoorOpnScr
import Derived.StillTailTactics
import Derived.Deep.Cut
import Derived.Deep.RegionHeld3
namespace Go.Proofs.YtpdlpmbjhopnnaaDoor
open Go.RowKit Sha Six Apd Cut Err Att Grd Fld
set_option linter.unusedVariables false
namespace Red
set_option maxRecDepth 100000 in
set_option maxHeartbeats 8000000 in
theorem keeps_law (s : S) (ad : Option Addr) (k : Nat) (w : World) (h : CelsIn w (.slice ad s.cs.length k) s.cs) (hwf : Opn.Wf s.cs) (hm : s.cs.length ≤ maxLen) (hg : Handle w) :
    Calls Tryd.prog 5 #[.agg #[.int .i64 s.rows, .int .i64 s.cols, .slice ad s.cs.length k, .int .i64 s.cur, .bool s.lk, .bool s.ins]] w fun e w' => e = .returned (.bool true) ∧ Below w.heap.size w w' := by
  have HG := Lib.hid fun W (hb : Below w.heap.size w W) => hand_of hg hb
  have HAW := Lib.hid fun W (hb : Below w.heap.size w W) => awake_any W (hand_of hg hb)
  have HB := Lib.hid (al_any w (.cells #[.int .i64 s.rows, .int .i64 s.cols, .slice ad s.cs.length k, .int .i64 s.cur, .bool s.lk, .bool s.ins] 24))
  have HX := Lib.hid (heap_alloc_new w (.cells #[.int .i64 s.rows, .int .i64 s.cols, .slice ad s.cs.length k, .int .i64 s.cur, .bool s.lk, .bool s.ins] 24))
  have HI := Lib.hid (h.below HB.out)
  have HF := Lib.hid fun W hb => rfew_any s ad k W (HI.out.below hb) (wf_sound hwf)
  have H8 := Lib.hid (wf_sound hwf)
  clear h hwf hm hg
  cases hf : few s with
  | false =>
    rw [hf] at HF
    go_enter Tryd.func5, Tryd.ntmps5
    go_upto_region 1 with (fail)
    generalize w.alloc _ = w1 at *
    go_wp2_with fail
    with_reducible refine (HAW.out _ HB.out).mono ?_
    rintro e w2 ⟨rfl, hb⟩
    have K2 := Lib.hid hb
    have X2 := Lib.hid (blk HX.out hb)
    have K2' := kept_hid HB hb
    have I2 := Lib.hid (HI.out.below hb)
    clear hb
    obtain ⟨c0, c1, c2, c3, c4, c5⟩ := cells6 X2.out
    go_wp2_with fail
    with_reducible refine (HF.out _ K2.out).mono ?_
    rintro e w3 ⟨rfl, hb⟩
    have K3 := kept_hid K2' hb
    have X3 := Lib.hid (blk X2.out hb)
    have I3 := Lib.hid (I2.out.below hb)
    clear hb c0 c1 c2 c3 c4 c5 K2 K2' X2 I2 HB HX HI HF
    go_wp2_with fail
    with_reducible refine (HAW.out _ K3.out).mono ?_
    rintro e w4 ⟨rfl, hb⟩
    have KE := kept_hid K3 hb
    clear hb
    go_wp2_with fail
    go_ret
    exact ⟨rfl, KE.out⟩
  | true =>
    rw [hf] at HF
    obtain ⟨q1, q2, q3⟩ := few_parts hf
    have HL := Lib.hid q1
    have HP := Lib.hid q2
    have HR := Lib.hid q3
    have HLT := Lib.hid (show s.cs.length < 10000 from by have := HL.out; omega)
    clear q1 q2 q3 hf
    go_enter Tryd.func5, Tryd.ntmps5
    go_upto_region 1 with (fail)
    generalize w.alloc _ = w1 at *
    go_wp2_with fail
    with_reducible refine (HAW.out _ HB.out).mono ?_
    rintro e w2 ⟨rfl, hb⟩
    have K2 := Lib.hid hb
    have X2 := Lib.hid (blk HX.out hb)
    have K2' := kept_hid HB hb
    have I2 := Lib.hid (HI.out.below hb)
    clear hb
    obtain ⟨c0, c1, c2, c3, c4, c5⟩ := cells6 X2.out
    go_wp2_with fail
    with_reducible refine (HF.out _ K2.out).mono ?_
    rintro e w3 ⟨rfl, hb⟩
    have K3 := kept_hid K2' hb
    have X3 := Lib.hid (blk X2.out hb)
    have I3 := Lib.hid (I2.out.below hb)
    clear hb c0 c1 c2 c3 c4 c5 K2 K2' X2 I2 HB HX HI HF
    clear HAW
    have HRC := Lib.hid (rcopy_any s ad k w3 I3.out (by have := HL.out; omega))
    simp only [Copied] at HRC
    obtain ⟨c0, c1, c2, c3, c4, c5⟩ := cells6 X3.out
    go_wp2_with fail
    with_reducible refine HRC.out.mono ?_
    rintro e w4 ⟨va1, vc1, rfl, ho1, hb⟩
    clear HRC c0 c1 c2 c3 c4 c5
    have HA := al_any w4 (.cells #[.int .i64 s.rows, .int .i64 s.cols, .slice va1 s.cs.length vc1, .int .i64 s.cur, .bool s.lk, .bool s.ins] 24)
    have T5 := Lib.hid (heap_alloc_new w4 (.cells #[.int .i64 s.rows, .int .i64 s.cols, .slice va1 s.cs.length vc1, .int .i64 s.cur, .bool s.lk, .bool s.ins] 24))
    have X5 := Lib.hid (blk X3.out (kept_trans hb HA))
    have I5 := Lib.hid (I3.out.below (kept_trans hb HA))
    have K5 := kept_hid K3 (kept_trans hb HA)
    have J5 := Lib.hid (OwnCels.below ho1 HA).to
    clear HA ho1 hb X3 I3 K3
    go_upto_region 4 with (fail)
    generalize w4.heap.size = N1 at *
    generalize w4.alloc _ = w5 at *
    have Q1 := Lib.hid (image_any s ad k w5 I5.out HP.out HLT.out HR.out)
    simp only [GaveO] at Q1
    have HLN1 := Lib.hid (show (image s).length < 1000000 from by have := image_len s; have := HL.out; omega)
    have HSD := Lib.hid (image_sound H8.out HLT.out)
    obtain ⟨os, hos⟩ : ∃ os, Hid (os = image s) := ⟨_, Lib.hid rfl⟩
    rw [← hos.out] at Q1 HLN1 HSD
    obtain ⟨c0, c1, c2, c3, c4, c5⟩ := cells6 X5.out
    go_wp2_with fail
    with_reducible refine Q1.out.mono ?_
    rintro e w6 ⟨vi, vik, rfl, hi, hb⟩
    obtain ⟨us1, hs1⟩ := shape_ords hi HSD.out
    have S1' := Lib.hid hs1
    have B1 := Lib.hid hb
    clear hi hb hs1 Q1 c0 c1 c2 c3 c4 c5
    obtain ⟨n1, hn1⟩ : ∃ n, n = os.length := ⟨_, rfl⟩
    rw [← hn1] at S1' HLN1 ⊢
    clear hn1
    have S1 := Lib.hid (show Shape w6 w5.heap.size 51 8 (.slice vi n1 vik) n1 us1 from S1'.out)
    clear S1'
    go_wp2_with fail
    go_loopg [5] (n1 + 1) (fun mm ii wr => ∃ q : Nat, q ≤ n1 ∧ mm = n1 + 1 - q ∧ ii = .int .i64 q ∧ Hid (Shape wr w5.heap.size 51 8 (.slice vi n1 vik) n1 us1) ∧ Hid (Below w5.heap.size w5 wr))
    case atStart => exact ⟨0, Nat.zero_le _, rfl, rfl, S1, B1⟩
    case round =>
      obtain ⟨q, hq, rfl, rfl, SR, KR⟩ := hrel
      have ew : IntKind.i64.wrap ((q : Int) + 1) = (q : Int) + 1 := by
        have := HLN1.out
        rw [IntWalk.i64_in] <;> omega
      by_cases hlt : q < n1
      · have HQ := Lib.hid hlt
        have hi0 : (0 : Int) ≤ (q : Int) := by omega
        have hi1 : (q : Int) < (n1 : Int) := by omega
        obtain ⟨g, ta, tn, tc, ys, rfl, _, hus, htn, q1, ht⟩ := SR.out.text hlt
        have HU := Lib.hid hus
        have HTN := Lib.hid htn
        have HT := Lib.hid (⟨ys, ht⟩ : ∃ zs, World.ownsRow _ w5.heap.size 5 1 (.slice ta tn tc) tn zs)
        clear hlt hq hus htn ht
        go_wp2_with fail
        clear q1
        go_loopg [6] (tn + 1) (fun m2 jj wz => ∃ r : Nat, r ≤ tn ∧ m2 = tn + 1 - r ∧ jj = .int .i64 r ∧ Hid (∃ zs, wz.ownsRow w5.heap.size 5 1 (.slice ta tn tc) tn zs) ∧ Hid (Shape wz w5.heap.size 51 8 (.slice (some ⟨g, 0, none⟩) n1 vik) n1 us1) ∧ Hid (Below w5.heap.size w5 wz))
        case atStart => exact ⟨0, Nat.zero_le _, rfl, rfl, HT, SR, KR⟩
        case round =>
          clear HT SR KR
          obtain ⟨r, hr, rfl, rfl, TZ, SZ, KZ⟩ := hrel
          have ewr : IntKind.i64.wrap ((r : Int) + 1) = (r : Int) + 1 := by
            have := HTN.out
            rw [IntWalk.i64_in] <;> omega
          have hi0 : (0 : Int) ≤ (q : Int) := by omega
          have hi1 : (q : Int) < (n1 : Int) := by have := HQ.out; omega
          obtain ⟨_, eg, _, _, q1, _⟩ := row_cell SZ.out.1 HU.out
          injection eg with eg
          injection eg with eg
          subst eg
          by_cases hrt : r < tn
          · have HR := Lib.hid hrt
            have hj0 : (0 : Int) ≤ (r : Int) := by omega
            have hj1 : (r : Int) < (tn : Int) := by omega
            obtain ⟨zs, htz⟩ := TZ.out
            obtain ⟨g2, x, rfl, hg2, z1, z2⟩ := text_at htz hrt
            have HS := SZ.out.set (by decide) htz r (.int .u8 7)
            have S7 := Lib.hid HS.1
            have T7 := Lib.hid HS.2.1
            have K7 := Lib.hid (below_grown KZ.out HS.2.2 hg2)
            clear HS htz TZ SZ KZ hrt hr
            go_upto_region 10 with (fail)
            clear q1 z1 z2
            generalize World.setCell _ _ _ = w7 at *
            go_wp2_with fail
            go_roundg (tn + 1 - (r + 1))
            case measure => have := HR.out; omega
            case rel => exact ⟨r + 1, HR.out, rfl, by first | rfl | go_num, T7, S7, K7⟩
          · obtain rfl : r = tn := by omega
            have hn0 : ¬ (r : Int) < (r : Int) := by omega
            clear hrt hr
            go_wp2_with fail
            go_roundg (n1 + 1 - (q + 1))
            case measure => have := HQ.out; omega
            case rel => exact ⟨q + 1, HQ.out, rfl, by first | rfl | go_num, SZ, KZ⟩
      · obtain rfl : q = n1 := by omega
        have hn0 : ¬ (q : Int) < (q : Int) := by omega
        clear hlt hq
        obtain ⟨wa, hwa⟩ : ∃ wa : World, wa = wr := ⟨_, rfl⟩
        subst hwa
        have X6 := Lib.hid (blk X5.out KR.out)
        have T6 := Lib.hid (blk T5.out KR.out)
        have I6 := Lib.hid (I5.out.below KR.out)
        have J6 := Lib.hid (J5.out.below KR.out)
        have K6 := kept_hid K5 KR.out
        clear X5 T5 I5 J5 K5 KR SR S1 B1
        have Q2 := Lib.hid (modified_any s ad k 125 wa I6.out HP.out HLT.out H8.out HR.out (by decide))
        simp only [GaveM] at Q2
        have HSM2 := Lib.hid (modified_sound H8.out HLT.out 125)
        have HLN2 := Lib.hid (show (modified s 125).fs.length < 1000000 from by have := modified_few s 125 HP.out; have := HL.out; omega)
        rw [(asks_yes (s := s) (c := 125) (by decide)).1, (asks_yes (s := s) (c := 125) (by decide)).2] at Q2
        simp only [show ((125 : Nat) : Int) = 125 from rfl] at Q2
        generalize modified s 125 = i at *
        obtain ⟨c0, c1, c2, c3, c4, c5⟩ := cells6 X6.out
        go_wp2_with fail
        with_reducible refine Q2.out.mono ?_
        rintro e w7 ⟨va2, va2k, rfl, ho, hb⟩
        clear Q2 c0 c1 c2 c3 c4 c5
        obtain ⟨us2, hs2⟩ := shape_flds ho HSM2.out
        obtain ⟨n2, hn2⟩ : ∃ n, n = i.fs.length := ⟨_, rfl⟩
        rw [← hn2] at hs2 HLN2 ⊢
        clear hn2
        have HA := al_any w7 (.cells #[.int .u8 (i.aid : Int), .int .i64 i.cur, .slice va2 n2 va2k] 29)
        have S2 := Lib.hid (hs2.below HA)
        have B2 := Lib.hid (kept_trans hb HA)
        have Y2 := Lib.hid (heap_alloc_new w7 (.cells #[.int .u8 (i.aid : Int), .int .i64 i.cur, .slice va2 n2 va2k] 29))
        clear hb hs2 HA ho
        go_upto_region 13 with (fail)
        generalize w7.heap.size = N2 at *
        generalize w7.alloc _ = w8 at *
        obtain ⟨y0, y1, y2⟩ := cells3 Y2.out
        go_wp2_with fail
        clear y0 y1 y2
        go_loopg [9] (n2 + 1) (fun mm ii wr => ∃ q : Nat, q ≤ n2 ∧ mm = n2 + 1 - q ∧ ii = .int .i64 q ∧ Hid (Shape wr wa.heap.size 53 2 (.slice va2 n2 va2k) n2 us2) ∧ Hid (Below wa.heap.size wa wr) ∧ Hid (wr.heap[N2]? = some (.cells #[.int .u8 (i.aid : Int), .int .i64 i.cur, .slice va2 n2 va2k] 29 (0, 0))))
        case atStart => exact ⟨0, Nat.zero_le _, rfl, rfl, S2, B2, Y2⟩
        case round =>
          obtain ⟨q, hq, rfl, rfl, SR, KR, YR⟩ := hrel
          have ew : IntKind.i64.wrap ((q : Int) + 1) = (q : Int) + 1 := by
            have := HLN2.out
            rw [IntWalk.i64_in] <;> omega
          by_cases hlt : q < n2
          · have HQ := Lib.hid hlt
            have hi0 : (0 : Int) ≤ (q : Int) := by omega
            have hi1 : (q : Int) < (n2 : Int) := by omega
            obtain ⟨g, ta, tn, tc, ys, rfl, _, hus, htn, q1, ht⟩ := SR.out.text hlt
            have HU := Lib.hid hus
            have HTN := Lib.hid htn
            have HT := Lib.hid (⟨ys, ht⟩ : ∃ zs, World.ownsRow _ wa.heap.size 5 1 (.slice ta tn tc) tn zs)
            clear hlt hq hus htn ht
            obtain ⟨y0, y1, y2⟩ := cells3 YR.out
            go_wp2_with fail
            clear q1 y0 y1 y2
            go_loopg [10] (tn + 1) (fun m2 jj wz => ∃ r : Nat, r ≤ tn ∧ m2 = tn + 1 - r ∧ jj = .int .i64 r ∧ Hid (∃ zs, wz.ownsRow wa.heap.size 5 1 (.slice ta tn tc) tn zs) ∧ Hid (Shape wz wa.heap.size 53 2 (.slice (some ⟨g, 0, none⟩) n2 va2k) n2 us2) ∧ Hid (Below wa.heap.size wa wz) ∧ Hid (wz.heap[N2]? = some (.cells #[.int .u8 (i.aid : Int), .int .i64 i.cur, .slice (some ⟨g, 0, none⟩) n2 va2k] 29 (0, 0))))
            case atStart => exact ⟨0, Nat.zero_le _, rfl, rfl, HT, SR, KR, YR⟩
            case round =>
              clear HT SR KR YR
              obtain ⟨r, hr, rfl, rfl, TZ, SZ, KZ, YZ⟩ := hrel
              have ewr : IntKind.i64.wrap ((r : Int) + 1) = (r : Int) + 1 := by
                have := HTN.out
                rw [IntWalk.i64_in] <;> omega
              have hi0 : (0 : Int) ≤ (q : Int) := by omega
              have hi1 : (q : Int) < (n2 : Int) := by have := HQ.out; omega
              obtain ⟨_, eg, _, _, q1, _⟩ := row_cell SZ.out.1 HU.out
              injection eg with eg
              injection eg with eg
              subst eg
              obtain ⟨y0, y1, y2⟩ := cells3 YZ.out
              by_cases hrt : r < tn
              · have HR := Lib.hid hrt
                have hj0 : (0 : Int) ≤ (r : Int) := by omega
                have hj1 : (r : Int) < (tn : Int) := by omega
                obtain ⟨zs, htz⟩ := TZ.out
                obtain ⟨g2, x, rfl, hg2, z1, z2⟩ := text_at htz hrt
                have HS := SZ.out.set (by decide) htz r (.int .u8 7)
                have S7 := Lib.hid HS.1
                have T7 := Lib.hid HS.2.1
                have K7 := Lib.hid (below_grown KZ.out HS.2.2 hg2)
                have Y7 := Lib.hid (blk_g YZ.out HS.2.2 (fun e => by injection e with e; exact text_not htz (by decide) YZ.out e))
                clear HS htz TZ SZ KZ hrt hr YZ
                go_upto_region 18 with (fail)
                clear q1 z1 z2 y0 y1 y2
                generalize World.setCell _ _ _ = w7 at *
                go_wp2_with fail
                go_roundg (tn + 1 - (r + 1))
                case measure => have := HR.out; omega
                case rel => exact ⟨r + 1, HR.out, rfl, by first | rfl | go_num, T7, S7, K7, Y7⟩
              · obtain rfl : r = tn := by omega
                have hn0 : ¬ (r : Int) < (r : Int) := by omega
                clear hrt hr
                go_wp2_with fail
                go_roundg (n2 + 1 - (q + 1))
                case measure => have := HQ.out; omega
                case rel => exact ⟨q + 1, HQ.out, rfl, by first | rfl | go_num, SZ, KZ, YZ⟩
          · obtain rfl : q = n2 := by omega
            have hn0 : ¬ (q : Int) < (q : Int) := by omega
            clear hlt hq
            obtain ⟨w9, hw9⟩ : ∃ w9 : World, w9 = wr := ⟨_, rfl⟩
            subst hw9
            obtain ⟨y0, y1, y2⟩ := cells3 YR.out
            go_upto_region 20 with (fail)
            clear y0 y1 y2
            have X9 := Lib.hid (blk X6.out KR.out)
            have T9 := Lib.hid (blk T6.out KR.out)
            have I9 := Lib.hid (I6.out.below KR.out)
            have J9 := Lib.hid (J6.out.below KR.out)
            have K9 := kept_hid K6 KR.out
            clear X6 T6 I6 J6 K6 KR SR S2 B2 YR Y2
            have P1 := Lib.hid fun W (hb : Below w9.heap.size w9 W) => image_any s ad k W (I9.out.below hb) HP.out HLT.out HR.out
            have P2 := Lib.hid fun W (hb : Below w9.heap.size w9 W) => rimage_any s ad k W (I9.out.below hb) HP.out HLT.out
            simp only [GaveO] at P1
            have HLN3 := Lib.hid (show (image s).length < 1000000 from by have := image_len s; have := HL.out; omega)
            have HSO2 := Lib.hid (image_sound H8.out HLT.out)
            clear HSD hos
            clear os
            generalize image s = os at *
            have HSM := Lib.hid fun W v1 k1 v2 k2 (h1 : Str.OrdsIn W 0 (.slice v1 os.length k1) os) (h2 : Str.OrdsIn W 0 (.slice v2 os.length k2) os) => Str.rcsame_any ⟨0, false, false, false, os⟩ ⟨0, false, false, false, os⟩ v1 os.length k1 v2 os.length k2 W h1 h2 HSO2.out HSO2.out HLN3.out
            rw [(Str.csame_iff _ _).mpr rfl] at HSM
            have HSS := Lib.hid fun W (hb : Below w9.heap.size w9 W) => rsame_any s.rows s.cols s.cur s.lk s.ins ad s.cs.length k va1 s.cs.length vc1 s.cs s.cs W (I9.out.below hb) (J9.out.below hb) (by have := HL.out; omega)
            rw [decide_eq_true rfl] at HSS
            have HSX := Lib.hid (show ∀ W', Below w9.heap.size w9 W' → Below w9.heap.size w9 W' ∧ (W'.cell? ⟨w.heap.size, 0, none⟩ = some (.int .i64 s.rows) ∧ W'.cell? ⟨w.heap.size, 1, none⟩ = some (.int .i64 s.cols) ∧ W'.cell? ⟨w.heap.size, 2, none⟩ = some (.slice ad s.cs.length k) ∧ W'.cell? ⟨w.heap.size, 3, none⟩ = some (.int .i64 s.cur) ∧ W'.cell? ⟨w.heap.size, 4, none⟩ = some (.bool s.lk) ∧ W'.cell? ⟨w.heap.size, 5, none⟩ = some (.bool s.ins)) ∧ (W'.cell? ⟨N1, 0, none⟩ = some (.int .i64 s.rows) ∧ W'.cell? ⟨N1, 1, none⟩ = some (.int .i64 s.cols) ∧ W'.cell? ⟨N1, 2, none⟩ = some (.slice va1 s.cs.length vc1) ∧ W'.cell? ⟨N1, 3, none⟩ = some (.int .i64 s.cur) ∧ W'.cell? ⟨N1, 4, none⟩ = some (.bool s.lk) ∧ W'.cell? ⟨N1, 5, none⟩ = some (.bool s.ins)) from fun W' hW => ⟨hW, cells6 (blk X9.out hW), cells6 (blk T9.out hW)⟩)
            go_region_held3 (fun W' => Below w9.heap.size w9 W' ∧ (W'.cell? ⟨w.heap.size, 0, none⟩ = some (.int .i64 s.rows) ∧ W'.cell? ⟨w.heap.size, 1, none⟩ = some (.int .i64 s.cols) ∧ W'.cell? ⟨w.heap.size, 2, none⟩ = some (.slice ad s.cs.length k) ∧ W'.cell? ⟨w.heap.size, 3, none⟩ = some (.int .i64 s.cur) ∧ W'.cell? ⟨w.heap.size, 4, none⟩ = some (.bool s.lk) ∧ W'.cell? ⟨w.heap.size, 5, none⟩ = some (.bool s.ins)) ∧ (W'.cell? ⟨N1, 0, none⟩ = some (.int .i64 s.rows) ∧ W'.cell? ⟨N1, 1, none⟩ = some (.int .i64 s.cols) ∧ W'.cell? ⟨N1, 2, none⟩ = some (.slice va1 s.cs.length vc1) ∧ W'.cell? ⟨N1, 3, none⟩ = some (.int .i64 s.cur) ∧ W'.cell? ⟨N1, 4, none⟩ = some (.bool s.lk) ∧ W'.cell? ⟨N1, 5, none⟩ = some (.bool s.ins)))
              ((refine HSX.out _ ?_; first | with_reducible exact (Below.refl _ _).drew | with_reducible exact (Below.refl _ _) | with_reducible exact (And.left (by assumption)) | with_reducible exact kept_trans (And.left (by assumption)) hbm | with_reducible exact kept_trans (And.left (by assumption)) hbi | with_reducible exact kept_trans (And.left (by assumption)) hb | with_reducible exact kept_trans (And.left (by assumption)) hbs))
              (first
                | (go_at_call 18; with_reducible refine (HSS.out _ (And.left (by assumption))).mono ?_; rintro e ws ⟨rfl, hbs⟩)
                | (go_at_call 15; with_reducible refine (P1.out _ (And.left (by assumption))).mono ?_; rintro e wi ⟨vj, kj, rfl, hi, hbi⟩)
                | (go_at_call 16; with_reducible refine (P2.out _ (And.left (by assumption))).mono ?_; rintro e wm ⟨vm, km, rfl, hm, hbm⟩)
                | (go_at_call 14; with_reducible (first | refine (HSM.out _ vj kj vm km ((hi.below hbm).to.mono (Nat.zero_le _)) (hm.to.mono (Nat.zero_le _))).mono ?_ | refine (HSM.out _ vj kj vm km (hi.to.mono (Nat.zero_le _)) ((hm.below hbi).to.mono (Nat.zero_le _))).mono ?_); rintro e wn ⟨rfl, hb⟩))
            have hS := And.left (by assumption : Below w9.heap.size w9 wn ∧ _)
            have KA := kept_hid K9 hS
            clear hS hb
            go_wp2_with fail
            go_ret
            exact ⟨rfl, KA.out⟩
end Red
end Go.Proofs.YtpdlpmbjhopnnaaDoor
