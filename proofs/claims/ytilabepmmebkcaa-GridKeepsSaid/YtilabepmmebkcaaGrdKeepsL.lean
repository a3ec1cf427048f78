/- The law GridKeeps. -/
import Derived.Test.YtilabepmmebkcaaGrdSpansL
import Derived.Test.YtilabepmmebkcaaGrdPut
import Derived.Test.YtilabepmmebkcaaGrdRsame
import Derived.StillTailTactics
namespace Go.Proofs.Ytilabepmmebkcaa
open Go.RowKit Sha Six Apd Cut Err Att
set_option linter.unusedVariables false
namespace Grd
set_option maxRecDepth 100000 in
set_option maxHeartbeats 8000000 in
theorem keeps_any (s : S) (ad : Option Addr) (k : Nat) (a b : Int) (w : World) (h : CelsIn w (.slice ad s.cs.length k) s.cs) (hwf : Opn.Wf s.cs) (hm : s.cs.length ≤ maxLen) (wa : (Lit.int .u16 a).wf = true) (wb : (Lit.int .u16 b).wf = true) :
    Calls Try.prog 5 #[.agg #[.int .i64 s.rows, .int .i64 s.cols, .slice ad s.cs.length k, .int .i64 s.cur, .bool s.lk, .bool s.ins], .int .u16 a, .int .u16 b] w fun e w' => e = .returned (.bool true) ∧ Below w.heap.size w w' := by
  obtain ⟨b0, b1⟩ := Ord.wf_u16 wa
  obtain ⟨b2, b3⟩ := Ord.wf_u16 wb
  obtain ⟨a, rfl⟩ := Int.eq_ofNat_of_zero_le b0
  obtain ⟨b, rfl⟩ := Int.eq_ofNat_of_zero_le b2
  have HAW := Lib.hid fun W => awake_any W
  have HB := Lib.hid (al_any w (.cells #[.int .i64 s.rows, .int .i64 s.cols, .slice ad s.cs.length k, .int .i64 s.cur, .bool s.lk, .bool s.ins] 24))
  have HX := Lib.hid (heap_alloc_new w (.cells #[.int .i64 s.rows, .int .i64 s.cols, .slice ad s.cs.length k, .int .i64 s.cur, .bool s.lk, .bool s.ins] 24))
  have HI := Lib.hid (h.below HB.out)
  have HF := Lib.hid fun W hb => rfew_any s ad k W (HI.out.below hb) (wf_sound hwf)
  clear h hwf hm wa wb
  cases hf : few s with
  | false =>
    rw [hf] at HF
    go_enter Try.func5, Try.ntmps5
    go_upto_region 1 with (fail)
    generalize w.alloc _ = w1 at *
    go_wp2_with fail
    with_reducible refine (HAW.out _).mono ?_
    rintro e w2 ⟨rfl, hb⟩
    have K2 := Lib.hid hb
    obtain ⟨c0, c1, c2, c3, c4, c5⟩ := cells6 (blk HX.out hb)
    clear hb
    go_wp2_with fail
    with_reducible refine (HF.out _ K2.out).mono ?_
    rintro e w3 ⟨rfl, hb⟩
    have K3 := kept_hid HB (kept_trans K2.out hb)
    clear hb c0 c1 c2 c3 c4 c5
    go_wp2_with fail
    with_reducible refine (HAW.out _).mono ?_
    rintro e w4 ⟨rfl, hb⟩
    have K4 := kept_hid K3 hb
    clear hb
    go_wp2_with fail
    go_ret
    exact ⟨rfl, K4.out⟩
  | true =>
    rw [hf] at HF
    obtain ⟨q1, q2, _⟩ := few_parts hf
    have HL := Lib.hid q1
    have HP := Lib.hid q2
    have hx : ((a : Int) % (s.cs.length : Int)) = ((a % s.cs.length : Nat) : Int) := by omega
    have hy : ((b : Int) % (s.cs.length : Int)) = ((b % s.cs.length : Nat) : Int) := by omega
    have HXL := Lib.hid (Nat.mod_lt a q2)
    have HYL := Lib.hid (Nat.mod_lt b q2)
    have hne : ¬ ((s.cs.length : Int) = 0) := by omega
    generalize a % s.cs.length = x at *
    generalize b % s.cs.length = y at *
    clear hf q1 q2
    go_enter Try.func5, Try.ntmps5
    go_upto_region 1 with (fail)
    generalize w.alloc _ = w1 at *
    go_wp2_with fail
    with_reducible refine (HAW.out _).mono ?_
    rintro e w2 ⟨rfl, hb⟩
    have K2 := Lib.hid hb
    obtain ⟨c0, c1, c2, c3, c4, c5⟩ := cells6 (blk HX.out hb)
    clear hb
    go_wp2_with fail
    with_reducible refine (HF.out _ K2.out).mono ?_
    rintro e w3 ⟨rfl, hb⟩
    have K3 := kept_hid HB (kept_trans K2.out hb)
    have X3 := Lib.hid (blk HX.out (kept_trans K2.out hb))
    have I3 := Lib.hid (HI.out.below (kept_trans K2.out hb))
    clear hb c0 c1 c2 c3 c4 c5 HI HF HAW HX HB K2
    have HLC := Lib.hid (show s.cs.length < 100000000 by have := HL.out; omega)
    have HRC := Lib.hid (rcopy_any s ad k w3 I3.out HLC.out)
    obtain ⟨c0, c1, c2, c3, c4, c5⟩ := cells6 X3.out
    go_wp2_with fail
    with_reducible refine HRC.out.mono ?_
    rintro e w4 ⟨va1, vc1, rfl, ho1, hb⟩
    have HA := al_any w4 (.cells #[.int .i64 s.rows, .int .i64 s.cols, .slice va1 s.cs.length vc1, .int .i64 s.cur, .bool s.lk, .bool s.ins] 24)
    have L7 := Lib.hid (heap_alloc_new w4 (.cells #[.int .i64 s.rows, .int .i64 s.cols, .slice va1 s.cs.length vc1, .int .i64 s.cur, .bool s.lk, .bool s.ins] 24))
    have K5 := kept_hid K3 (kept_trans hb HA)
    have X5 := Lib.hid (blk X3.out (kept_trans hb HA))
    have I5 := Lib.hid (I3.out.below (kept_trans hb HA))
    have J5 := Lib.hid (ho1.to.below HA)
    clear ho1 hb HA HRC I3 K3 X3 c0 c1 c2 c3 c4 c5
    go_upto_region 4 with (fail)
    generalize w4.heap.size = B7 at *
    generalize w4.alloc _ = w5 at *
    obtain ⟨c0, c1, c2, c3, c4, c5⟩ := cells6 X5.out
    have HCC := Lib.hid (copy_any s ad k w5 I5.out HLC.out)
    go_wp2_with fail
    with_reducible refine HCC.out.mono ?_
    rintro e w6 ⟨va2, vc2, rfl, ho2, hb⟩
    have HA := al_any w6 (.cells #[.int .i64 s.rows, .int .i64 s.cols, .slice va2 s.cs.length vc2, .int .i64 s.cur, .bool s.lk, .bool s.ins] 24)
    have L9 := Lib.hid (heap_alloc_new w6 (.cells #[.int .i64 s.rows, .int .i64 s.cols, .slice va2 s.cs.length vc2, .int .i64 s.cur, .bool s.lk, .bool s.ins] 24))
    have K7 := Lib.hid (kept_trans hb HA)
    have O7 := Lib.hid (OwnCels.below ho2 HA)
    have HG2 := Lib.hid (OwnCels.at ho2 HP.out)
    have HGB9 := Lib.hid (show ∀ g, (Value.slice va2 s.cs.length vc2).ownBlock = some g → g < w6.heap.size from fun g hg => by
      obtain ⟨g', c', e, _, h2, _⟩ := OwnCels.at ho2 HP.out
      rw [e] at hg
      simp [Value.ownBlock] at hg
      omega)
    clear ho2 hb HA HCC c0 c1 c2 c3 c4 c5
    go_upto_region 6 with (fail)
    generalize w6.heap.size = B9 at *
    generalize w6.alloc _ = w7 at *
    obtain ⟨c0, c1, c2, c3, c4, c5⟩ := cells6 (blk X5.out K7.out)
    have HPP := put_ok s ad k x false false false 0 false 193 w7 (I5.out.below K7.out) HLC.out (by have := HXL.out; simp; omega) (by decide) (by decide)
    rw [show ((193 : Nat) : Int) = 193 from rfl] at HPP
    replace HPP := Lib.hid HPP
    go_wp2_with fail
    with_reducible refine HPP.out.mono ?_
    rintro e w8 ⟨va3, vc3, rfl, ho3, hb⟩
    have HA := al_any w8 (.cells #[.int .i64 s.rows, .int .i64 s.cols, .slice va3 s.cs.length vc3, .int .i64 s.cur, .bool s.lk, .bool s.ins] 24)
    have L10 := Lib.hid (heap_alloc_new w8 (.cells #[.int .i64 s.rows, .int .i64 s.cols, .slice va3 s.cs.length vc3, .int .i64 s.cur, .bool s.lk, .bool s.ins] 24))
    have K9 := kept_hid K7 (kept_trans hb HA)
    have L9' := Lib.hid (blk L9.out (kept_trans hb HA))
    have O9 := Lib.hid (OwnCels.below O7.out (kept_trans hb HA))
    have P9 := Lib.hid (OwnCels.below ho3 HA)
    have HG3 := Lib.hid (OwnCels.at ho3 (by rw [List.length_set]; exact HP.out))
    have HGB10 := Lib.hid (show ∀ g, (Value.slice va3 s.cs.length vc3).ownBlock = some g → g < w8.heap.size from fun g hg => by
      obtain ⟨g', c', e, _, h2, _⟩ := OwnCels.at ho3 (by rw [List.length_set]; exact HP.out)
      rw [e] at hg
      simp [Value.ownBlock] at hg
      omega)
    have HB97 := Lib.hid (show B9 < w7.heap.size from there_lt L9.out)
    clear hb HA HPP ho3 c0 c1 c2 c3 c4 c5
    go_upto_region 7 with (fail)
    generalize w8.heap.size = B10 at *
    generalize w8.alloc _ = w9 at *
    obtain ⟨g2, z2, e2, hg2a, hg2b, _⟩ := HG2.out
    injection e2 with e2 e2x e2'
    clear e2x
    subst e2
    subst e2'
    obtain ⟨g3, z3, e3, hg3a, hg3b, _⟩ := HG3.out
    injection e3 with e3 e3x e3'
    clear e3x
    subst e3
    subst e3'
    have HL9 := Lib.hid (there_lt L9.out)
    have HG5 := Lib.hid hg2a
    have HG6 := Lib.hid (show g2 < B9 from HGB9.out g2 rfl)
    have HG7 := Lib.hid (show B9 < g3 from by have := HB97.out; omega)
    have HG8 := Lib.hid (show g3 < B10 from HGB10.out g3 rfl)
    clear HG2 HG3 hg2a hg2b hg3a hg3b
    go_wp2_with fail
    go_loopg [12] (s.cs.length + 1) (fun m i wr => ∃ q : Nat, q ≤ s.cs.length ∧ m = s.cs.length + 1 - q ∧ i = .int .i64 q ∧ Hid (Below w5.heap.size w5 wr) ∧ Hid (wr.heap[B9]? = some (.cells #[.int .i64 s.rows, .int .i64 s.cols, .slice (some ⟨g2, 0, none⟩) s.cs.length vc2, .int .i64 s.cur, .bool s.lk, .bool s.ins] 24 (0, 0))) ∧ Hid (wr.heap[B10]? = some (.cells #[.int .i64 s.rows, .int .i64 s.cols, .slice (some ⟨g3, 0, none⟩) s.cs.length vc3, .int .i64 s.cur, .bool s.lk, .bool s.ins] 24 (0, 0))) ∧ ∃ c2 c3 : List C, c2.length = s.cs.length ∧ c3.length = s.cs.length ∧ Hid (OwnCels wr w5.heap.size (.slice (some ⟨g2, 0, none⟩) s.cs.length vc2) c2) ∧ Hid (OwnCels wr w5.heap.size (.slice (some ⟨g3, 0, none⟩) s.cs.length vc3) c3))
    case atStart => exact ⟨0, Nat.zero_le _, rfl, rfl, K9, L9', L10, _, _, rfl, List.length_set .., O9, Lib.hid (P9.out.mono K7.out.size)⟩
    case round =>
      obtain ⟨q, hq, rfl, rfl, HK, HL9r, HL10r, c2, c3, hc2, hc3, HO, HQ⟩ := hrel
      have ew : IntKind.i64.wrap ((q : Int) + 1) = (q : Int) + 1 := by
        have := HL.out
        rw [IntWalk.i64_in] <;> omega
      obtain ⟨d0, d1, d2, d3, d4, d5⟩ := cells6 HL9r.out
      by_cases hlt : q < s.cs.length
      · have hi0 : (0 : Int) ≤ (q : Int) := by omega
        have hi1 : (q : Int) < (s.cs.length : Int) := by omega
        have N12 := Lib.hid (show g3 ≠ g2 by have := HG6.out; have := HG7.out; omega)
        obtain ⟨yf, yp, yn, ys, ym, yc, ey⟩ := c_eta (c2.getD q noC)
        obtain ⟨⟨_, _, _, _, _, p5⟩, fz⟩ := OwnCels.spot HO.out (by omega) ey
        have f5 := fz (q * 6 + 5)
        clear fz
        have SO := OwnCels.setc HO.out (i := q) (by omega) 7
        rw [show ((7 : Nat) : Int) = 7 from rfl] at SO
        have O2 := Lib.hid SO.1
        have Q2 := Lib.hid (OwnCels.away HQ.out SO.2 (by simp [Value.ownBlock]; exact N12.out))
        have M9 := Lib.hid (blk_g HL9r.out SO.2 (by intro e; injection e with e; have := HG6.out; omega))
        have M10 := Lib.hid (blk_g HL10r.out SO.2 (by intro e; injection e with e; have := HG6.out; have := HG7.out; have := HG8.out; omega))
        have K2 := Lib.hid (below_grown HK.out SO.2 HG5.out)
        clear SO HO HQ HL9r HL10r HK
        go_upto_region 11 with (fail)
        clear d0 d1 d2 d3 d4 d5 p5 f5
        generalize wr.setCell _ _ = wt at *
        obtain ⟨d0, d1, d2, d3, d4, d5⟩ := cells6 M10.out
        obtain ⟨zf, zp, zn, zs, zm, zc, ez⟩ := c_eta (c3.getD q noC)
        obtain ⟨⟨_, _, _, _, _, p5⟩, fz⟩ := OwnCels.spot Q2.out (by omega) ez
        have f5 := fz (q * 6 + 5)
        clear fz
        have SO := OwnCels.setc Q2.out (i := q) (by omega) 7
        rw [show ((7 : Nat) : Int) = 7 from rfl] at SO
        have Q3 := Lib.hid SO.1
        have O3 := Lib.hid (OwnCels.away O2.out SO.2 (by simp [Value.ownBlock]; exact fun e => N12.out e.symm))
        have E9 := Lib.hid (blk_g M9.out SO.2 (by intro e; injection e with e; have := HG7.out; omega))
        have E10 := Lib.hid (blk_g M10.out SO.2 (by intro e; injection e with e; have := HG8.out; omega))
        have K3' := Lib.hid (below_grown K2.out SO.2 (by have := HG5.out; have := HG6.out; have := HG7.out; omega))
        clear SO O2 Q2 M9 M10 K2
        go_wp2_with fail
        clear d0 d1 d2 d3 d4 d5 p5 f5
        go_roundg (s.cs.length + 1 - (q + 1))
        case measure => omega
        case rel => exact ⟨q + 1, by omega, rfl, rfl, K3', E9, E10, _, _, by rw [List.length_set]; exact hc2, by rw [List.length_set]; exact hc3, O3, Q3⟩
      · obtain rfl : q = s.cs.length := by omega
        have hn0 : ¬ (s.cs.length : Int) < (s.cs.length : Int) := by omega
        have X10 := Lib.hid (blk X5.out HK.out)
        have I10 := Lib.hid (I5.out.below HK.out)
        have J10 := Lib.hid (J5.out.below HK.out)
        have L7' := Lib.hid (blk L7.out HK.out)
        have K10 := kept_hid K5 HK.out
        clear hlt HO HQ HL9r HL10r K9 L9' L10 O9 P9 O7 L9 K7 HL9 HG5 HG6 HG7 HG8 HGB9 HGB10 HB97 HK hc2 hc3 X5 I5 J5 L7 K5
        go_upto_region 12 with (fail)
        clear d0 d1 d2 d3 d4 d5
        have HS1 := Lib.hid fun W => span_any s.rows s.cols ad s.cs.length k s.cur s.lk s.ins x y W HXL.out HYL.out (by have := HL.out; omega)
        have hrb : (b : Int).tmod (s.cs.length : Int) = (y : Int) := by rw [Int.tmod_eq_emod_of_nonneg (by omega)]; exact hy
        have hrb2 : (IntKind.i64.wrap (b : Int)).tmod (s.cs.length : Int) = (y : Int) := by rw [IntWalk.i64_in _ (by omega)]; exact hrb
        have hrb3 : (wrap64 (b : Int)).tmod (s.cs.length : Int) = (y : Int) := by
          have hwb2 : wrap64 (b : Int) = (b : Int) := by unfold wrap64; omega
          rw [hwb2]; exact hrb
        obtain ⟨c0, c1, c2, c3, c4, c5⟩ := cells6 X10.out
        have hn1 : ¬ s.cs.length = 0 := by omega
        have hn2 : ¬ s.cs = [] := fun e => hn1 (by rw [e]; rfl)
        have hn3 : ((s.cs.length : Int) == 0) = false := by simp [hn2]
        go_still_tail 8, (by kernel_rfl)
        change wpList _ _ _ _ _ wr.drew
        have HD := Lib.hid (Below.refl wr.heap.size wr).drew
        generalize wr.drew = wd at *
        go_wp2_with fail
        with_reducible refine (HS1.out _).mono ?_
        rintro e wa ⟨v, rfl, hv, hb⟩
        clear c0 c1 c2 c3 c4 c5 hn1 hn2 hn3
        have hS := kept_trans HD.out hb
        have K11 := kept_hid K10 hS
        have X11 := Lib.hid (blk X10.out hS)
        have I11 := Lib.hid (I10.out.below hS)
        have J11 := Lib.hid (J10.out.below hS)
        have L11 := Lib.hid (blk L7'.out hS)
        have V11 := Lib.hid hv
        obtain ⟨vv, vk, rfl⟩ := hv.form
        clear hS hb hv HS1 HD hrb hrb2 hrb3 K10 X10 I10 J10 L7'
        have HSP := Lib.hid (fun i (h : i < spanLen s.cs.length x y) => span_getD (z := s.cs.length) (a := (x : Int)) (b := (y : Int)) h)
        have HSN := Lib.hid (span_length s.cs.length x y)
        have HSZ := Lib.hid (spanLen_pos (z := s.cs.length) (by have := HP.out; omega) (x : Int) (y : Int)).2
        generalize span s.cs.length x y = sp at *
        generalize spanLen s.cs.length x y = N at *
        obtain rfl : N = sp.length := HSN.out.symm
        clear HSN
        obtain ⟨c0, c1, c2, c3, c4, c5⟩ := cells6 X11.out
        go_wp2_with (at_make; refine wpList_mark ?_)
        clear c0 c1 c2 c3 c4 c5
        refine Lib.hid ?_
        obtain ⟨i0, hi, hz0, hz1, hz2⟩ := info_parts infoB
        refine wpList_make_full _ rfl _ _ 45 rfl wa.heap.size 4 i0 _ 1 Try.underlying45 hi hz0 hz1 .i64 .i64 _ _ s.cs.length rfl rfl rfl rfl ?_ ?_ ?_ ?_
        · rw [hz2]; have := HL.out; omega
        · have := HL.out; unfold maxLen; omega
        · exact Nat.le_refl _
        intro wb hown hgr
        rw [made_bools] at hown
        have HKB := Lib.hid (show Below wa.heap.size wa wb from belowg hgr)
        have S12 := Lib.hid (show OwnBools wb wa.heap.size (.slice (some ⟨wa.heap.size, 0, none⟩) s.cs.length s.cs.length) (List.replicate s.cs.length false) from by
          unfold OwnBools; rw [List.length_replicate]; exact hown)
        have HGS := Lib.hid (Nat.le_refl wa.heap.size)
        have hinj := Lib.hid (fun i j (hi : i < sp.length) (hj : j < sp.length) (h : sp.getD i 0 = sp.getD j 0) => show i = j from by
          rw [HSP.out i hi, HSP.out j hj] at h
          exact on_inj (by have := HSZ.out; omega) (by have := HSZ.out; omega) h)
        have HSPL := Lib.hid (fun i (hi : i < sp.length) => show sp.getD i 0 < s.cs.length from by
          rw [HSP.out i hi]; exact on_lt (by have := HP.out; omega) _ _)
        clear hown hgr hi hz0 hz1 hz2 HSP
        go_wp2_with fail
        go_loopg [15] (sp.length + 1) (fun m i wz => ∃ q : Nat, q ≤ sp.length ∧ m = sp.length + 1 - q ∧ i = .int .i64 q ∧ Hid (Below wa.heap.size wa wz) ∧ ∃ bs : List Bool, bs.length = s.cs.length ∧ Hid (OwnBools wz wa.heap.size (.slice (some ⟨wa.heap.size, 0, none⟩) s.cs.length s.cs.length) bs) ∧ Hid (∀ j, bs.getD j false = true → ∃ i, i < q ∧ sp.getD i 0 = j))
        case atStart => exact ⟨0, Nat.zero_le _, rfl, rfl, HKB, _, List.length_replicate .., S12, Lib.hid fun j hj => by
          rw [List.getD_eq_getElem?_getD, List.getElem?_replicate] at hj
          split at hj <;> cases hj⟩
        case round =>
          obtain ⟨q, hq, rfl, rfl, HKz, bs, hbs, HSz, HPz⟩ := hrel
          have ew : IntKind.i64.wrap ((q : Int) + 1) = (q : Int) + 1 := by
            have := HSZ.out; have := HL.out
            rw [IntWalk.i64_in] <;> omega
          by_cases hlt : q < sp.length
          · obtain ⟨gl, rfl, _, hgl, dl, _⟩ := OwnInts.cell V11.out hlt
            have dl := (HKz.out.cell (p := ⟨gl, 0 + q, none⟩) hgl).trans dl
            rw [Nat.zero_add] at dl
            have hidx := HSPL.out q hlt
            obtain ⟨db, fb⟩ := OwnBools.cell HSz.out (i := sp.getD q 0) (by omega)
            have hfalse : bs.getD (sp.getD q 0) false = false := by
              cases hv : bs.getD (sp.getD q 0) false with
              | false => rfl
              | true =>
                obtain ⟨i, hi, he⟩ := HPz.out _ hv
                have := hinj.out i q (by omega) hlt he
                omega
            rw [hfalse] at db
            have SS := OwnBools.set HSz.out (sp.getD q 0) true
            have S2 := Lib.hid SS.1
            have K2z := Lib.hid (HKz.out.grown SS.2 HKz.out.size (by intro k hk; injection hk with hk; omega))
            have P2 := Lib.hid (show ∀ j, (bs.set (sp.getD q 0) true).getD j false = true → ∃ i, i < q + 1 ∧ sp.getD i 0 = j from fun j hj => by
              by_cases hjq : j = sp.getD q 0
              · exact ⟨q, by omega, hjq.symm⟩
              · rw [List.getD_eq_getElem?_getD, List.getElem?_set_ne (fun e => hjq e.symm), ← List.getD_eq_getElem?_getD] at hj
                obtain ⟨i, hi, he⟩ := HPz.out j hj
                exact ⟨i, by omega, he⟩)
            have hln := Lib.hid (show (bs.set (sp.getD q 0) true).length = s.cs.length by rw [List.length_set]; exact hbs)
            generalize bs.set (sp.getD q 0) true = bs2 at *
            generalize sp.getD q 0 = ix at *
            have hi0 : (0 : Int) ≤ (q : Int) := by omega
            have hi1 : (q : Int) < (sp.length : Int) := by omega
            have hx0 : (0 : Int) ≤ (ix : Int) := by omega
            have hx1 : (ix : Int) < (s.cs.length : Int) := by omega
            clear SS hfalse HPz HSz hidx hbs
            go_wp2_with fail
            go_roundg (sp.length + 1 - (q + 1))
            case measure => omega
            case rel => exact ⟨q + 1, by omega, rfl, rfl, K2z, _, hln.out, S2, P2⟩
          · obtain rfl : q = sp.length := by omega
            have hn0 : ¬ (sp.length : Int) < (sp.length : Int) := by omega
            have HRS := Lib.hid (rsame_any s.rows s.cols s.cur s.lk s.ins ad s.cs.length k va1 s.cs.length vc1 s.cs s.cs wr (I11.out.below HKz.out) (J11.out.below HKz.out) (by have := HL.out; omega))
            have KZ := kept_hid K11 HKz.out
            obtain ⟨c0, c1, c2, c3, c4, c5⟩ := cells6 (blk X11.out HKz.out)
            obtain ⟨d0, d1, d2, d3, d4, d5⟩ := cells6 (blk L11.out HKz.out)
            clear hlt HSz HPz HKz I11 J11 X11 L11 K11 V11 hbs
            go_wp2_with fail
            with_reducible refine HRS.out.mono ?_
            rintro e we ⟨rfl, hb⟩
            have KF := kept_hid KZ hb
            clear hb HRS KZ c0 c1 c2 c3 c4 c5 d0 d1 d2 d3 d4 d5
            go_wp2_with fail
            go_ret
            exact ⟨by simp, KF.out⟩
end Grd
end Go.Proofs.Ytilabepmmebkcaa
