/- The document's Do of layer 16. Written by tools/gen_wip_ref.py. -/
import Derived.Test.YtpgbnnnfeaodmaaGreatDoorSBunWip
import Derived.Test.YtpgbnnnfeaodmaaGreatDoorSBunEdr
import Derived.Test.YtpgbnnnfeaodmaaGreatDoorSBunEdp
import Derived.Test.YtpgbnnnfeaodmaaGreatDoorSBunHst
import Derived.Test.YtpgbnnnfeaodmaaGreatDoorSBunGrd
import Derived.Test.YtpgbnnnfeaodmaaGreatDoorSBunFld
import Derived.Test.YtpgbnnnfeaodmaaGreatDoorSBunScr
import Derived.Deep.Cut
import Derived.Deep.LoopGhost
import Derived.IntWalk
namespace Go.Proofs.YtpgbnnnfeaodmaaGreatDoor
open Go.RowKit Sha Six Apd Cut Err Att Grd Fld Scr
set_option linter.unusedVariables false
namespace Wip
open Edt
set_option maxRecDepth 100000 in
set_option maxHeartbeats 8000000 in
theorem rdo_any (s : S) (ad : Option Addr) (k : Nat) (kind : Int) (w : World) (h : CelsIn w (.slice ad s.cs.length k) s.cs) (hr : sright s = true) (hl : s.cs.length < 10000) :
    Calls Tryz.prog 26 #[.agg #[.int .i64 s.rows, .int .i64 s.cols, .slice ad s.cs.length k, .int .i64 s.cur, .bool s.lk, .bool s.ins], .int .i64 kind] w fun e w' => ShownE w w' (wdo s kind).1 ((wdo s kind).2.1 : Nat) (wdo s kind).2.2 e := by
  obtain ⟨kk, hk1, _, hk3⟩ := cur_nat hr
  obtain ⟨r, cc, cs, cur, lk, ins⟩ := s
  simp only at *
  subst hk1
  have HP := Lib.hid (show 0 < cs.length by omega)
  have HB := Lib.hid (kept_trans (al_any w (.cells #[.int .i64 r, .int .i64 cc, .slice ad cs.length k, .int .i64 (kk : Int), .bool lk, .bool ins] 24)) (al_any _ (.cells #[.int .i64 0, .int .i64 0, .slice none 0 0, .int .i64 0, .bool false, .bool false] 24)))
  have HX := Lib.hid (heap_alloc2_old w (.cells #[.int .i64 r, .int .i64 cc, .slice ad cs.length k, .int .i64 (kk : Int), .bool lk, .bool ins] 24) (.cells #[.int .i64 0, .int .i64 0, .slice none 0 0, .int .i64 0, .bool false, .bool false] 24))
  have HZ := Lib.hid (heap_alloc2_new w (.cells #[.int .i64 r, .int .i64 cc, .slice ad cs.length k, .int .i64 (kk : Int), .bool lk, .bool ins] 24) (.cells #[.int .i64 0, .int .i64 0, .slice none 0 0, .int .i64 0, .bool false, .bool false] 24))
  have HI := Lib.hid (h.below HB.out)
  have HNE := Lib.hid (celsIn_lt h HP.out)
  have HL := Lib.hid hl
  have HR := Lib.hid hr
  have HK := Lib.hid hk3
  have HM := Lib.hid (show isWipe kind = (decide (12 ≤ kind) && decide (kind ≤ 14)) from rfl)
  clear h hr hl hk3
  cases hm : isWipe kind with
  | false =>
    have HT := Lib.hid (wdo_1 (s := (⟨r, cc, cs, (kk : Int), lk, ins⟩ : S)) hm)
    rw [hm] at HM
    clear hm
    by_cases hk2 : kind < 12
    · clear HM
      go_enter Tryz.func26, Tryz.ntmps26
      go_upto_region 1 with (fail)
      generalize (w.alloc _).alloc _ = w1 at *
      obtain ⟨a0, a1, a2, a3, a4, a5⟩ := cells6 HX.out
      obtain ⟨f0, f1, f2, f3, f4, f5⟩ := free6 HZ.out
      obtain ⟨z0, z1, z2, z3, z4, z5⟩ := cells6 HZ.out
      have SF := Lib.hid (over6 w1 (w.heap.size + 1) _ _ _ _ _ _ _ (.int .i64 r) (.int .i64 cc) (.slice ad cs.length k) (.int .i64 (kk : Int)) (.bool lk) (.bool ins) HZ.out)
      go_wp2_with fail
      clear z0 z1 z2 z3 z4 z5 f0 f1 f2 f3 f4 f5 a0 a1 a2 a3 a4 a5
      generalize (((((w1.setCell _ _).setCell _ _).setCell _ _).setCell _ _).setCell _ _).setCell _ _ = w9 at *
      rw [HT.out]
      exact bodyPost_ret (v := .tuple #[.agg #[.int .i64 r, .int .i64 cc, .slice ad cs.length k, .int .i64 (kk : Int), .bool lk, .bool ins], .int .i64 1, .int .i64 (-1)]) (results_cell_2 rfl _ _ _ (w.heap.size + 1) _ rfl (run_loadVar_row w9 (w.heap.size + 1) 24 24 _ (0, 0) _ SF.out.1 Tryz.underlying24 rfl (by kernel_rfl)) (.int .i64 1) (.int .i64 (-1)) rfl rfl) rfl ⟨ad, k, rfl, celsIn_away HI.out SF.out.2 (fun x hx => by have := HNE.out x hx; omega), below_grown HB.out SF.out.2 (by omega)⟩
    · have hk9 : 14 < kind := by
        have := HM.out
        rcases Int.lt_or_le 14 kind with h | h
        · exact h
        · rw [decide_eq_true (show (12 : Int) ≤ kind by omega), decide_eq_true h] at this; cases this
      clear HM
      go_enter Tryz.func26, Tryz.ntmps26
      go_upto_region 1 with (fail)
      generalize (w.alloc _).alloc _ = w1 at *
      obtain ⟨a0, a1, a2, a3, a4, a5⟩ := cells6 HX.out
      obtain ⟨f0, f1, f2, f3, f4, f5⟩ := free6 HZ.out
      obtain ⟨z0, z1, z2, z3, z4, z5⟩ := cells6 HZ.out
      have SF := Lib.hid (over6 w1 (w.heap.size + 1) _ _ _ _ _ _ _ (.int .i64 r) (.int .i64 cc) (.slice ad cs.length k) (.int .i64 (kk : Int)) (.bool lk) (.bool ins) HZ.out)
      go_wp2_with fail
      clear z0 z1 z2 z3 z4 z5 f0 f1 f2 f3 f4 f5 a0 a1 a2 a3 a4 a5
      generalize (((((w1.setCell _ _).setCell _ _).setCell _ _).setCell _ _).setCell _ _).setCell _ _ = w9 at *
      rw [HT.out]
      exact bodyPost_ret (v := .tuple #[.agg #[.int .i64 r, .int .i64 cc, .slice ad cs.length k, .int .i64 (kk : Int), .bool lk, .bool ins], .int .i64 1, .int .i64 (-1)]) (results_cell_2 rfl _ _ _ (w.heap.size + 1) _ rfl (run_loadVar_row w9 (w.heap.size + 1) 24 24 _ (0, 0) _ SF.out.1 Tryz.underlying24 rfl (by kernel_rfl)) (.int .i64 1) (.int .i64 (-1)) rfl rfl) rfl ⟨ad, k, rfl, celsIn_away HI.out SF.out.2 (fun x hx => by have := HNE.out x hx; omega), below_grown HB.out SF.out.2 (by omega)⟩
  | true =>
    have HWI := Lib.hid hm
    rw [hm] at HM
    obtain ⟨hk2, hk9⟩ : 12 ≤ kind ∧ kind ≤ 14 := by simpa using HM.out.symm
    have hk2' : ¬ kind < 12 := by omega
    have hk9' : ¬ 14 < kind := by omega
    have HKB := Lib.hid (And.intro hk2 hk9)
    clear hm HM hk2 hk9
    cases lk with
    | true =>
      have HT := Lib.hid (wdo_7 (s := (⟨r, cc, cs, (kk : Int), true, ins⟩ : S)) HWI.out rfl)
      go_enter Tryz.func26, Tryz.ntmps26
      go_upto_region 1 with (fail)
      generalize (w.alloc _).alloc _ = w1 at *
      obtain ⟨a0, a1, a2, a3, a4, a5⟩ := cells6 HX.out
      obtain ⟨f0, f1, f2, f3, f4, f5⟩ := free6 HZ.out
      obtain ⟨z0, z1, z2, z3, z4, z5⟩ := cells6 HZ.out
      have SF := Lib.hid (over6 w1 (w.heap.size + 1) _ _ _ _ _ _ _ (.int .i64 r) (.int .i64 cc) (.slice ad cs.length k) (.int .i64 (kk : Int)) (.bool true) (.bool ins) HZ.out)
      go_wp2_with fail
      clear z0 z1 z2 z3 z4 z5 f0 f1 f2 f3 f4 f5 a0 a1 a2 a3 a4 a5
      generalize (((((w1.setCell _ _).setCell _ _).setCell _ _).setCell _ _).setCell _ _).setCell _ _ = w9 at *
      rw [HT.out]
      exact bodyPost_ret (v := .tuple #[.agg #[.int .i64 r, .int .i64 cc, .slice ad cs.length k, .int .i64 (kk : Int), .bool true, .bool ins], .int .i64 7, .int .i64 (-1)]) (results_cell_2 rfl _ _ _ (w.heap.size + 1) _ rfl (run_loadVar_row w9 (w.heap.size + 1) 24 24 _ (0, 0) _ SF.out.1 Tryz.underlying24 rfl (by kernel_rfl)) (.int .i64 7) (.int .i64 (-1)) rfl rfl) rfl ⟨ad, k, rfl, celsIn_away HI.out SF.out.2 (fun x hx => by have := HNE.out x hx; omega), below_grown HB.out SF.out.2 (by omega)⟩
    | false =>
      by_cases h14 : kind = 14
      · subst h14
        have HT := Lib.hid (show wdo (⟨r, cc, cs, (kk : Int), false, ins⟩ : S) 14 = (wall (⟨r, cc, cs, (kk : Int), false, ins⟩ : S), 0, -1) from wdo_14 rfl)
        have HDO := fun W (hb : CelsIn W (.slice ad cs.length k) cs) => Hst.rdo_any (⟨r, cc, cs, (kk : Int), false, ins⟩ : S) ad k ⟨111, false, false, false, []⟩ none 0 0 W hb HR.out HL.out (Str.ordsIn_nil _ _) nofun (by decide) (Hst.clean_ok _)
        rw [show Hst.hdo (⟨r, cc, cs, (kk : Int), false, ins⟩ : S) ⟨111, false, false, false, []⟩ = Hst.hclean (⟨r, cc, cs, (kk : Int), false, ins⟩ : S) from by simp [Hst.hdo]] at HDO
        have HHL := Lib.hid (Hst.hclean_length (⟨r, cc, cs, (kk : Int), false, ins⟩ : S))
        have hst : Hst.hclean (⟨r, cc, cs, (kk : Int), false, ins⟩ : S) = ⟨r, cc, (Hst.hclean (⟨r, cc, cs, (kk : Int), false, ins⟩ : S)).cs, Hst.curOf cs, false, false⟩ := rfl
        have HW := Lib.hid (show wall (⟨r, cc, cs, (kk : Int), false, ins⟩ : S) = ⟨r, cc, (Hst.hclean (⟨r, cc, cs, (kk : Int), false, ins⟩ : S)).cs, Hst.curOf cs, false, ins⟩ from rfl)
        simp only [Hst.ShownA] at HDO
        rw [hst] at HDO
        simp only at HDO HHL
        rw [HW.out] at HT
        clear hst HW hk2' hk9'
        generalize (Hst.hclean (⟨r, cc, cs, (kk : Int), false, ins⟩ : S)).cs = ts at *
        generalize Hst.curOf cs = cu at *
        replace HDO := Lib.hid HDO
        go_enter Tryz.func26, Tryz.ntmps26
        go_upto_region 1 with (fail)
        generalize (w.alloc _).alloc _ = w1 at *
        have hzx := Lib.hid (there_lt HZ.out)
        obtain ⟨c0, c1, c2, c3, c4, c5⟩ := cells6 HX.out
        go_wp2_with fail
        with_reducible refine (HDO.out _ HI.out).mono ?_
        rintro e w2 ⟨va, vc, rfl, hc, hb⟩
        clear c0 c1 c2 c3 c4 c5 HDO
        have HN := Lib.hid (show w.heap.size + 1 < w2.heap.size from there_lt (blk HZ.out hb))
        have HA := al_any w2 (.cells #[.int .i64 r, .int .i64 cc, .slice va ts.length vc, .int .i64 cu, .bool false, .bool false] 24)
        have B3 := Lib.hid (heap_alloc_new w2 (.cells #[.int .i64 r, .int .i64 cc, .slice va ts.length vc, .int .i64 cu, .bool false, .bool false] 24))
        have C3 := Lib.hid (hc.below HA)
        replace hb := kept_trans hb HA
        have X3 := Lib.hid (blk HX.out hb)
        have Z3 := Lib.hid (blk HZ.out hb)
        have K3 := Lib.hid (kept_trans HB.out hb)
        clear HA hc hb HX HZ HI HB hzx
        go_upto_region 7 with (fail)
        generalize w2.heap.size = N at *
        generalize w2.alloc _ = w3 at *
        obtain ⟨c0, c1, c2, c3, c4, c5⟩ := cells6 X3.out
        obtain ⟨d0, d1, d2, d3, d4, d5⟩ := cells6 B3.out
        obtain ⟨f0, f1, f2, f3, f4, f5⟩ := free6 B3.out
        have SO := gsetCell w3 N 5 (.bool ins)
        have B4 := Lib.hid (heap_setCell_same w3 N 5 _ 24 (.bool ins) B3.out)
        have Z4 := Lib.hid (blk_g Z3.out SO (by intro e; injection e with e; have := HN.out; omega))
        have HT0 := Lib.hid (show 0 < ts.length by rw [HHL.out]; exact HP.out)
        have C4 := Lib.hid (celsIn_away C3.out SO (fun y hy => (not_screen C3.out HT0.out B3.out y hy).1))
        have K4 := Lib.hid (below_grown K3.out SO (by have := HN.out; omega))
        clear SO
        go_upto_region 8 with (fail)
        clear c0 c1 c2 c3 c4 c5 d0 d1 d2 d3 d4 d5 f0 f1 f2 f3 f4 f5 B3 Z3 X3 C3 K3
        generalize w3.setCell _ _ = w4 at *
        obtain ⟨a0, a1, a2, a3, a4, a5⟩ := cells6 B4.out
        obtain ⟨f0, f1, f2, f3, f4, f5⟩ := free6 Z4.out
        obtain ⟨z0, z1, z2, z3, z4, z5⟩ := cells6 Z4.out
        have SF := Lib.hid (over6 w4 (w.heap.size + 1) _ _ _ _ _ _ _ (.int .i64 r) (.int .i64 cc) (.slice va ts.length vc) (.int .i64 cu) (.bool false) (.bool ins) Z4.out)
        go_wp2_with fail
        clear z0 z1 z2 z3 z4 z5 f0 f1 f2 f3 f4 f5 a0 a1 a2 a3 a4 a5
        generalize (((((w4.setCell _ _).setCell _ _).setCell _ _).setCell _ _).setCell _ _).setCell _ _ = w9 at *
        rw [HT.out]
        exact bodyPost_ret (v := .tuple #[.agg #[.int .i64 r, .int .i64 cc, .slice va ts.length vc, .int .i64 cu, .bool false, .bool ins], .int .i64 0, .int .i64 (-1)]) (results_cell_2 rfl _ _ _ (w.heap.size + 1) _ rfl (run_loadVar_row w9 (w.heap.size + 1) 24 24 _ (0, 0) _ SF.out.1 Tryz.underlying24 rfl (by kernel_rfl)) (.int .i64 0) (.int .i64 (-1)) rfl rfl) rfl ⟨va, vc, rfl, celsIn_away C4.out SF.out.2 (fun y hy => (not_screen C4.out HT0.out Z4.out y hy).1), below_grown K4.out SF.out.2 (by omega)⟩
      · have h14b : (kind == 14) = false := by simpa using h14
        have HOP := Lib.hid fun W hb => ropen_any (⟨r, cc, cs, (kk : Int), false, ins⟩ : S) ad k kk W hb HP.out (by simp only; have := HL.out; omega) HK.out
        simp only at HOP
        cases ho : open_ cs kk with
        | false =>
          have HT := Lib.hid (show wdo (⟨r, cc, cs, (kk : Int), false, ins⟩ : S) kind = (deny (⟨r, cc, cs, (kk : Int), false, ins⟩ : S), 8, (kk : Int)) from wdo_8 (s := (⟨r, cc, cs, (kk : Int), false, ins⟩ : S)) HWI.out rfl h14 ho)
          rw [ho] at HOP
          have HD := Lib.hid fun W hb => rdeny_any (⟨r, cc, cs, (kk : Int), false, ins⟩ : S) ad k W hb HL.out HP.out
          simp only [GaveA, deny] at HD HT
          clear ho h14
          go_enter Tryz.func26, Tryz.ntmps26
          go_upto_region 1 with (fail)
          generalize (w.alloc _).alloc _ = w1 at *
          obtain ⟨c0, c1, c2, c3, c4, c5⟩ := cells6 HX.out
          go_wp2_with fail
          with_reducible refine (HOP.out _ HI.out).mono ?_
          rintro e w2 ⟨rfl, hb⟩
          have X2 := Lib.hid (blk HX.out hb)
          have Z2 := Lib.hid (blk HZ.out hb)
          have I2 := Lib.hid (HI.out.below hb)
          have K2 := Lib.hid (kept_trans HB.out hb)
          clear c0 c1 c2 c3 c4 c5 hb HX HZ HI HB
          go_upto_region 10 with (fail)
          obtain ⟨c0, c1, c2, c3, c4, c5⟩ := cells6 X2.out
          first
            | go_region_with (first | (go_at_call 43; with_reducible refine (HD.out _ (I2.out.below (Below.refl _ _).drew)).mono ?_; rintro e w3 ⟨va, vc, rfl, ho, hb⟩; replace hb := kept_trans (Below.refl w2.heap.size w2).drew hb; obtain ⟨d0, d1, d2, d3, d4, d5⟩ := cells6 (blk X2.out hb); obtain ⟨z0, z1, z2, z3, z4, z5⟩ := cells6 (blk Z2.out hb); obtain ⟨f0, f1, f2, f3, f4, f5⟩ := free6 (blk Z2.out hb)))
            | fail "no"
          all_goals
            have Z3 := Lib.hid (blk Z2.out hb)
            have K3 := kept_hid K2 hb
            have O3 := Lib.hid ho.to
            have SF := Lib.hid (over6 w3 (w.heap.size + 1) _ _ _ _ _ _ _ (.int .i64 r) (.int .i64 cc) (.slice va cs.length vc) (.int .i64 (kk : Int)) (.bool true) (.bool ins) Z3.out)
            clear hb ho c0 c1 c2 c3 c4 c5 d0 d1 d2 d3 d4 d5 z0 z1 z2 z3 z4 z5 f0 f1 f2 f3 f4 f5
            generalize (((((w3.setCell _ _).setCell _ _).setCell _ _).setCell _ _).setCell _ _).setCell _ _ = w9 at *
            go_wp2_with fail
            rw [HT.out]
            exact bodyPost_ret (v := .tuple #[.agg #[.int .i64 r, .int .i64 cc, .slice va cs.length vc, .int .i64 (kk : Int), .bool true, .bool ins], .int .i64 8, .int .i64 (kk : Int)]) (results_cell_2 rfl _ _ _ (w.heap.size + 1) _ rfl (run_loadVar_row _ (w.heap.size + 1) 24 24 _ (0, 0) _ (by first | exact SF.out.1 | exact blk SF.out.1 (Below.refl _ _).drew) Tryz.underlying24 rfl (by kernel_rfl)) (.int .i64 8) (.int .i64 (kk : Int)) rfl rfl) rfl ⟨va, vc, rfl, by first | exact celsIn_away O3.out SF.out.2 (fun y hy => (not_screen O3.out HP.out Z3.out y hy).1) | exact (celsIn_away O3.out SF.out.2 (fun y hy => (not_screen O3.out HP.out Z3.out y hy).1)).below (Below.refl _ _).drew, by first | exact below_grown K3.out SF.out.2 (by omega) | exact kept_trans (below_grown K3.out SF.out.2 (by omega)) (Below.refl _ _).drew⟩
        | true =>
          have HT := Lib.hid (show wdo (⟨r, cc, cs, (kk : Int), false, ins⟩ : S) kind = (wl (⟨r, cc, cs, (kk : Int), false, ins⟩ : S) kk (wv (⟨r, cc, cs, (kk : Int), false, ins⟩ : S) kk kind), 0, -1) from wdo_0 (s := (⟨r, cc, cs, (kk : Int), false, ins⟩ : S)) HWI.out rfl h14 ho)
          have HTF := Lib.hid (show wl (⟨r, cc, cs, (kk : Int), false, ins⟩ : S) kk (wv (⟨r, cc, cs, (kk : Int), false, ins⟩ : S) kk kind) = ⟨r, cc, (wl (⟨r, cc, cs, (kk : Int), false, ins⟩ : S) kk (wv (⟨r, cc, cs, (kk : Int), false, ins⟩ : S) kk kind)).cs, (kk : Int), false, ins⟩ from rfl)
          rw [HTF.out] at HT
          have HFI := Lib.hid (show (wl (⟨r, cc, cs, (kk : Int), false, ins⟩ : S) kk (wv (⟨r, cc, cs, (kk : Int), false, ins⟩ : S) kk kind)).cs = wq (line cs kk) (wv (⟨r, cc, cs, (kk : Int), false, ins⟩ : S) kk kind) (modif (⟨r, cc, cs, (kk : Int), false, ins⟩ : S) kk).cs (line cs kk).length from rfl)
          have HWV := Lib.hid (show ∀ i, wv (⟨r, cc, cs, (kk : Int), false, ins⟩ : S) kk kind i = if kind = 12 ∧ i + 1 < (line cs kk).length then (cs.getD ((line cs kk).getD (i + 1) 0) noC).c else 0 from fun i => by
            rw [line_length]; rfl)
          have HLE := Lib.hid (show (line cs kk).length ≤ cs.length from by rw [line_length]; exact lineLen_le HK.out)
          have HLX := Lib.hid (fun x (hx : x ∈ line cs kk) => line_lt (cs := cs) HP.out hx)
          rw [ho] at HOP
          have HMY := Lib.hid fun W hb => rmodify_any (⟨r, cc, cs, (kk : Int), false, ins⟩ : S) ad k kk W hb HL.out HP.out HK.out
          have HML := Lib.hid (modif_length (⟨r, cc, cs, (kk : Int), false, ins⟩ : S) kk)
          have HMR := Lib.hid (modif_rest (⟨r, cc, cs, (kk : Int), false, ins⟩ : S) kk)
          simp only [GaveA] at HMY
          simp only at HML HMR
          rw [HMR.out.1, HMR.out.2.1, HMR.out.2.2.1, HMR.out.2.2.2.1, HMR.out.2.2.2.2] at HMY
          have HLN := Lib.hid fun W hb => rline_any (⟨r, cc, cs, (kk : Int), false, ins⟩ : S) ad k kk W hb HL.out HP.out HK.out
          simp only at HLN
          generalize (wl (⟨r, cc, cs, (kk : Int), false, ins⟩ : S) kk (wv (⟨r, cc, cs, (kk : Int), false, ins⟩ : S) kk kind)).cs = fc at *
          generalize wv (⟨r, cc, cs, (kk : Int), false, ins⟩ : S) kk kind = vf at *
          generalize (modif (⟨r, cc, cs, (kk : Int), false, ins⟩ : S) kk).cs = mc at *
          generalize line cs kk = L at *
          have HMP := Lib.hid (show 0 < mc.length by rw [HML.out]; exact HP.out)
          have HCP := Lib.hid fun va vc W (hb : CelsIn W (.slice va mc.length vc) mc) => rcopy_any (⟨r, cc, mc, (kk : Int), false, ins⟩ : S) va vc W hb (by simp only; rw [HML.out]; have := HL.out; omega)
          simp only [Copied] at HCP
          clear ho h14 HTF HMR
          go_enter Tryz.func26, Tryz.ntmps26
          go_upto_region 1 with (fail)
          generalize (w.alloc _).alloc _ = w1 at *
          obtain ⟨c0, c1, c2, c3, c4, c5⟩ := cells6 HX.out
          go_wp2_with fail
          with_reducible refine (HOP.out _ HI.out).mono ?_
          rintro e w2 ⟨rfl, hb⟩
          have X2 := Lib.hid (blk HX.out hb)
          have Z2 := Lib.hid (blk HZ.out hb)
          have I2 := Lib.hid (HI.out.below hb)
          have K2 := Lib.hid (kept_trans HB.out hb)
          clear c0 c1 c2 c3 c4 c5 hb HX HZ HI HB
          obtain ⟨c0, c1, c2, c3, c4, c5⟩ := cells6 X2.out
          go_wp2_with fail
          with_reducible refine (HMY.out _ I2.out).mono ?_
          rintro e w3 ⟨va, vc0, rfl, ho, hb⟩
          have X3 := Lib.hid (blk X2.out hb)
          have Z3 := Lib.hid (blk Z2.out hb)
          have I3 := Lib.hid (I2.out.below hb)
          have K3 := kept_hid K2 hb
          have O3 := Lib.hid ho.to
          clear c0 c1 c2 c3 c4 c5 hb ho X2 Z2 I2 K2 HMY
          go_wp2_with fail
          with_reducible refine (HCP.out _ _ _ O3.out).mono ?_
          rintro e w4 ⟨va2, vc, rfl, ho, hb⟩
          obtain ⟨g, e1, hg1, hg2, B5⟩ := Box.new (w0 := w3) (t := (⟨r, cc, mc, (kk : Int), false, ins⟩ : S)) ho HMP.out (Nat.le_refl _) hb
          subst e1
          have HN3 := Lib.hid (show w.heap.size + 1 < w3.heap.size from there_lt Z3.out)
          have HNG := Lib.hid (show w3.heap.size ≤ g ∧ g < w4.heap.size from ⟨hg1, hg2⟩)
          simp only at B5
          replace B5 := Lib.hid B5
          clear ho hb hg1 hg2 HCP O3
          go_upto_region 12 with (fail)
          generalize w4.heap.size = G at *
          generalize w4.alloc _ = w5 at *
          have X5 := Lib.hid (blk X3.out B5.out.kept)
          have I5 := Lib.hid (I3.out.below B5.out.kept)
          obtain ⟨c0, c1, c2, c3, c4, c5⟩ := cells6 X5.out
          go_wp2_with fail
          with_reducible refine (HLN.out _ I5.out).mono ?_
          rintro e w6 ⟨vl, rfl, hl6, hb⟩
          clear c0 c1 c2 c3 c4 c5 X5 I5 HLN
          obtain ⟨al, kl, rfl⟩ := hl6.form
          have B6 := Lib.hid (B5.out.below hb)
          have R6 := Lib.hid hl6
          have HG5 := Lib.hid (show g < w5.heap.size from by have := B5.out.lt; have := HNG.out; omega)
          clear hb hl6 B5
          go_wp2_with fail
          go_loopg [10] (L.length + 1) (fun mm ii wr => ∃ q : Nat, q ≤ L.length ∧ mm = L.length + 1 - q ∧ ii = .int .i64 q ∧ Hid (Box w3 wr G g vc ⟨r, cc, wq L vf mc q, (kk : Int), false, ins⟩) ∧ Hid (OwnInts wr w5.heap.size (.slice al L.length kl) L))
          case atStart => exact ⟨0, Nat.zero_le _, rfl, rfl, B6, R6⟩
          case round =>
            obtain ⟨q, hq, rfl, rfl, H4, R4⟩ := hrel
            clear B6 R6
            have ew : IntKind.i64.wrap ((q : Int) + 1) = (q : Int) + 1 := by
              have := HLE.out; have := HL.out
              rw [IntWalk.i64_in] <;> omega
            have X4 := Lib.hid (blk X3.out H4.out.kept)
            have I4 := Lib.hid (I3.out.below H4.out.kept)
            by_cases hlt : q < L.length
            · obtain ⟨gl, hal, hgl, _, l1, _⟩ := R4.out.cell hlt
              rw [Nat.zero_add] at l1
              have HWL := Lib.hid (wq_length L vf mc q)
              have HXL := Lib.hid (show L.getD q 0 < (wq L vf mc q).length by
                rw [wq_length, HML.out]
                exact HLX.out _ (by rw [List.getD_eq_getElem?_getD, List.getElem?_eq_getElem hlt]; exact List.getElem_mem hlt))
              have HQ := Lib.hid hlt
              have hi0 : (0 : Int) ≤ (q : Int) := by omega
              have hi1 : (q : Int) < (L.length : Int) := by omega
              obtain ⟨xf, xp, xn, xs, xm, xc, ex⟩ := c_eta ((wq L vf mc q).getD (L.getD q 0) noC)
              obtain ⟨⟨p0, p1, p2, p3, p4, p5⟩, _, _, _, _, _, z5⟩ := H4.out.spot HXL.out ex
              have HS := Lib.hid (show wq L vf mc (q + 1) = (wq L vf mc q).set (L.getD q 0) { (wq L vf mc q).getD (L.getD q 0) noC with c := vf q } from rfl)
              have H5 := H4.out.setc HXL.out (vf q)
              simp only at H5
              rw [← HS.out] at H5
              replace H5 := Lib.hid H5
              have R5 := Lib.hid (show OwnInts (wr.setCell ⟨g, L.getD q 0 * 6 + 5, none⟩ (.int .u8 ((vf q : Nat) : Int))) w5.heap.size (.slice al L.length kl) L from World.ownsRow.kept R4.out (gsetCell wr g (L.getD q 0 * 6 + 5) (.int .u8 ((vf q : Nat) : Int))) (.inr (by rw [hal]; intro e; have e1 : g = gl := Option.some.inj e.symm; have := HG5.out; omega)))
              obtain ⟨c0, c1, c2, c3, c4, c5⟩ := H4.out.cells
              obtain ⟨d0, d1, d2, d3, d4, d5⟩ := cells6 X4.out
              simp only [HWL.out] at c2
              have hx1 : ((L.getD q 0 : Nat) : Int) < (mc.length : Int) := by have := HXL.out; rw [HWL.out] at this; omega
              have hx0 : (0 : Int) ≤ ((L.getD q 0 : Nat) : Int) := by omega
              by_cases hc : kind = 12 ∧ q + 1 < L.length
              · have hv : vf q = (cs.getD (L.getD (q + 1) 0) noC).c := by rw [HWV.out, if_pos hc]
                have hk12 : (kind == 12) = true := by simp [hc.1]
                have hq1 : (q : Int) + 1 < (L.length : Int) := by have := hc.2; omega
                obtain ⟨gl', hal', _, _, l2, _⟩ := R4.out.cell hc.2
                rw [hal] at hal'
                injection hal' with hal'
                injection hal' with hal'
                subst hal'
                rw [Nat.zero_add] at l2
                have HYL := Lib.hid (HLX.out (L.getD (q + 1) 0) (by rw [List.getD_eq_getElem?_getD, List.getElem?_eq_getElem hc.2]; exact List.getElem_mem hc.2))
                obtain ⟨yf, yp, yn, ys, ym, yc, ey⟩ := c_eta (cs.getD (L.getD (q + 1) 0) noC)
                obtain ⟨b2, o2, had, g0, g1, g2, g3, g4, g5⟩ := I4.out.cells HYL.out ey
                have hy1 : ((L.getD (q + 1) 0 : Nat) : Int) < (cs.length : Int) := by have := HYL.out; omega
                have hy0 : (0 : Int) ≤ ((L.getD (q + 1) 0 : Nat) : Int) := by omega
                rw [ey] at hv
                simp only at hv
                have hh0 : (0 : Int) ≤ (q : Int) + 1 := by omega
                have l2' : wr.cell? ⟨gl, q + 1, none⟩ = some (.int .i64 ((L.getD (q + 1) 0 : Nat) : Int)) := l2
                rw [hv] at H5 R5
                clear hlt ex ey HS H4 HXL HWL HYL hc hv X4 I4
                generalize L.getD q 0 = x at *
                generalize L.getD (q + 1) 0 = y at *
                subst hal
                subst had
                go_upto_region 17 with (fail)
                go_region
                all_goals
                  have H6 := Lib.hid (H5.out.below (Below.refl _ _).drew)
                  have R6 := Lib.hid (R5.out.below (Below.refl _ _).drew)
                  clear c0 c1 c2 c3 c4 c5 d0 d1 d2 d3 d4 d5 p0 p1 p2 p3 p4 p5 z5 l1 l2 l2' g0 g1 g2 g3 g4 g5 H5 R5 R4
                  generalize (wr.setCell _ _).drew = w7 at *
                  go_wp2_with fail
                  go_roundg (L.length + 1 - (q + 1))
                  case measure => omega
                  case rel => exact ⟨q + 1, HQ.out, rfl, by first | rfl | go_num, H6, R6⟩
              · have hv : vf q = 0 := by rw [HWV.out, if_neg hc]
                rw [hv] at H5 R5
                simp only [show ((0 : Nat) : Int) = 0 from rfl] at H5 R5
                have hsp : (kind == 12) = false ∨ ((kind == 12) = true ∧ ¬ ((q : Int) + 1 < (L.length : Int))) := by
                  by_cases h12 : kind = 12
                  · exact .inr ⟨by simp [h12], fun h => hc ⟨h12, by omega⟩⟩
                  · exact .inl (by simpa using h12)
                clear hlt ex HS H4 HXL HWL hc hv X4 I4
                generalize L.getD q 0 = x at *
                subst hal
                rcases hsp with hk12 | ⟨hk12, hq1⟩
                all_goals
                  go_upto_region 18 with (fail)
                  go_region
                  all_goals
                    have H6 := Lib.hid (H5.out.below (Below.refl _ _).drew)
                    have R6 := Lib.hid (R5.out.below (Below.refl _ _).drew)
                    clear c0 c1 c2 c3 c4 c5 d0 d1 d2 d3 d4 d5 p0 p1 p2 p3 p4 p5 z5 l1 H5 R5 R4
                    generalize (wr.setCell _ _).drew = w7 at *
                    go_wp2_with fail
                    go_roundg (L.length + 1 - (q + 1))
                    case measure => omega
                    case rel => exact ⟨q + 1, HQ.out, rfl, by first | rfl | go_num, H6, R6⟩
            · obtain rfl : q = L.length := by omega
              have hn0 : ¬ (L.length : Int) < (L.length : Int) := by omega
              clear hlt
              rw [← HFI.out] at H4
              have Z4 := Lib.hid (blk Z3.out H4.out.kept)
              have K4 := Lib.hid (kept_trans K3.out H4.out.kept)
              have HFL := Lib.hid (show fc.length = cs.length from by rw [HFI.out, wq_length, HML.out])
              obtain ⟨a0, a1, a2, a3, a4, a5⟩ := H4.out.cells
              have C4 := Lib.hid H4.out.own.to
              simp only at a0 a1 a2 a3 a4 a5 C4
              obtain ⟨d0, d1, d2, d3, d4, d5⟩ := cells6 X4.out
              obtain ⟨f0, f1, f2, f3, f4, f5⟩ := free6 Z4.out
              obtain ⟨z0, z1, z2, z3, z4, z5⟩ := cells6 Z4.out
              have SF := Lib.hid (over6 wr (w.heap.size + 1) _ _ _ _ _ _ _ (.int .i64 r) (.int .i64 cc) (.slice (some ⟨g, 0, none⟩) fc.length vc) (.int .i64 (kk : Int)) (.bool false) (.bool ins) Z4.out)
              go_wp2_with fail
              clear z0 z1 z2 z3 z4 z5 f0 f1 f2 f3 f4 f5
              generalize (((((wr.setCell _ _).setCell _ _).setCell _ _).setCell _ _).setCell _ _).setCell _ _ = w9 at *
              rw [HT.out]
              exact bodyPost_ret (v := .tuple #[.agg #[.int .i64 r, .int .i64 cc, .slice (some ⟨g, 0, none⟩) fc.length vc, .int .i64 (kk : Int), .bool false, .bool ins], .int .i64 0, .int .i64 (-1)]) (results_cell_2 rfl _ _ _ (w.heap.size + 1) _ rfl (run_loadVar_row w9 (w.heap.size + 1) 24 24 _ (0, 0) _ SF.out.1 Tryz.underlying24 rfl (by kernel_rfl)) (.int .i64 0) (.int .i64 (-1)) rfl rfl) rfl ⟨some ⟨g, 0, none⟩, vc, rfl, celsIn_away C4.out SF.out.2 (fun y hy => (not_screen C4.out (by rw [HFL.out]; exact HP.out) Z4.out y hy).1), below_grown K4.out SF.out.2 (by omega)⟩
end Wip
end Go.Proofs.YtpgbnnnfeaodmaaGreatDoor
