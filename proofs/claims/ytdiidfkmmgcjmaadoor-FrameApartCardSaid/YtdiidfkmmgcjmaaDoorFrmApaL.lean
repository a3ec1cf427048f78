/- The law FrameApart. Written by tools/gen_frm_laws.py. -/
import Derived.Test.YtdiidfkmmgcjmaaDoorFrmAwake
import Derived.Test.YtdiidfkmmgcjmaaDoorFrmWr
import Derived.Test.YtdiidfkmmgcjmaaDoorFrmSam
import Derived.Test.YtdiidfkmmgcjmaaDoorBunBase
import Derived.Deep.Cut
import Derived.Deep.LoopGhost
import Derived.Deep.RegionLaw
import Derived.Deep.RegionHeld3
import Derived.IntWalk
import Derived.Lib.SlBytesConst
import Derived.Lib.SmallJoins
namespace Go.Proofs.YtdiidfkmmgcjmaaDoor
open Go.RowKit Sha Six Apd Cut Err
set_option linter.unusedVariables false
set_option linter.unusedSimpArgs false
namespace Frm
set_option maxRecDepth 100000 in
set_option maxHeartbeats 8000000 in
theorem apart_core (key : List Nat) (f g : F) (ka : Option Addr) (kc : Nat) (ba : Option Addr) (bc : Nat) (ca : Option Addr) (cc : Nat) (w : World) (hg : Handle w) (hk : Byts w ka kc key) (hf : Byts w ba bc f.b) (hgb : Byts w ca cc g.b) :
    Calls Tryd.prog 7 #[.slice ka key.length kc, .agg #[.int .i64 f.d, .int .i64 f.q, .slice ba f.b.length bc], .agg #[.int .i64 g.d, .int .i64 g.q, .slice ca g.b.length cc]] w fun e w' => e = .returned (.bool true) ∧ Below w.heap.size w w' := by
  have HAW := Lib.hid fun W (hb : Below w.heap.size w W) => awake_any W (hand_of hg hb)
  have HB := Lib.hid (kept_trans (al_any w (.cells #[.int .i64 f.d, .int .i64 f.q, .slice ba f.b.length bc] 24)) (al_any (w.alloc (.cells #[.int .i64 f.d, .int .i64 f.q, .slice ba f.b.length bc] 24)) (.cells #[.int .i64 g.d, .int .i64 g.q, .slice ca g.b.length cc] 24)))
  have HX := Lib.hid (heap_alloc2_old w (.cells #[.int .i64 f.d, .int .i64 f.q, .slice ba f.b.length bc] 24) (.cells #[.int .i64 g.d, .int .i64 g.q, .slice ca g.b.length cc] 24))
  have HY := Lib.hid (heap_alloc2_new w (.cells #[.int .i64 f.d, .int .i64 f.q, .slice ba f.b.length bc] 24) (.cells #[.int .i64 g.d, .int .i64 g.q, .slice ca g.b.length cc] 24))
  have HK := Lib.hid hk
  have HF := Lib.hid hf
  have HGB := Lib.hid hgb
  have HWF := Lib.hid fun W => rwrong_any f ba bc W
  have HWG := Lib.hid fun W => rwrong_any g ca cc W
  clear hg hk hf hgb
  go_enter Tryd.func7, Tryd.ntmps7
  go_upto_region 1 with (fail)
  generalize (w.alloc _).alloc _ = w1 at *
  go_wp2_with fail
  with_reducible refine (HAW.out _ HB.out).mono ?_
  rintro e w2 ⟨rfl, hb⟩
  have X2 := Lib.hid (blk HX.out hb)
  have Y2 := Lib.hid (blk HY.out hb)
  have K2 := kept_hid HB hb
  clear hb HB HX HY
  by_cases hk : 200 < key.length
  · have hk' : decide ((200 : Int) < (key.length : Int)) = true := by simp; omega
    clear hk
    go_wp2_with fail
    with_reducible refine (HAW.out _ K2.out).mono ?_
    rintro e wq ⟨rfl, hb⟩
    have KE := kept_hid K2 hb
    clear hb
    go_wp2_with fail
    go_ret
    exact ⟨rfl, KE.out⟩
  · have hk' : decide ((200 : Int) < (key.length : Int)) = false := by simp; omega
    have HKL := Lib.hid (show key.length ≤ 200 by omega)
    clear hk
    rcases wrong_cases f with hwf | hwf | hwf
    · rw [hwf] at HWF
      have HW1 := Lib.hid hwf
      clear hwf
      obtain ⟨c0, c1, c2⟩ := cells3 X2.out
      go_wp2_with fail
      with_reducible refine (HWF.out _).mono ?_
      rintro e w3 ⟨rfl, hb⟩
      have X3 := Lib.hid (blk X2.out hb)
      have Y3 := Lib.hid (blk Y2.out hb)
      have K3 := kept_hid K2 hb
      clear hb X2 Y2 K2 c0 c1 c2 hk' HWF
      rcases wrong_cases g with hwg | hwg | hwg
      · rw [hwg] at HWG
        have HW2 := Lib.hid hwg
        clear hwg
        obtain ⟨d0, d1, d2⟩ := cells3 Y3.out
        go_wp2_with fail
        with_reducible refine (HWG.out _).mono ?_
        rintro e w4 ⟨rfl, hb⟩
        have X4 := Lib.hid (blk X3.out hb)
        have Y4 := Lib.hid (blk Y3.out hb)
        have K4 := kept_hid K3 hb
        clear hb X3 Y3 K3 d0 d1 d2 HWG
        have HB1 := Lib.hid (show f.b.length < 1000000 by have := (wrong_ok HW1.out).2.2.2; omega)
        have HB2 := Lib.hid (show g.b.length < 1000000 by have := (wrong_ok HW2.out).2.2.2; omega)
        have Q1 := Lib.hid fun W (hb : Below w.heap.size w W) => fseal_any key f ka kc ba bc W (HK.out.below hb) (HF.out.below hb) (by have := HKL.out; omega) HB1.out
        have Q2 := Lib.hid fun W (hb : Below w.heap.size w W) => fseal_any key g ka kc ca cc W (HK.out.below hb) (HGB.out.below hb) (by have := HKL.out; omega) HB2.out
        rw [HW1.out] at Q1
        rw [HW2.out] at Q2
        have e1 : sealB key f = seal_ key f := by unfold sealB; rw [if_pos HW1.out]
        have e2 : sealB key g = seal_ key g := by unfold sealB; rw [if_pos HW2.out]
        rw [e1] at Q1
        rw [e2] at Q2
        simp only [GaveS, errn_0] at Q1 Q2
        clear e1 e2
        have HEQ := Lib.hid (show decide (seal_ key f = seal_ key g) = same f g from by
          rw [Bool.eq_iff_iff, decide_eq_true_eq, same_iff]
          exact ⟨fun h => seal_inj HW1.out HW2.out h, fun h => by rw [h]⟩)
        have H81 := Lib.hid (seal_small key (wrong_ok HW1.out).1 HF.out.small)
        have H82 := Lib.hid (seal_small key (wrong_ok HW2.out).1 HGB.out.small)
        have HL1 := Lib.hid (show (seal_ key f).length < 1000000 by rw [seal_len]; have := HB1.out; have := (wrong_ok HW1.out).2.2.2; omega)
        have HSA := Lib.hid fun W v1 v2 (h1 : BytesIn W v1 (seal_ key f)) (h2 : BytesIn W v2 (seal_ key g)) => Sam.same_gen v1 v2 _ _ W h1 h2 H81.out H82.out HL1.out
        rw [HEQ.out] at HSA
        have HSF := Lib.hid fun W (hb : Below w.heap.size w W) => rsame_any f g ba f.b.length bc ca g.b.length cc W (HF.out.below hb).at_ (HGB.out.below hb).at_ HF.out.small HGB.out.small HB1.out
        generalize seal_ key f = sf at *
        generalize seal_ key g = sg at *
        obtain ⟨c0, c1, c2⟩ := cells3 X4.out
        go_wp2_with fail
        with_reducible refine (Q1.out _ K4.out).mono ?_
        rintro e w5 ⟨v1, k1, rfl, ho, hb⟩
        have S5 := Lib.hid (own_bytes ho)
        have X5 := Lib.hid (blk X4.out hb)
        have Y5 := Lib.hid (blk Y4.out hb)
        have K5 := kept_hid K4 hb
        clear hb ho X4 Y4 K4 c0 c1 c2 Q1
        obtain ⟨d0, d1, d2⟩ := cells3 Y5.out
        go_wp2_with fail
        with_reducible refine (Q2.out _ K5.out).mono ?_
        rintro e w6 ⟨v2, k2, rfl, ho, hb⟩
        have S6 := Lib.hid (bytes_below S5.out hb)
        have T6 := Lib.hid (own_bytes ho)
        have X6 := Lib.hid (blk X5.out hb)
        have Y6 := Lib.hid (blk Y5.out hb)
        have K6 := kept_hid K5 hb
        clear hb ho X5 Y5 K5 S5 d0 d1 d2 Q2
        have HSX := Lib.hid (show ∀ W', Below w6.heap.size w6 W' → Below w6.heap.size w6 W' ∧ (W'.cell? ⟨w.heap.size, 0, none⟩ = some (.int .i64 f.d) ∧ W'.cell? ⟨w.heap.size, 1, none⟩ = some (.int .i64 f.q) ∧ W'.cell? ⟨w.heap.size, 2, none⟩ = some (.slice ba f.b.length bc)) ∧ (W'.cell? ⟨w.heap.size + 1, 0, none⟩ = some (.int .i64 g.d) ∧ W'.cell? ⟨w.heap.size + 1, 1, none⟩ = some (.int .i64 g.q) ∧ W'.cell? ⟨w.heap.size + 1, 2, none⟩ = some (.slice ca g.b.length cc)) from fun W' hW => ⟨hW, cells3 (blk X6.out hW), cells3 (blk Y6.out hW)⟩)
        generalize same f g = r at HSA HSF
        go_upto_region 5 with (fail)
        cases r
        · go_region_held3 (fun W' => Below w6.heap.size w6 W' ∧ (W'.cell? ⟨w.heap.size, 0, none⟩ = some (.int .i64 f.d) ∧ W'.cell? ⟨w.heap.size, 1, none⟩ = some (.int .i64 f.q) ∧ W'.cell? ⟨w.heap.size, 2, none⟩ = some (.slice ba f.b.length bc)) ∧ (W'.cell? ⟨w.heap.size + 1, 0, none⟩ = some (.int .i64 g.d) ∧ W'.cell? ⟨w.heap.size + 1, 1, none⟩ = some (.int .i64 g.q) ∧ W'.cell? ⟨w.heap.size + 1, 2, none⟩ = some (.slice ca g.b.length cc)))
            ((refine HSX.out _ ?_; first | with_reducible exact (Below.refl _ _).drew | with_reducible exact (Below.refl _ _) | with_reducible exact (And.left (by assumption)) | with_reducible exact kept_trans (And.left (by assumption)) (below_drewN _ _ _) | with_reducible exact Six.below_drewN _ _ _ | (with_reducible exact kept_trans (And.left (by assumption)) (by assumption))))
            (first
              | (go_at_call 12; with_reducible refine (HSA.out _ _ _ (bytes_below S6.out (And.left (by assumption))) (bytes_below T6.out (And.left (by assumption)))).mono ?_; rintro e ws ⟨rfl, j, rfl⟩)
              | (go_at_call 15; with_reducible refine (HSF.out _ (kept_trans K6.out (And.left (by assumption)))).mono ?_; rintro e wt ⟨rfl, hbs⟩))
          have hS := And.left (by assumption : Below w6.heap.size w6 wt ∧ _)
          have KF := kept_hid K6 hS
          clear hS
          go_wp2_with fail
          go_ret
          exact ⟨rfl, KF.out⟩
        · go_region_held3 (fun W' => Below w6.heap.size w6 W' ∧ (W'.cell? ⟨w.heap.size, 0, none⟩ = some (.int .i64 f.d) ∧ W'.cell? ⟨w.heap.size, 1, none⟩ = some (.int .i64 f.q) ∧ W'.cell? ⟨w.heap.size, 2, none⟩ = some (.slice ba f.b.length bc)) ∧ (W'.cell? ⟨w.heap.size + 1, 0, none⟩ = some (.int .i64 g.d) ∧ W'.cell? ⟨w.heap.size + 1, 1, none⟩ = some (.int .i64 g.q) ∧ W'.cell? ⟨w.heap.size + 1, 2, none⟩ = some (.slice ca g.b.length cc)))
            ((refine HSX.out _ ?_; first | with_reducible exact (Below.refl _ _).drew | with_reducible exact (Below.refl _ _) | with_reducible exact (And.left (by assumption)) | with_reducible exact kept_trans (And.left (by assumption)) (below_drewN _ _ _) | with_reducible exact Six.below_drewN _ _ _ | (with_reducible exact kept_trans (And.left (by assumption)) (by assumption))))
            (first
              | (go_at_call 12; with_reducible refine (HSA.out _ _ _ (bytes_below S6.out (And.left (by assumption))) (bytes_below T6.out (And.left (by assumption)))).mono ?_; rintro e ws ⟨rfl, j, rfl⟩)
              | (go_at_call 15; with_reducible refine (HSF.out _ (kept_trans K6.out (And.left (by assumption)))).mono ?_; rintro e wt ⟨rfl, hbs⟩))
          have hS := And.left (by assumption : Below w6.heap.size w6 wt ∧ _)
          have KF := kept_hid K6 hS
          clear hS
          go_wp2_with fail
          go_ret
          exact ⟨rfl, KF.out⟩
      · rw [hwg] at HWG
        clear hwg
        obtain ⟨d0, d1, d2⟩ := cells3 Y3.out
        go_wp2_with fail
        with_reducible refine (HWG.out _).mono ?_
        rintro e w4 ⟨rfl, hb⟩
        have X4 := Lib.hid (blk X3.out hb)
        have Y4 := Lib.hid (blk Y3.out hb)
        have K4 := kept_hid K3 hb
        clear hb X3 Y3 K3 d0 d1 d2 HWG
        go_wp2_with fail
        with_reducible refine (HAW.out _ K4.out).mono ?_
        rintro e wq ⟨rfl, hb⟩
        have KE := kept_hid K4 hb
        clear hb
        go_wp2_with fail
        go_ret
        exact ⟨rfl, KE.out⟩
      · rw [hwg] at HWG
        clear hwg
        obtain ⟨d0, d1, d2⟩ := cells3 Y3.out
        go_wp2_with fail
        with_reducible refine (HWG.out _).mono ?_
        rintro e w4 ⟨rfl, hb⟩
        have X4 := Lib.hid (blk X3.out hb)
        have Y4 := Lib.hid (blk Y3.out hb)
        have K4 := kept_hid K3 hb
        clear hb X3 Y3 K3 d0 d1 d2 HWG
        go_wp2_with fail
        with_reducible refine (HAW.out _ K4.out).mono ?_
        rintro e wq ⟨rfl, hb⟩
        have KE := kept_hid K4 hb
        clear hb
        go_wp2_with fail
        go_ret
        exact ⟨rfl, KE.out⟩
    · rw [hwf] at HWF
      clear hwf
      obtain ⟨c0, c1, c2⟩ := cells3 X2.out
      go_wp2_with fail
      with_reducible refine (HWF.out _).mono ?_
      rintro e w3 ⟨rfl, hb⟩
      have X3 := Lib.hid (blk X2.out hb)
      have Y3 := Lib.hid (blk Y2.out hb)
      have K3 := kept_hid K2 hb
      clear hb X2 Y2 K2 c0 c1 c2 hk' HWF
      go_wp2_with fail
      with_reducible refine (HAW.out _ K3.out).mono ?_
      rintro e wq ⟨rfl, hb⟩
      have KE := kept_hid K3 hb
      clear hb
      go_wp2_with fail
      go_ret
      exact ⟨rfl, KE.out⟩
    · rw [hwf] at HWF
      clear hwf
      obtain ⟨c0, c1, c2⟩ := cells3 X2.out
      go_wp2_with fail
      with_reducible refine (HWF.out _).mono ?_
      rintro e w3 ⟨rfl, hb⟩
      have X3 := Lib.hid (blk X2.out hb)
      have Y3 := Lib.hid (blk Y2.out hb)
      have K3 := kept_hid K2 hb
      clear hb X2 Y2 K2 c0 c1 c2 hk' HWF
      go_wp2_with fail
      with_reducible refine (HAW.out _ K3.out).mono ?_
      rintro e wq ⟨rfl, hb⟩
      have KE := kept_hid K3 hb
      clear hb
      go_wp2_with fail
      go_ret
      exact ⟨rfl, KE.out⟩
end Frm
end Go.Proofs.YtdiidfkmmgcjmaaDoor
