/- The law FrameSeals. Written by tools/gen_frm_laws.py. -/
import Derived.Test.YtdiidfkmmgcjmaaDoorFrmAwake
import Derived.Test.YtdiidfkmmgcjmaaDoorFrmWr
import Derived.Test.YtdiidfkmmgcjmaaDoorFrmSeal
import Derived.Test.YtdiidfkmmgcjmaaDoorBunBase
import Derived.Deep.Cut
import Derived.Deep.LoopGhost
import Derived.Deep.RegionLaw
import Derived.Deep.RegionHeld3
import Derived.IntWalk
import Derived.Lib.SlBytesConst
import Derived.Lib.SmallJoins
namespace Go.Proofs.YtdiidfkmmgcjmaaDoor
open Go.RowKit Sha Six Apd Cut Err
set_option linter.unusedVariables false
set_option linter.unusedSimpArgs false
namespace Frm
set_option maxRecDepth 100000 in
set_option maxHeartbeats 8000000 in
theorem seals_core (key : List Nat) (f : F) (ka : Option Addr) (kc : Nat) (ba : Option Addr) (bc : Nat) (w : World) (hg : Handle w) (hk : Byts w ka kc key) (hf : Byts w ba bc f.b) :
    Calls Tryd.prog 3 #[.slice ka key.length kc, .agg #[.int .i64 f.d, .int .i64 f.q, .slice ba f.b.length bc]] w fun e w' => e = .returned (.bool true) ∧ Below w.heap.size w w' := by
  have HAW := Lib.hid fun W (hb : Below w.heap.size w W) => awake_any W (hand_of hg hb)
  have HCO := Lib.hid fun W n (hb : Below w.heap.size w W) => code_errn n W (hand_of hg hb)
  have HB := Lib.hid (al_any w (.cells #[.int .i64 f.d, .int .i64 f.q, .slice ba f.b.length bc] 24))
  have HX := Lib.hid (heap_alloc_new w (.cells #[.int .i64 f.d, .int .i64 f.q, .slice ba f.b.length bc] 24))
  have HK := Lib.hid hk
  have HF := Lib.hid hf
  have HWF := Lib.hid fun W => rwrong_any f ba bc W
  clear hg hk hf
  go_enter Tryd.func3, Tryd.ntmps3
  go_upto_region 1 with (fail)
  generalize w.alloc _ = w1 at *
  go_wp2_with fail
  with_reducible refine (HAW.out _ HB.out).mono ?_
  rintro e w2 ⟨rfl, hb⟩
  have X2 := Lib.hid (blk HX.out hb)
  have K2 := kept_hid HB hb
  clear hb HB HX
  obtain ⟨c0, c1, c2⟩ := cells3 X2.out
  by_cases hk : 200 < key.length
  · have hk' : decide ((200 : Int) < (key.length : Int)) = true := by simp; omega
    clear hk
    go_wp2_with fail
    with_reducible refine (HAW.out _ K2.out).mono ?_
    rintro e wq ⟨rfl, hb⟩
    have KE := kept_hid K2 hb
    clear hb
    go_wp2_with fail
    go_ret
    exact ⟨rfl, KE.out⟩
  · have hk' : decide ((200 : Int) < (key.length : Int)) = false := by simp; omega
    have HKL := Lib.hid (show key.length ≤ 200 by omega)
    clear hk
    by_cases hl : 1000 < f.b.length
    · have hl' : decide ((1000 : Int) < (f.b.length : Int)) = true := by simp; omega
      clear hl
      go_wp2_with fail
      with_reducible refine (HAW.out _ K2.out).mono ?_
      rintro e wq ⟨rfl, hb⟩
      have KE := kept_hid K2 hb
      clear hb
      go_wp2_with fail
      go_ret
      exact ⟨rfl, KE.out⟩
    · have hl' : decide ((1000 : Int) < (f.b.length : Int)) = false := by simp; omega
      have HBL := Lib.hid (show f.b.length ≤ 1000 by omega)
      clear hl
      have Q1 := Lib.hid fun W (hb : Below w.heap.size w W) => fseal_any key f ka kc ba bc W (HK.out.below hb) (HF.out.below hb) (by have := HKL.out; omega) (by have := HBL.out; omega)
      rcases wrong_cases f with hwf | hwf | hwf
      · rw [hwf] at HWF Q1
        have HW1 := Lib.hid hwf
        have e1 : sealB key f = seal_ key f := by unfold sealB; rw [if_pos hwf]
        rw [e1] at Q1
        simp only [GaveS, errn_0] at Q1
        have H81 := Lib.hid (seal_small key (wrong_ok hwf).1 HF.out.small)
        have HL1 := Lib.hid (show (seal_ key f).length < 1000000 by rw [seal_len]; have := HBL.out; omega)
        have QR := Lib.hid fun W (hb : Below w.heap.size w W) => rseal_any f key ka key.length kc ba bc W HKL.out rfl HK.out.small (HK.out.below hb).at_ HK.out.nil (HF.out.below hb).at_ HF.out.small HF.out.nil HW1.out
        have HSA := Lib.hid fun W v1 v2 (h1 : BytesIn W v1 (seal_ key f)) (h2 : BytesIn W v2 (seal_ key f)) => Sam.same_any v1 v2 _ W h1 h2 H81.out HL1.out
        generalize seal_ key f = sf at *
        clear hwf e1
        go_wp2_with fail
        with_reducible refine (Q1.out _ K2.out).mono ?_
        rintro e w3 ⟨v1, k1, rfl, ho, hb⟩
        have O3 := Lib.hid ho
        have X3 := Lib.hid (blk X2.out hb)
        have K3 := kept_hid K2 hb
        clear hb ho X2 K2 c0 c1 c2 Q1 hk' hl'
        obtain ⟨c0, c1, c2⟩ := cells3 X3.out
        go_wp2_with fail
        with_reducible refine (HWF.out _).mono ?_
        rintro e w4 ⟨rfl, hb⟩
        have O4 := Lib.hid (own_below O3.out hb)
        have X4 := Lib.hid (blk X3.out hb)
        have K4 := kept_hid K3 hb
        clear hb O3 X3 K3 c0 c1 c2 HWF
        obtain ⟨c0, c1, c2⟩ := cells3 X4.out
        go_wp2_with fail
        with_reducible refine (QR.out _ K4.out).mono ?_
        rintro e w5 ⟨v2, k2, rfl, ho, hb⟩
        have K5 := kept_hid K4 hb
        have HS5 := Lib.hid (HSA.out w5 _ _ (bytes_below (own_bytes O4.out) hb) (own_bytes ho))
        clear hb ho O4 c0 c1 c2 QR
        go_wp2_with fail
        with_reducible refine HS5.out.mono ?_
        rintro e w6 ⟨rfl, j, rfl⟩
        go_wp2_with fail
        go_ret
        exact ⟨rfl, kept_trans K5.out (Six.below_drewN _ _ _)⟩
      · rw [hwf] at HWF Q1
        have e1 : sealB key f = [] := by unfold sealB; rw [if_neg (by rw [hwf]; decide)]
        rw [e1] at Q1
        simp only [GaveS] at Q1
        clear hwf e1
        go_wp2_with fail
        with_reducible refine (Q1.out _ K2.out).mono ?_
        rintro e w3 ⟨v1, k1, rfl, ho, hb⟩
        have O3 := Lib.hid ho
        have X3 := Lib.hid (blk X2.out hb)
        have K3 := kept_hid K2 hb
        clear hb ho X2 K2 c0 c1 c2 Q1 hk' hl'
        obtain ⟨c0, c1, c2⟩ := cells3 X3.out
        go_wp2_with fail
        with_reducible refine (HWF.out _).mono ?_
        rintro e w4 ⟨rfl, hb⟩
        have O4 := Lib.hid (own_below O3.out hb)
        have X4 := Lib.hid (blk X3.out hb)
        have K4 := kept_hid K3 hb
        clear hb O3 X3 K3 c0 c1 c2 HWF
        go_wp2_with fail
        with_reducible refine (HCO.out _ 1 K4.out).mono ?_
        rintro e w5 ⟨rfl, hb⟩
        have K5 := kept_hid K4 hb
        clear hb
        go_wp2_with fail
        go_ret
        exact ⟨rfl, K5.out⟩
      · rw [hwf] at HWF Q1
        have e1 : sealB key f = [] := by unfold sealB; rw [if_neg (by rw [hwf]; decide)]
        rw [e1] at Q1
        simp only [GaveS] at Q1
        clear hwf e1
        go_wp2_with fail
        with_reducible refine (Q1.out _ K2.out).mono ?_
        rintro e w3 ⟨v1, k1, rfl, ho, hb⟩
        have O3 := Lib.hid ho
        have X3 := Lib.hid (blk X2.out hb)
        have K3 := kept_hid K2 hb
        clear hb ho X2 K2 c0 c1 c2 Q1 hk' hl'
        obtain ⟨c0, c1, c2⟩ := cells3 X3.out
        go_wp2_with fail
        with_reducible refine (HWF.out _).mono ?_
        rintro e w4 ⟨rfl, hb⟩
        have O4 := Lib.hid (own_below O3.out hb)
        have X4 := Lib.hid (blk X3.out hb)
        have K4 := kept_hid K3 hb
        clear hb O3 X3 K3 c0 c1 c2 HWF
        go_wp2_with fail
        with_reducible refine (HCO.out _ 6 K4.out).mono ?_
        rintro e w5 ⟨rfl, hb⟩
        have K5 := kept_hid K4 hb
        clear hb
        go_wp2_with fail
        go_ret
        exact ⟨rfl, K5.out⟩
end Frm
end Go.Proofs.YtdiidfkmmgcjmaaDoor
