/- The law FrameKeeps. Written by tools/gen_frm_laws.py. -/
import Derived.Test.YtdiidfkmmgcjmaaDoorFrmAwake
import Derived.Test.YtdiidfkmmgcjmaaDoorBunBase
import Derived.Deep.Cut
import Derived.Deep.LoopGhost
import Derived.Deep.RegionLaw
import Derived.Deep.RegionHeld3
import Derived.IntWalk
import Derived.Lib.SlBytesConst
import Derived.Lib.SmallJoins
namespace Go.Proofs.YtdiidfkmmgcjmaaDoor
open Go.RowKit Sha Six Apd Cut Err
set_option linter.unusedVariables false
set_option linter.unusedSimpArgs false
namespace Frm
set_option maxRecDepth 100000 in
set_option maxHeartbeats 8000000 in
theorem keeps_core (key body : List Nat) (ka : Option Addr) (kc : Nat) (ba : Option Addr) (bc : Nat) (w : World) (hg : Handle w) (hk : Byts w ka kc key) (hf : Byts w ba bc body) :
    Calls Tryd.prog 6 #[.slice ka key.length kc, .slice ba body.length bc] w fun e w' => e = .returned (.bool true) ∧ Below w.heap.size w w' := by
  have HAW := Lib.hid fun W (hb : Below w.heap.size w W) => awake_any W (hand_of hg hb)
  have HK := Lib.hid hk
  have HF := Lib.hid hf
  clear hg hk hf
  go_enter Tryd.func6, Tryd.ntmps6
  go_wp2_with fail
  with_reducible refine (HAW.out _ (Below.refl _ _)).mono ?_
  rintro e w2 ⟨rfl, hb⟩
  have K2 := Lib.hid hb
  clear hb
  by_cases hk : 200 < key.length
  · have hk' : decide ((200 : Int) < (key.length : Int)) = true := by simp; omega
    clear hk
    go_wp2_with fail
    with_reducible refine (HAW.out _ K2.out).mono ?_
    rintro e wq ⟨rfl, hb⟩
    have KE := kept_hid K2 hb
    clear hb
    go_wp2_with fail
    go_ret
    exact ⟨rfl, KE.out⟩
  · have hk' : decide ((200 : Int) < (key.length : Int)) = false := by simp; omega
    have HKL := Lib.hid (show key.length ≤ 200 by omega)
    clear hk
    by_cases hl : 400 < body.length
    · have hl' : decide ((400 : Int) < (body.length : Int)) = true := by simp; omega
      clear hl
      go_wp2_with fail
      with_reducible refine (HAW.out _ K2.out).mono ?_
      rintro e wq ⟨rfl, hb⟩
      have KE := kept_hid K2 hb
      clear hb
      go_wp2_with fail
      go_ret
      exact ⟨rfl, KE.out⟩
    · have hl' : decide ((400 : Int) < (body.length : Int)) = false := by simp; omega
      have HBL := Lib.hid (show body.length ≤ 400 by omega)
      clear hl HAW
      have HWR := Lib.hid (show wrong ⟨1, 7, body⟩ = 0 from by unfold wrong; rw [if_neg (by simp only; omega), if_neg (by simp only; have := HBL.out; omega)])
      have HA := al_any w2 (.cells #[] 5)
      have O3 := Lib.hid (own_lit w2 w2.heap.size [] (Nat.le_refl _) (by decide))
      have K3 := kept_hid K2 HA
      have B3 := Lib.hid ((HF.out.below K2.out).below HA)
      have L3 := Lib.hid HA.size
      clear HA
      go_wp2_with (at_builtin; refine wpList_mark ?_)
      clear hk' hl'
      refine Lib.hid ?_
      refine append_own rfl (.tmp 25) (.tmp 26) rfl w2.heap.size (.slice (some ⟨w2.heap.size, 0, none⟩) 0 0) 0 [] rfl O3.out ba body.length bc body rfl rfl B3.out.nil (bytes_src B3.out.at_) (by have := HBL.out; omega) L3.out ?_
      intro v' w4 hown hgr _
      have HG3 := own_ge O3.out
      have O4 := Lib.hid (show w4.ownsRow w2.heap.size 5 1 v' body.length (u8s body) from by rw [Nat.zero_add, List.nil_append] at hown; exact hown)
      have K4 := Lib.hid (K3.out.grown hgr K3.out.size (fun g hg => Nat.le_trans K2.out.size (HG3 g hg)))
      obtain ⟨va, vc, rfl⟩ := own_form O4.out
      clear hown hgr HG3 O3 K3 B3 L3
      have Q1 := Lib.hid (fseal_any key ⟨1, 7, body⟩ ka kc va vc w4 (HK.out.below K4.out) (byts_own O4.out HF.out.small) (by have := HKL.out; omega) (by have := HBL.out; show body.length < 1000000; omega))
      rw [HWR.out] at Q1
      have e1 : sealB key ⟨1, 7, body⟩ = seal_ key ⟨1, 7, body⟩ := by unfold sealB; rw [if_pos HWR.out]
      rw [e1] at Q1
      simp only [GaveS, errn_0] at Q1
      have HOP := Lib.hid (open_seal key HWR.out)
      have H8 := Lib.hid (seal_small (f := ⟨1, 7, body⟩) key (.inr rfl) HF.out.small)
      have HSL := Lib.hid (show (seal_ key ⟨1, 7, body⟩).length < 1000 by rw [seal_len]; have := HBL.out; show body.length + 26 < 1000; omega)
      generalize seal_ key ⟨1, 7, body⟩ = sl at *
      clear e1
      go_wp2_with fail
      with_reducible refine Q1.out.mono ?_
      rintro e w5 ⟨v1, k1, rfl, ho, hb⟩
      have S5 := Lib.hid ho
      have O5 := Lib.hid (own_below O4.out hb)
      have K5 := kept_hid K4 hb
      have K4s := Lib.hid K4.out.size
      clear hb ho O4 K4 Q1
      have QS := Lib.hid (Sam.same_any _ _ body w5 (own_bytes O5.out) (HF.out.below K5.out).at_ HF.out.small (by have := HBL.out; omega))
      go_wp2_with fail
      with_reducible refine QS.out.mono ?_
      rintro e w6 ⟨rfl, j, rfl⟩
      have HD := (show Below w5.heap.size w5 (w5.drewN j) from Six.below_drewN _ _ _)
      have S6 := Lib.hid (own_below S5.out HD)
      have K6 := kept_hid K5 HD
      generalize w5.drewN j = w6 at *
      clear HD QS S5 O5 K5
      have Q2 := Lib.hid (fopen_any key sl 1 ka kc v1 k1 w6 (HK.out.below K6.out) (byts_own S6.out H8.out) (by have := HKL.out; omega) (by have := HSL.out; omega) rfl)
      rw [HOP.out] at Q2
      simp only [GaveF, errn_0] at Q2
      go_wp2_with fail
      with_reducible refine Q2.out.mono ?_
      rintro e w7 ⟨v2, k2, rfl, ho, hb⟩
      have HA := al_any w7 (.cells #[.int .i64 1, .int .i64 7, .slice v2 body.length k2] 24)
      have Y8 := Lib.hid (heap_alloc_new w7 (.cells #[.int .i64 1, .int .i64 7, .slice v2 body.length k2] 24))
      have F8 := Lib.hid (own_below ho HA)
      have S8 := Lib.hid (own_below S6.out (kept_trans hb HA))
      have K8 := kept_hid K6 (kept_trans hb HA)
      have L8 := Lib.hid (show w6.heap.size ≤ w7.heap.size from hb.size)
      have SL := Lib.hid (show ∀ x, v1 = some x → x.block < w6.heap.size from fun x hx => (own_blocks S6.out x hx).2)
      have V8 := Lib.hid (show World.ownsRow _ w4.heap.size 5 1 (.slice v1 sl.length k1) sl.length (u8s (flipTo sl 0)) from by simpa [flipTo] using S8.out)
      clear HA hb ho Q2 S6 K6 HOP S8
      go_upto_region 7 with (fail)
      generalize w7.heap.size = N7 at *
      generalize w7.alloc _ = w8 at *
      go_wp2_with fail
      go_loopg [11] (sl.length + 1) (fun n i wr => ∃ q : Nat, q ≤ sl.length ∧ n = sl.length + 1 - q ∧ i = .int .i64 q ∧ Hid (wr.ownsRow w4.heap.size 5 1 (.slice v1 sl.length k1) sl.length (u8s (flipTo sl q))) ∧ Hid (wr.heap[N7]? = some (.cells #[.int .i64 1, .int .i64 7, .slice v2 body.length k2] 24 (0, 0))) ∧ Hid (wr.ownsRow w6.heap.size 5 1 (.slice v2 body.length k2) body.length (u8s body)) ∧ Hid (Below w.heap.size w wr))
      case atStart => exact ⟨0, Nat.zero_le _, rfl, rfl, V8, Y8, F8, K8⟩
      case round =>
        clear V8 Y8 F8 K8
        obtain ⟨q, hq, rfl, rfl, VR, YR, FR, KR⟩ := hrel
        by_cases hlt : q < sl.length
        · obtain ⟨g, x0, rfl, hgl, c0, f0⟩ := own_at3 VR.out hlt
          have HF2 := flip_at hlt
          rw [HF2.1] at c0
          have HF2 := Lib.hid HF2.2
          have hz := byte_lt H8.out (by decide) q
          have HQ := Lib.hid (own_put (i := q) (v := sl.getD q 0 ^^^ 255) VR.out)
          rw [HF2.out] at HQ
          have HGE := Lib.hid ((own_blocks VR.out _ rfl).1)
          have HGL := Lib.hid (SL.out _ rfl)
          have e9 := u8_flip (sl.getD q 0) hz
          generalize sl.getD q 0 = z at c0 hz HQ e9
          have hi0 : (0 : Int) ≤ (q : Int) := by omega
          have hi1 : (q : Int) < (sl.length : Int) := by omega
          have ew : IntKind.i64.wrap ((q : Int) + 1) = (q : Int) + 1 := by
            have := HSL.out
            rw [IntWalk.i64_in] <;> omega
          have G7 := gsetCell wr g q (.int .u8 ((z ^^^ 255 : Nat) : Int))
          have YQ := Lib.hid (blk_g YR.out G7 (by intro e; injection e with e; have := HGL.out; have := L8.out; simp only at *; omega))
          have FQ := Lib.hid (own_other FR.out G7 (show g < w6.heap.size from HGL.out))
          have KQ := Lib.hid (KR.out.grown G7 KR.out.size (fun b hb => by injection hb with hb; have := HGE.out; have := K4s.out; simp only at *; omega))
          have HQ2 := Lib.hid hlt
          clear HF2 VR YR FR KR hlt G7 hq
          go_wp2_with fail
          go_roundg (sl.length + 1 - (q + 1))
          case measure => have := HQ2.out; omega
          case rel => exact ⟨q + 1, HQ2.out, rfl, by first | rfl | go_num, HQ, YQ, FQ, KQ⟩
        · obtain rfl : q = sl.length := by omega
          have hn0 : ¬ (sl.length : Int) < (sl.length : Int) := by omega
          obtain ⟨y0, y1, y2⟩ := cells3 YR.out
          have QZ := Lib.hid (Sam.same_any _ _ body wr (own_bytes FR.out) (HF.out.below KR.out).at_ HF.out.small (by have := HBL.out; omega))
          clear hlt hq
          go_wp2_with fail
          with_reducible refine QZ.out.mono ?_
          rintro e wz ⟨rfl, j2, rfl⟩
          go_wp2_with fail
          go_ret
          exact ⟨rfl, kept_trans KR.out (Six.below_drewN _ _ _)⟩
end Frm
end Go.Proofs.YtdiidfkmmgcjmaaDoor
