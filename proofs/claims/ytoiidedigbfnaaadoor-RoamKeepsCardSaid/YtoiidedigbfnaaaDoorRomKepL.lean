/- The law RoamKeeps. Written by tools/gen_rom.py. -/
import Derived.Test.YtoiidedigbfnaaaDoorRomAwake
import Derived.Test.YtoiidedigbfnaaaDoorRomPlain
import Derived.Test.YtoiidedigbfnaaaDoorBunBase
import Derived.Deep.QuietTactic
import Derived.BigQuiet
import Derived.Deep.Cut
import Derived.Deep.LoopGhost
import Derived.Deep.RegionLaw
import Derived.Deep.RegionHeld3
import Derived.IntWalk
import Derived.Lib.SmallJoins
namespace Go.Proofs.YtoiidedigbfnaaaDoor
open Go.RowKit Sha Six Apd Cut Err Frm
set_option linter.unusedVariables false
set_option linter.unusedSimpArgs false
namespace Rom
set_option maxRecDepth 100000 in
set_option maxHeartbeats 8000000 in
theorem keeps_core (key body : List Nat) (ka : Option Addr) (kc : Nat) (ba : Option Addr) (bc : Nat) (w : World) (hg : Handle w) (hk : Byts w ka kc key) (hf : Byts w ba bc body) :
    Calls Tryd.prog 4 #[.slice ka key.length kc, .slice ba body.length bc] w fun e w' => e = .returned (.bool true) ∧ Below w.heap.size w w' := by
  have HAW := Lib.hid fun W (hb : Below w.heap.size w W) => awake_any W (hand_of hg hb)
  have HK := Lib.hid hk
  have HF := Lib.hid hf
  clear hg hk hf
  go_enter Tryd.func4, Tryd.ntmps4
  go_wp2_with fail
  with_reducible refine (HAW.out _ (Below.refl _ _)).mono ?_
  rintro e w2 ⟨rfl, hb⟩
  have K2 := Lib.hid hb
  clear hb
  by_cases hk : 100 < key.length
  · have hk' : decide ((100 : Int) < (key.length : Int)) = true := by simp; omega
    clear hk
    go_wp2_with fail
    with_reducible refine (HAW.out _ K2.out).mono ?_
    rintro e wq ⟨rfl, hb⟩
    have KE := kept_hid K2 hb
    clear hb
    go_wp2_with fail
    go_ret
    exact ⟨rfl, KE.out⟩
  have hk' : decide ((100 : Int) < (key.length : Int)) = false := by simp; omega
  have HKL := Lib.hid (show key.length ≤ 100 by omega)
  clear hk
  by_cases hl : 200 < body.length
  · have hl' : decide ((200 : Int) < (body.length : Int)) = true := by simp; omega
    clear hl
    go_wp2_with fail
    with_reducible refine (HAW.out _ K2.out).mono ?_
    rintro e wq ⟨rfl, hb⟩
    have KE := kept_hid K2 hb
    clear hb
    go_wp2_with fail
    go_ret
    exact ⟨rfl, KE.out⟩
  have hl' : decide ((200 : Int) < (body.length : Int)) = false := by simp; omega
  have HBL := Lib.hid (show body.length ≤ 200 by omega)
  clear hl HAW
  have HWR := Lib.hid (show wrong ⟨0, 9, body⟩ = 0 from by have := HBL.out; unfold wrong; rw [if_neg (by simp only; omega), if_neg (by simp only; omega)])
  have HA := al_any w2 (.cells #[] 5)
  have O3 := Lib.hid (own_lit w2 w2.heap.size [] (Nat.le_refl _) (by decide))
  have K3 := kept_hid K2 HA
  have B3 := Lib.hid ((HK.out.below K2.out).below HA)
  have L3 := Lib.hid HA.size
  clear HA
  go_wp2_with (at_builtin; refine wpList_mark ?_)
  clear hk' hl'
  refine Lib.hid ?_
  refine append_own rfl (.tmp 25) (.tmp 26) rfl w2.heap.size (.slice (some ⟨w2.heap.size, 0, none⟩) 0 0) 0 [] rfl O3.out ka key.length kc key rfl rfl B3.out.nil (bytes_src B3.out.at_) (by have := HKL.out; omega) L3.out ?_
  intro v' w4 hown hgr _
  have HG3 := own_ge O3.out
  have O4 := Lib.hid (show w4.ownsRow w2.heap.size 5 1 v' key.length (u8s key) from by rw [Nat.zero_add, List.nil_append] at hown; exact hown)
  have K4 := Lib.hid (K3.out.grown hgr K3.out.size (fun g hg => Nat.le_trans K2.out.size (HG3 g hg)))
  obtain ⟨va, vc, rfl⟩ := own_form O4.out
  clear hown hgr HG3 O3 K3 B3 L3 K2
  have HA := al_any w4 (.cells #[.slice va key.length vc, .int .i64 0, .int .i64 0, .int .u64 0, .string ⟨#[]⟩, .int .i64 0] 31)
  have X5 := Lib.hid (heap_alloc_new w4 (.cells #[.slice va key.length vc, .int .i64 0, .int .i64 0, .int .u64 0, .string ⟨#[]⟩, .int .i64 0] 31))
  have K5 := kept_hid K4 HA
  have KO5 := Lib.hid ((byts_own O4.out HK.out.small).below HA)
  clear HA O4 K4
  go_upto_region 5 with (fail)
  generalize w4.heap.size = G at *
  generalize w4.alloc _ = w5 at *
  have HQR := Lib.hid (rseal_any ⟨0, 9, body⟩ key ka key.length kc ba bc w5 (by have := HKL.out; omega) rfl HK.out.small (HK.out.below K5.out).at_ HK.out.nil (HF.out.below K5.out).at_ HF.out.small HF.out.nil HWR.out)
  have C1 := Lib.hid (come_sealed (g := ⟨key, 0, Win.nil, ⟨#[]⟩, 0⟩) ⟨#[97]⟩ HWR.out rfl)
  rw [show Win.lets Win.nil (F.q ⟨0, 9, body⟩) = (⟨9, 1⟩, 0) from by
    show Win.lets Win.nil 9 = _
    rw [(Win.lets_up (s := Win.nil) (n := 9) (by decide) (by decide) (show (0 : Int) < 9 by decide)).1]
    unfold Win.in_ Win.nil
    rw [if_pos (by decide)]
    simp] at C1
  simp only [ne_eq, not_true_eq_false, if_false, if_true, show ((0 : Int) < 9) = True from by simp] at C1
  have HSL := Lib.hid (show (seal_ key ⟨0, 9, body⟩).length < 1000 by rw [seal_len]; have := HBL.out; show body.length + 26 < 1000; omega)
  have H8 := Lib.hid (seal_small (f := ⟨0, 9, body⟩) key (.inl rfl) HF.out.small)
  clear HWR
  generalize seal_ key ⟨0, 9, body⟩ = sl at *
  go_wp2_with fail
  with_reducible refine HQR.out.mono ?_
  rintro e w6 ⟨vb, cb, rfl, ho, hb⟩
  have S6 := Lib.hid ho
  have X6 := Lib.hid (blk X5.out hb)
  have K6 := kept_hid K5 hb
  have KO6 := Lib.hid (KO5.out.below hb)
  have LS := Lib.hid (show ∀ x, vb = some x → w.heap.size ≤ x.block ∧ x.block < w6.heap.size from fun x hx => ⟨Nat.le_trans K5.out.size (own_blocks ho x hx).1, (own_blocks ho x hx).2⟩)
  clear ho hb HQR X5 K5 KO5
  have HA := al_any w6 (.cells #[] 5)
  have O7 := Lib.hid (own_lit w6 w6.heap.size [] (Nat.le_refl _) (by decide))
  have B7 := Lib.hid ((byts_own S6.out H8.out).below HA)
  have L7 := Lib.hid HA.size
  go_wp2_with (at_builtin; refine wpList_mark ?_)
  refine Lib.hid ?_
  refine append_own rfl (.tmp 33) (.tmp 34) rfl w6.heap.size (.slice (some ⟨w6.heap.size, 0, none⟩) 0 0) 0 [] rfl O7.out vb sl.length cb sl rfl rfl B7.out.nil (bytes_src B7.out.at_) (by have := HSL.out; omega) L7.out ?_
  intro v' w8 hown hgr _
  have HG3 := own_ge O7.out
  have W8 := Lib.hid (show w8.ownsRow w6.heap.size 5 1 v' sl.length (u8s sl) from by rw [Nat.zero_add, List.nil_append] at hown; exact hown)
  have hb := HA.grown hgr HA.size (fun g hg => HG3 g hg)
  have S8 := Lib.hid (own_below S6.out hb)
  have X8 := Lib.hid (blk X6.out hb)
  have K8 := kept_hid K6 hb
  have KO8 := Lib.hid (KO6.out.below hb)
  have L8 := Lib.hid (show w6.heap.size ≤ w8.heap.size from hb.size)
  obtain ⟨vw, cw, rfl⟩ := own_form W8.out
  clear hown hgr HG3 O7 K6 B7 L7 HA hb S6 X6 KO6
  have Q1 := Lib.hid (come_any ⟨key, 0, Win.nil, ⟨#[]⟩, 0⟩ ⟨#[97]⟩ sl va vc vb cb w8 KO8.out (byts_own S8.out H8.out) (by have := HKL.out; show key.length < 1000000; omega) (by have := HSL.out; omega) rfl ⟨(show (0 : Nat) < 18446744073709551616 by decide), rfl⟩ rfl)
  rw [C1.out] at Q1
  simp only [GaveR, Win.nil, errn_0] at Q1
  obtain ⟨c0, c1, c2, c3, c4, c5⟩ := cells6 X8.out
  go_wp2_with fail
  refine Q1.out.mono ?_
  rintro e w9 ⟨k1, d1, v1, z1, rfl, _, ho1, hb⟩
  have HA := al_any w9 (.cells #[.slice k1 key.length d1, .int .i64 0, .int .i64 9, .int .u64 1, .string ⟨#[97]⟩, .int .i64 9] 31)
  have hb := kept_trans hb HA
  have SA := Lib.hid (own_below S8.out hb)
  have WA := Lib.hid (own_below W8.out hb)
  have XA := Lib.hid (blk X8.out hb)
  have KA := kept_hid K8 hb
  have KOA := Lib.hid (KO8.out.below hb)
  have FA := Lib.hid (own_below ho1 HA)
  clear HA hb ho1 Q1 C1 S8 W8 X8 K8 KO8 c0 c1 c2 c3 c4 c5
  go_upto_region 8 with (fail)
  generalize w9.alloc _ = wa at *
  have QS := Lib.hid (Sam.same_any _ _ sl wa (own_bytes SA.out) (own_bytes WA.out) H8.out (by have := HSL.out; omega))
  go_wp2_with fail
  with_reducible refine QS.out.mono ?_
  rintro e wb ⟨rfl, j, rfl⟩
  have HD := (show Below wa.heap.size wa (wa.drewN j) from Six.below_drewN _ _ _)
  have SB := Lib.hid (own_below SA.out HD)
  have XB := Lib.hid (blk XA.out HD)
  have KB := kept_hid KA HD
  have KOB := Lib.hid (KOA.out.below HD)
  have FB := Lib.hid (own_below FA.out HD)
  generalize wa.drewN j = wb at *
  clear HD QS SA WA XA KA KOA FA
  obtain ⟨c0, c1, c2, c3, c4, c5⟩ := cells6 XB.out
  have QS := Lib.hid (Sam.same_any _ _ key wb KOB.out.at_ (HK.out.below KB.out).at_ HK.out.small (by have := HKL.out; omega))
  have hq := fun W => Win.run_neqS ⟨0, 0⟩ ⟨0, 0⟩ W
  rw [(Win.seq _ _).2 rfl] at hq
  simp only [Bool.not_true] at hq
  go_wp2_with fail
  with_reducible refine QS.out.mono ?_
  rintro e wc ⟨rfl, j2, rfl⟩
  have HD := (show Below wb.heap.size wb (wb.drewN j2) from Six.below_drewN _ _ _)
  have SC := Lib.hid (show World.ownsRow _ w5.heap.size 5 1 (.slice vb sl.length cb) sl.length (u8s (flipTo sl 0)) from by simpa [flipTo] using own_below SB.out HD)
  have XC := Lib.hid (blk XB.out HD)
  have KC := kept_hid KB HD
  have FC := Lib.hid (own_below FB.out HD)
  generalize wb.drewN j2 = wc at *
  clear HD QS SB XB KB KOB FB c0 c1 c2 c3 c4 c5
  obtain ⟨c0, c1, c2, c3, c4, c5⟩ := cells6 XC.out
  go_wp2_with fail
  clear c0 c1 c2 c3 c4 c5 hq XC
  go_loopg [11] (sl.length + 1) (fun n i wr => ∃ q : Nat, q ≤ sl.length ∧ n = sl.length + 1 - q ∧ i = .int .i64 q ∧ Hid (wr.ownsRow w5.heap.size 5 1 (.slice vb sl.length cb) sl.length (u8s (flipTo sl q))) ∧ Hid (wr.ownsRow w8.heap.size 5 1 (.slice v1 body.length z1) body.length (u8s body)) ∧ Hid (Below w.heap.size w wr))
  case atStart => exact ⟨0, Nat.zero_le _, rfl, rfl, SC, FC, KC⟩
  case round =>
    clear SC FC KC
    obtain ⟨q, hq, rfl, rfl, VR, FR, KR⟩ := hrel
    by_cases hlt : q < sl.length
    · obtain ⟨g, x0, rfl, hgl, c0, f0⟩ := own_at3 VR.out hlt
      have HF2 := flip_at hlt
      rw [HF2.1] at c0
      have HF2 := Lib.hid HF2.2
      have hz := byte_lt H8.out (by decide) q
      have HQ := Lib.hid (own_put (i := q) (v := sl.getD q 0 ^^^ 255) VR.out)
      rw [HF2.out] at HQ
      have HGL := Lib.hid (LS.out _ rfl)
      have e9 := u8_flip (sl.getD q 0) hz
      generalize sl.getD q 0 = z at c0 hz HQ e9
      have hi0 : (0 : Int) ≤ (q : Int) := by omega
      have hi1 : (q : Int) < (sl.length : Int) := by omega
      have ew : IntKind.i64.wrap ((q : Int) + 1) = (q : Int) + 1 := by
        have := HSL.out
        rw [IntWalk.i64_in] <;> omega
      have G7 := gsetCell wr g q (.int .u8 ((z ^^^ 255 : Nat) : Int))
      have FQ := Lib.hid (own_other FR.out G7 (show g < w8.heap.size from Nat.lt_of_lt_of_le HGL.out.2 L8.out))
      have KQ := Lib.hid (KR.out.grown G7 KR.out.size (fun b hb => by injection hb with hb; have := HGL.out.1; simp only at *; omega))
      have HQ2 := Lib.hid hlt
      clear HF2 VR FR KR hlt G7 hq
      go_wp2_with fail
      go_roundg (sl.length + 1 - (q + 1))
      case measure => have := HQ2.out; omega
      case rel => exact ⟨q + 1, HQ2.out, rfl, by first | rfl | go_num, HQ, FQ, KQ⟩
    · obtain rfl : q = sl.length := by omega
      have hn0 : ¬ (sl.length : Int) < (sl.length : Int) := by omega
      have QZ := Lib.hid (Sam.same_any _ _ body wr (own_bytes FR.out) (HF.out.below KR.out).at_ HF.out.small (by have := HBL.out; omega))
      clear hlt hq
      go_wp2_with fail
      with_reducible refine QZ.out.mono ?_
      rintro e wz ⟨rfl, j2, rfl⟩
      go_wp2_with fail
      go_ret
      exact ⟨rfl, kept_trans KR.out (Six.below_drewN _ _ _)⟩
end Rom
end Go.Proofs.YtoiidedigbfnaaaDoor
