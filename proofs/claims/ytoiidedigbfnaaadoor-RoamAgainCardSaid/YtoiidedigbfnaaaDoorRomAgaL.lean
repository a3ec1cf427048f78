/- The law RoamAgain. Written by tools/gen_rom.py. -/
import Derived.Test.YtoiidedigbfnaaaDoorRomAwake
import Derived.Test.YtoiidedigbfnaaaDoorRomPlain
import Derived.Deep.QuietTactic
import Derived.BigQuiet
import Derived.Deep.Cut
import Derived.Deep.LoopGhost
import Derived.Deep.RegionLaw
import Derived.Deep.RegionHeld3
import Derived.IntWalk
import Derived.Lib.SmallJoins
namespace Go.Proofs.YtoiidedigbfnaaaDoor
open Go.RowKit Sha Six Apd Cut Err Frm
set_option linter.unusedVariables false
set_option linter.unusedSimpArgs false
namespace Rom
set_option maxRecDepth 100000 in
set_option maxHeartbeats 8000000 in
theorem again_core (key body : List Nat) (seq : Nat) (one two : ByteArray) (ka : Option Addr) (kc : Nat) (ba : Option Addr) (bc : Nat) (w : World) (hg : Handle w) (hk : Byts w ka kc key) (hf : Byts w ba bc body) (hs : seq < 4294967296) :
    Calls Tryd.prog 5 #[.slice ka key.length kc, .int .u32 (seq : Int), .string one, .string two, .slice ba body.length bc] w fun e w' => e = .returned (.bool true) ∧ Below w.heap.size w w' := by
  have HAW := Lib.hid fun W (hb : Below w.heap.size w W) => awake_any W (hand_of hg hb)
  have HGG := Lib.hid fun W (hb : Below w.heap.size w W) => hand_of hg hb
  have HK := Lib.hid hk
  have HF := Lib.hid hf
  have HS := Lib.hid hs
  clear hg hk hf hs
  go_enter Tryd.func5, Tryd.ntmps5
  go_wp2_with fail
  with_reducible refine (HAW.out _ (Below.refl _ _)).mono ?_
  rintro e w2 ⟨rfl, hb⟩
  have K2 := Lib.hid hb
  clear hb
  by_cases hk : 100 < key.length
  · have hk' : decide ((100 : Int) < (key.length : Int)) = true := by simp; omega
    clear hk
    go_wp2_with fail
    with_reducible refine (HAW.out _ K2.out).mono ?_
    rintro e wq ⟨rfl, hb⟩
    have KE := kept_hid K2 hb
    clear hb
    go_wp2_with fail
    go_ret
    exact ⟨rfl, KE.out⟩
  have hk' : decide ((100 : Int) < (key.length : Int)) = false := by simp; omega
  have HKL := Lib.hid (show key.length ≤ 100 by omega)
  clear hk
  by_cases hl : 200 < body.length
  · have hl' : decide ((200 : Int) < (body.length : Int)) = true := by simp; omega
    clear hl
    go_wp2_with fail
    with_reducible refine (HAW.out _ K2.out).mono ?_
    rintro e wq ⟨rfl, hb⟩
    have KE := kept_hid K2 hb
    clear hb
    go_wp2_with fail
    go_ret
    exact ⟨rfl, KE.out⟩
  have hl' : decide ((200 : Int) < (body.length : Int)) = false := by simp; omega
  have HBL := Lib.hid (show body.length ≤ 200 by omega)
  clear hl HAW
  have hsq : IntKind.i64.wrap (seq : Int) = (seq : Int) := by have := HS.out; rw [IntWalk.i64_in] <;> omega
  have hsq2 : wrap64 (1 + (seq : Int)) = 1 + (seq : Int) := by have := HS.out; rw [IntWalk.wrap64_in] <;> omega
  have HWR := Lib.hid (show wrong ⟨1, 1 + (seq : Int), body⟩ = 0 from by have := HS.out; have := HBL.out; unfold wrong; rw [if_neg (by simp only; omega), if_neg (by simp only; omega)])
  have HQR := Lib.hid (rseal_any ⟨1, 1 + (seq : Int), body⟩ key ka key.length kc ba bc w2 (by have := HKL.out; omega) rfl HK.out.small (HK.out.below K2.out).at_ HK.out.nil (HF.out.below K2.out).at_ HF.out.small HF.out.nil HWR.out)
  have C1 := Lib.hid (come_sealed (g := ⟨key, 1, Win.nil, ⟨#[]⟩, 0⟩) one HWR.out rfl)
  have C2 := Lib.hid (come_sealed (g := ⟨key, 1, ⟨1 + (seq : Int), 1⟩, one, 1 + (seq : Int)⟩) two HWR.out rfl)
  have HIN : Win.lets Win.nil (1 + (seq : Int)) = (⟨1 + (seq : Int), 1⟩, 0) := by
    have := HS.out
    rw [(Win.lets_up (s := Win.nil) (n := 1 + (seq : Int)) (by omega) (by omega) (show (0 : Int) < _ by omega)).1]
    unfold Win.in_ Win.nil
    rw [if_pos (by simp only; omega)]
    simp
  have HOL : Win.lets ⟨1 + (seq : Int), 1⟩ (1 + (seq : Int)) = (⟨1 + (seq : Int), 1⟩, 12) := by
    have := HS.out
    unfold Win.lets
    rw [if_neg (by omega), if_pos ⟨Int.le_refl _, .inr (by unfold Win.has; simp)⟩]
  simp only [HIN, HOL] at C1 C2
  have HRG := Lib.hid (show Win.right ⟨1 + (seq : Int), 1⟩ = true from by have := (Win.lets_keep (s := Win.nil) (1 + (seq : Int)) rfl (by decide)).1; rw [HIN] at this; exact this)
  have HSL := Lib.hid (show (seal_ key ⟨1, 1 + (seq : Int), body⟩).length < 1000 by rw [seal_len]; have := HBL.out; show body.length + 26 < 1000; omega)
  have H8 := Lib.hid (seal_small (f := ⟨1, 1 + (seq : Int), body⟩) key (.inr rfl) HF.out.small)
  have HFT := Lib.hid (show Win.Fit ⟨1 + (seq : Int), 1⟩ from ⟨(show (1 : Nat) < 18446744073709551616 by decide), by have := HS.out; show IntKind.i64.wrap (1 + (seq : Int)) = _; rw [IntWalk.i64_in] <;> omega⟩)
  have hn0 : (0 : Int) < 1 + (seq : Int) := by omega
  simp only [ne_eq, not_true_eq_false, if_false, if_true, show ((12 : Nat) = 0) = False from by simp, not_false_eq_true, hn0] at C1 C2
  clear HIN HOL HWR
  generalize seal_ key ⟨1, 1 + (seq : Int), body⟩ = sl at *
  go_wp2_with fail
  with_reducible refine HQR.out.mono ?_
  rintro e w3 ⟨vb, cb, rfl, ho, hb⟩
  have HA := al_any w3 (.cells #[.slice ka key.length kc, .int .i64 1, .int .i64 0, .int .u64 0, .string ⟨#[]⟩, .int .i64 0] 31)
  have X4 := Lib.hid (heap_alloc_new w3 (.cells #[.slice ka key.length kc, .int .i64 1, .int .i64 0, .int .u64 0, .string ⟨#[]⟩, .int .i64 0] 31))
  have K4 := kept_hid K2 (kept_trans hb HA)
  have B4 := Lib.hid ((byts_own ho H8.out).below HA)
  clear HA ho hb K2 HQR hk' hl' hn0
  go_upto_region 5 with (fail)
  generalize w3.heap.size = G at *
  generalize w3.alloc _ = w4 at *
  have Q1 := Lib.hid (come_any ⟨key, 1, Win.nil, ⟨#[]⟩, 0⟩ one sl ka kc vb cb w4 (HK.out.below K4.out) B4.out (by have := HKL.out; show key.length < 1000000; omega) (by have := HSL.out; omega) rfl ⟨(show (0 : Nat) < 18446744073709551616 by decide), rfl⟩ rfl)
  rw [C1.out] at Q1
  simp only [GaveR, Win.nil, errn_0] at Q1
  obtain ⟨c0, c1, c2, c3, c4, c5⟩ := cells6 X4.out
  go_wp2_with fail
  refine Q1.out.mono ?_
  rintro e w5 ⟨k1, d1, v1, z1, rfl, hk1, ho1, hb⟩
  have HA := al_any w5 (.cells #[.slice k1 key.length d1, .int .i64 1, .int .i64 (1 + (seq : Int)), .int .u64 1, .string one, .int .i64 (1 + (seq : Int))] 31)
  have Y6 := Lib.hid (heap_alloc_new w5 (.cells #[.slice k1 key.length d1, .int .i64 1, .int .i64 (1 + (seq : Int)), .int .u64 1, .string one, .int .i64 (1 + (seq : Int))] 31))
  have K6 := kept_hid K4 (kept_trans hb HA)
  have B6 := Lib.hid (B4.out.below (kept_trans hb HA))
  have KB6 := Lib.hid (hk1.below HA)
  have O6 := Lib.hid ((byts_own ho1 HF.out.small).below HA)
  clear HA ho1 hb hk1 K4 Q1 X4 B4 C1 c0 c1 c2 c3 c4 c5
  go_upto_region 6 with (fail)
  generalize w5.heap.size = H at *
  generalize w5.alloc _ = w6 at *
  have Q2 := Lib.hid (come_any ⟨key, 1, ⟨1 + (seq : Int), 1⟩, one, 1 + (seq : Int)⟩ two sl k1 d1 vb cb w6 KB6.out B6.out (by have := HKL.out; show key.length < 1000000; omega) (by have := HSL.out; omega) HRG.out HFT.out rfl)
  rw [C2.out] at Q2
  simp only [GaveR, errn_pos (show (12 : Nat) ≠ 0 by decide), List.length_nil] at Q2
  obtain ⟨c0, c1, c2, c3, c4, c5⟩ := cells6 Y6.out
  go_wp2_with fail
  refine Q2.out.mono ?_
  rintro e w7 ⟨k2, d2, v2, z2, rfl, hk2, _, hb⟩
  have HA := al_any w7 (.cells #[.slice k2 key.length d2, .int .i64 1, .int .i64 (1 + (seq : Int)), .int .u64 1, .string one, .int .i64 (1 + (seq : Int))] 31)
  have Z8 := Lib.hid (heap_alloc_new w7 (.cells #[.slice k2 key.length d2, .int .i64 1, .int .i64 (1 + (seq : Int)), .int .u64 1, .string one, .int .i64 (1 + (seq : Int))] 31))
  have Y8 := Lib.hid (blk Y6.out (kept_trans hb HA))
  have K8 := kept_hid K6 (kept_trans hb HA)
  have KB8 := Lib.hid (KB6.out.below (kept_trans hb HA))
  have KC8 := Lib.hid (hk2.below HA)
  have O8 := Lib.hid (O6.out.below (kept_trans hb HA))
  clear HA hb hk2 K6 Q2 Y6 B6 C2 O6 KB6 c0 c1 c2 c3 c4 c5
  go_upto_region 7 with (fail)
  generalize w7.heap.size = N7 at *
  generalize w7.alloc _ = w8 at *
  have QS := Lib.hid (Sam.same_any _ _ body w8 O8.out.at_ (HF.out.below K8.out).at_ HF.out.small (by have := HBL.out; omega))
  go_wp2_with fail
  with_reducible refine QS.out.mono ?_
  rintro e w9 ⟨rfl, j, rfl⟩
  have HD := (show Below w8.heap.size w8 (w8.drewN j) from Six.below_drewN _ _ _)
  have K9 := kept_hid K8 HD
  have Z9 := Lib.hid (blk Z8.out HD)
  have Y9 := Lib.hid (blk Y8.out HD)
  have KB9 := Lib.hid (KB8.out.below HD)
  have KC9 := Lib.hid (KC8.out.below HD)
  generalize w8.drewN j = w9 at *
  clear HD QS K8 Z8 Y8 KB8 KC8 O8
  have HCD := Lib.hid (code_errno 12 w9 (HGG.out _ K9.out))
  go_wp2_with fail
  with_reducible refine HCD.out.mono ?_
  rintro e wa ⟨rfl, hb⟩
  have KA := kept_hid K9 hb
  have ZA := Lib.hid (blk Z9.out hb)
  have YA := Lib.hid (blk Y9.out hb)
  have HSA := Lib.hid (same_any ⟨key, 1, ⟨1 + (seq : Int), 1⟩, one, 1 + (seq : Int)⟩ k2 d2 k1 d1 wa (KC9.out.below hb) (KB9.out.below hb) (by have := HKL.out; show key.length < 1000000; omega))
  clear hb HCD K9 Z9 Y9 KB9 KC9
  simp only at HSA
  obtain ⟨c0, c1, c2, c3, c4, c5⟩ := cells6 ZA.out
  obtain ⟨y0, y1, y2, y3, y4, y5⟩ := cells6 YA.out
  go_wp2_with fail
  refine HSA.out.mono ?_
  rintro e wb ⟨rfl, hb⟩
  have KB := kept_hid KA hb
  have YB := Lib.hid (blk YA.out hb)
  clear hb HSA KA ZA YA c0 c1 c2 c3 c4 c5 y0 y1 y2 y3 y4 y5
  have hpe := run_sameP one (1 + (seq : Int)) wb
  obtain ⟨y0, y1, y2, y3, y4, y5⟩ := cells6 YB.out
  go_wp2_with fail
  go_ret
  exact ⟨rfl, KB.out⟩
end Rom
end Go.Proofs.YtoiidedigbfnaaaDoor
