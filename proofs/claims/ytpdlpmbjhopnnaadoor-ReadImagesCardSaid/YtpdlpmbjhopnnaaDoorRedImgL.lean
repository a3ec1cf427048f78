/- The law ReadImages. Written by tools/gen_red_laws.py. -/
import Derived.Test.YtpdlpmbjhopnnaaDoorRedAwake
import Derived.Test.YtpdlpmbjhopnnaaDoorRedLaw
import Derived.Test.YtpdlpmbjhopnnaaDoorRedRimg
import Derived.Test.YtpdlpmbjhopnnaaDoorStrRsame
import Derived.Test.YtpdlpmbjhopnnaaDoorBunGrd
import Derived.Test.YtpdlpmbjhopnnaaDoorOpnScr
import Derived.StillTailTactics
import Derived.Deep.Cut
import Derived.Deep.RegionHeld3
namespace Go.Proofs.YtpdlpmbjhopnnaaDoor
open Go.RowKit Sha Six Apd Cut Err Att Grd Fld
set_option linter.unusedVariables false
namespace Red
set_option maxRecDepth 100000 in
set_option maxHeartbeats 8000000 in
theorem images_law (s : S) (ad : Option Addr) (k : Nat) (w : World) (h : CelsIn w (.slice ad s.cs.length k) s.cs) (hwf : Opn.Wf s.cs) (hm : s.cs.length ≤ maxLen) (hg : Handle w) :
    Calls Tryd.prog 4 #[.agg #[.int .i64 s.rows, .int .i64 s.cols, .slice ad s.cs.length k, .int .i64 s.cur, .bool s.lk, .bool s.ins]] w fun e w' => e = .returned (.bool true) ∧ Below w.heap.size w w' := by
  have HG := Lib.hid fun W (hb : Below w.heap.size w W) => hand_of hg hb
  have HAW := Lib.hid fun W (hb : Below w.heap.size w W) => awake_any W (hand_of hg hb)
  have HB := Lib.hid (al_any w (.cells #[.int .i64 s.rows, .int .i64 s.cols, .slice ad s.cs.length k, .int .i64 s.cur, .bool s.lk, .bool s.ins] 24))
  have HX := Lib.hid (heap_alloc_new w (.cells #[.int .i64 s.rows, .int .i64 s.cols, .slice ad s.cs.length k, .int .i64 s.cur, .bool s.lk, .bool s.ins] 24))
  have HI := Lib.hid (h.below HB.out)
  have HF := Lib.hid fun W hb => rfew_any s ad k W (HI.out.below hb) (wf_sound hwf)
  have H8 := Lib.hid (wf_sound hwf)
  clear h hwf hm hg
  cases hf : few s with
  | false =>
    rw [hf] at HF
    go_enter Tryd.func4, Tryd.ntmps4
    go_upto_region 1 with (fail)
    generalize w.alloc _ = w1 at *
    go_wp2_with fail
    with_reducible refine (HAW.out _ HB.out).mono ?_
    rintro e w2 ⟨rfl, hb⟩
    have K2 := Lib.hid hb
    have X2 := Lib.hid (blk HX.out hb)
    have K2' := kept_hid HB hb
    have I2 := Lib.hid (HI.out.below hb)
    clear hb
    obtain ⟨c0, c1, c2, c3, c4, c5⟩ := cells6 X2.out
    go_wp2_with fail
    with_reducible refine (HF.out _ K2.out).mono ?_
    rintro e w3 ⟨rfl, hb⟩
    have K3 := kept_hid K2' hb
    have X3 := Lib.hid (blk X2.out hb)
    have I3 := Lib.hid (I2.out.below hb)
    clear hb c0 c1 c2 c3 c4 c5 K2 K2' X2 I2 HB HX HI HF
    go_wp2_with fail
    with_reducible refine (HAW.out _ K3.out).mono ?_
    rintro e w4 ⟨rfl, hb⟩
    have KE := kept_hid K3 hb
    clear hb
    go_wp2_with fail
    go_ret
    exact ⟨rfl, KE.out⟩
  | true =>
    rw [hf] at HF
    obtain ⟨q1, q2, q3⟩ := few_parts hf
    have HL := Lib.hid q1
    have HP := Lib.hid q2
    have HR := Lib.hid q3
    have HLT := Lib.hid (show s.cs.length < 10000 from by have := HL.out; omega)
    clear q1 q2 q3 hf
    go_enter Tryd.func4, Tryd.ntmps4
    go_upto_region 1 with (fail)
    generalize w.alloc _ = w1 at *
    go_wp2_with fail
    with_reducible refine (HAW.out _ HB.out).mono ?_
    rintro e w2 ⟨rfl, hb⟩
    have K2 := Lib.hid hb
    have X2 := Lib.hid (blk HX.out hb)
    have K2' := kept_hid HB hb
    have I2 := Lib.hid (HI.out.below hb)
    clear hb
    obtain ⟨c0, c1, c2, c3, c4, c5⟩ := cells6 X2.out
    go_wp2_with fail
    with_reducible refine (HF.out _ K2.out).mono ?_
    rintro e w3 ⟨rfl, hb⟩
    have K3 := kept_hid K2' hb
    have X3 := Lib.hid (blk X2.out hb)
    have I3 := Lib.hid (I2.out.below hb)
    clear hb c0 c1 c2 c3 c4 c5 K2 K2' X2 I2 HB HX HI HF
    clear HAW
    have Q1 := Lib.hid fun W (hb : Below w3.heap.size w3 W) => image_any s ad k W (I3.out.below hb) HP.out HLT.out HR.out
    have Q2 := Lib.hid fun W (hb : Below w3.heap.size w3 W) => rimage_any s ad k W (I3.out.below hb) HP.out HLT.out
    simp only [GaveO] at Q1
    have HSO := Lib.hid (image_sound H8.out HLT.out)
    have HLN := Lib.hid (show (image s).length < 1000000 from by have := image_len s; have := HL.out; omega)
    generalize image s = os at *
    have HSM := Lib.hid fun W v1 k1 v2 k2 (h1 : Str.OrdsIn W 0 (.slice v1 os.length k1) os) (h2 : Str.OrdsIn W 0 (.slice v2 os.length k2) os) => Str.rcsame_any ⟨0, false, false, false, os⟩ ⟨0, false, false, false, os⟩ v1 os.length k1 v2 os.length k2 W h1 h2 HSO.out HSO.out HLN.out
    rw [(Str.csame_iff _ _).mpr rfl] at HSM
    go_upto_region 3 with (fail)
    have HSX := Lib.hid (show ∀ W', Below w3.heap.size w3 W' → Below w3.heap.size w3 W' ∧ (W'.cell? ⟨w.heap.size, 0, none⟩ = some (.int .i64 s.rows) ∧ W'.cell? ⟨w.heap.size, 1, none⟩ = some (.int .i64 s.cols) ∧ W'.cell? ⟨w.heap.size, 2, none⟩ = some (.slice ad s.cs.length k) ∧ W'.cell? ⟨w.heap.size, 3, none⟩ = some (.int .i64 s.cur) ∧ W'.cell? ⟨w.heap.size, 4, none⟩ = some (.bool s.lk) ∧ W'.cell? ⟨w.heap.size, 5, none⟩ = some (.bool s.ins)) from fun W' hW => ⟨hW, cells6 (blk X3.out hW)⟩)
    go_region_held3 (fun W' => Below w3.heap.size w3 W' ∧ (W'.cell? ⟨w.heap.size, 0, none⟩ = some (.int .i64 s.rows) ∧ W'.cell? ⟨w.heap.size, 1, none⟩ = some (.int .i64 s.cols) ∧ W'.cell? ⟨w.heap.size, 2, none⟩ = some (.slice ad s.cs.length k) ∧ W'.cell? ⟨w.heap.size, 3, none⟩ = some (.int .i64 s.cur) ∧ W'.cell? ⟨w.heap.size, 4, none⟩ = some (.bool s.lk) ∧ W'.cell? ⟨w.heap.size, 5, none⟩ = some (.bool s.ins)))
      ((refine HSX.out _ ?_; first | with_reducible exact (Below.refl _ _).drew | with_reducible exact (Below.refl _ _) | with_reducible exact (And.left (by assumption)) | with_reducible exact kept_trans (And.left (by assumption)) hbm | with_reducible exact kept_trans (And.left (by assumption)) hbi | with_reducible exact kept_trans (And.left (by assumption)) hb))
      (first
        | (go_at_call 15; with_reducible refine (Q1.out _ (And.left (by assumption))).mono ?_; rintro e wi ⟨vi, ki, rfl, hi, hbi⟩)
        | (go_at_call 16; with_reducible refine (Q2.out _ (And.left (by assumption))).mono ?_; rintro e wm ⟨vm, km, rfl, hm, hbm⟩)
        | (go_at_call 14; with_reducible (first | refine (HSM.out _ vi ki vm km ((hi.below hbm).to.mono (Nat.zero_le _)) (hm.to.mono (Nat.zero_le _))).mono ?_ | refine (HSM.out _ vi ki vm km (hi.to.mono (Nat.zero_le _)) ((hm.below hbi).to.mono (Nat.zero_le _))).mono ?_); rintro e wn ⟨rfl, hb⟩))
    have hS := And.left (by assumption : Below w3.heap.size w3 wn ∧ _)
    have K8 := kept_hid K3 hS
    clear hS hb
    go_wp2_with fail
    go_ret
    exact ⟨rfl, K8.out⟩
end Red
end Go.Proofs.YtpdlpmbjhopnnaaDoor
