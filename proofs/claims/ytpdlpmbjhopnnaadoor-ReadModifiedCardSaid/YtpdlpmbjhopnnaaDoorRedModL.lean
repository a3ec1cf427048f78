/- The law ReadModified. Written by tools/gen_red_laws.py. -/
import Derived.Test.YtpdlpmbjhopnnaaDoorRedAwake
import Derived.Test.YtpdlpmbjhopnnaaDoorRedLaw
import Derived.Test.YtpdlpmbjhopnnaaDoorRedRmod
import Derived.Test.YtpdlpmbjhopnnaaDoorInpRsame
import Derived.Test.YtpdlpmbjhopnnaaDoorBunRlg
import Derived.Test.YtpdlpmbjhopnnaaDoorBunGrd
import Derived.Test.YtpdlpmbjhopnnaaDoorOpnScr
import Derived.StillTailTactics
import Derived.Deep.Cut
import Derived.Deep.RegionHeld3
namespace Go.Proofs.YtpdlpmbjhopnnaaDoor
open Go.RowKit Sha Six Apd Cut Err Att Grd Fld
set_option linter.unusedVariables false
namespace Red
set_option maxRecDepth 100000 in
set_option maxHeartbeats 8000000 in
theorem modified_law (s : S) (ad : Option Addr) (k : Nat) (aid : Int) (w : World) (h : CelsIn w (.slice ad s.cs.length k) s.cs) (hwf : Opn.Wf s.cs) (hm : s.cs.length ≤ maxLen) (waid : (Lit.int .u8 aid).wf = true) (hg : Handle w) :
    Calls Tryd.prog 3 #[.agg #[.int .i64 s.rows, .int .i64 s.cols, .slice ad s.cs.length k, .int .i64 s.cur, .bool s.lk, .bool s.ins], .int .u8 aid] w fun e w' => e = .returned (.bool true) ∧ Below w.heap.size w w' := by
  obtain ⟨b0aid, b1aid⟩ := Go.Proofs.YtpdlpmbjhopnnaaDoor.Ord.wf_u8 waid
  obtain ⟨aid, rfl⟩ := Int.eq_ofNat_of_zero_le b0aid
  have HBaid := Lib.hid (show aid < 256 by omega)
  have HG := Lib.hid fun W (hb : Below w.heap.size w W) => hand_of hg hb
  have HAW := Lib.hid fun W (hb : Below w.heap.size w W) => awake_any W (hand_of hg hb)
  have HB := Lib.hid (al_any w (.cells #[.int .i64 s.rows, .int .i64 s.cols, .slice ad s.cs.length k, .int .i64 s.cur, .bool s.lk, .bool s.ins] 24))
  have HX := Lib.hid (heap_alloc_new w (.cells #[.int .i64 s.rows, .int .i64 s.cols, .slice ad s.cs.length k, .int .i64 s.cur, .bool s.lk, .bool s.ins] 24))
  have HI := Lib.hid (h.below HB.out)
  have HF := Lib.hid fun W hb => rfew_any s ad k W (HI.out.below hb) (wf_sound hwf)
  have H8 := Lib.hid (wf_sound hwf)
  have HCO := Lib.hid fun W n (hb : Below w.heap.size w W) => code_errn n W (hand_of hg hb)
  clear h hwf hm hg waid b0aid b1aid
  cases hf : few s with
  | false =>
    rw [hf] at HF
    go_enter Tryd.func3, Tryd.ntmps3
    go_upto_region 1 with (fail)
    generalize w.alloc _ = w1 at *
    go_wp2_with fail
    with_reducible refine (HAW.out _ HB.out).mono ?_
    rintro e w2 ⟨rfl, hb⟩
    have K2 := Lib.hid hb
    have X2 := Lib.hid (blk HX.out hb)
    have K2' := kept_hid HB hb
    have I2 := Lib.hid (HI.out.below hb)
    clear hb
    obtain ⟨c0, c1, c2, c3, c4, c5⟩ := cells6 X2.out
    go_wp2_with fail
    with_reducible refine (HF.out _ K2.out).mono ?_
    rintro e w3 ⟨rfl, hb⟩
    have K3 := kept_hid K2' hb
    have X3 := Lib.hid (blk X2.out hb)
    have I3 := Lib.hid (I2.out.below hb)
    clear hb c0 c1 c2 c3 c4 c5 K2 K2' X2 I2 HB HX HI HF
    go_wp2_with fail
    with_reducible refine (HAW.out _ K3.out).mono ?_
    rintro e w4 ⟨rfl, hb⟩
    have KE := kept_hid K3 hb
    clear hb
    go_wp2_with fail
    go_ret
    exact ⟨rfl, KE.out⟩
  | true =>
    rw [hf] at HF
    obtain ⟨q1, q2, q3⟩ := few_parts hf
    have HL := Lib.hid q1
    have HP := Lib.hid q2
    have HR := Lib.hid q3
    have HLT := Lib.hid (show s.cs.length < 10000 from by have := HL.out; omega)
    clear q1 q2 q3 hf
    go_enter Tryd.func3, Tryd.ntmps3
    go_upto_region 1 with (fail)
    generalize w.alloc _ = w1 at *
    go_wp2_with fail
    with_reducible refine (HAW.out _ HB.out).mono ?_
    rintro e w2 ⟨rfl, hb⟩
    have K2 := Lib.hid hb
    have X2 := Lib.hid (blk HX.out hb)
    have K2' := kept_hid HB hb
    have I2 := Lib.hid (HI.out.below hb)
    clear hb
    obtain ⟨c0, c1, c2, c3, c4, c5⟩ := cells6 X2.out
    go_wp2_with fail
    with_reducible refine (HF.out _ K2.out).mono ?_
    rintro e w3 ⟨rfl, hb⟩
    have K3 := kept_hid K2' hb
    have X3 := Lib.hid (blk X2.out hb)
    have I3 := Lib.hid (I2.out.below hb)
    clear hb c0 c1 c2 c3 c4 c5 K2 K2' X2 I2 HB HX HI HF
    clear HAW
    have Q1 := Lib.hid (modified_any s ad k aid w3 I3.out HP.out HLT.out H8.out HR.out HBaid.out)
    simp only [GaveM] at Q1
    have HAD := Lib.hid fun W => raid_any aid W HBaid.out
    obtain ⟨i, hi⟩ : ∃ i, Hid (i = asks s aid) := ⟨_, Lib.hid rfl⟩
    obtain ⟨cd, hcd⟩ : ∃ c, Hid (c = asksE aid) := ⟨_, Lib.hid rfl⟩
    rw [← hi.out, ← hcd.out] at Q1
    obtain ⟨c0, c1, c2, c3, c4, c5⟩ := cells6 X3.out
    go_wp2_with fail
    with_reducible refine Q1.out.mono ?_
    rintro e w4 ⟨va, vc, rfl, ho, hb⟩
    have HA := al_any w4 (.cells #[.int .u8 (i.aid : Int), .int .i64 i.cur, .slice va i.fs.length vc] 29)
    have Y4 := Lib.hid (heap_alloc_new w4 (.cells #[.int .u8 (i.aid : Int), .int .i64 i.cur, .slice va i.fs.length vc] 29))
    have O4 := Lib.hid (ho.below HA)
    replace hb := kept_trans hb HA
    have X4 := Lib.hid (blk X3.out hb)
    have I4 := Lib.hid (I3.out.below hb)
    have K4 := kept_hid K3 hb
    clear HA hb ho Q1 X3 I3 K3 c0 c1 c2 c3 c4 c5
    go_upto_region 4 with (fail)
    generalize w4.heap.size = N at *
    generalize w4.alloc _ = w5 at *
    cases ha : Att.aid aid with
    | false =>
      rw [ha] at HAD
      obtain ⟨ea, ee⟩ := asks_no (s := s) ha
      rw [ea] at hi
      rw [ee] at hcd
      obtain rfl := hi.out
      obtain rfl := hcd.out
      clear hi hcd ea ee ha
      go_wp2_with fail
      with_reducible refine (HAD.out _).mono ?_
      rintro e w6 ⟨rfl, rfl⟩
      go_wp2_with fail
      with_reducible refine (HCO.out _ 3 K4.out).mono ?_
      rintro e w7 ⟨rfl, hb⟩
      have Y7 := Lib.hid (blk Y4.out hb)
      have O7 := Lib.hid (O4.out.below hb)
      have K7 := kept_hid K4 hb
      have HSM := Lib.hid (Inp.risame_any Inp.noneI Inp.noneI va 0 vc none 0 0 w7 (O7.out.to.mono (Nat.zero_le _)) (Inp.fldsIn_nil _ _) nofun nofun (by decide))
      rw [Inp.isame_self] at HSM
      clear hb
      obtain ⟨y0, y1, y2⟩ := cells3 Y7.out
      go_wp2_with fail
      refine HSM.out.mono ?_
      rintro e w8 ⟨rfl, hb⟩
      have K8 := kept_hid K7 hb
      clear hb y0 y1 y2
      go_wp2_with fail
      go_ret
      exact ⟨rfl, K8.out⟩
    | true =>
      rw [ha] at HAD
      obtain ⟨ea, ee⟩ := asks_yes (s := s) ha
      rw [ea] at hi
      rw [ee] at hcd
      obtain rfl := hcd.out
      simp only [show Scr.errn 0 = .nilIface from rfl]
      have HQ := Lib.hid fun W (hb : Below w5.heap.size w5 W) => rmodified_any s ad k aid W (I4.out.below hb) HP.out HLT.out H8.out HBaid.out
      rw [← hi.out] at HQ
      simp only [GaveI] at HQ
      have HSO := Lib.hid (show Inp.Sound i.fs from by rw [hi.out]; exact modified_sound H8.out HLT.out aid)
      have HFW := Lib.hid (show i.fs.length < 1000000 from by rw [hi.out]; have := modified_few s aid HP.out; have := HL.out; omega)
      have HSM := Lib.hid fun W (hb : Below w5.heap.size w5 W) vm km (hv : Inp.FldsIn W 0 (.slice vm i.fs.length km) i.fs) => Inp.risame_any i i va i.fs.length vc vm i.fs.length km W ((O4.out.below hb).to.mono (Nat.zero_le _)) hv HSO.out HSO.out HFW.out
      rw [Inp.isame_self] at HSM
      clear hi hcd ea ee ha
      go_wp2_with fail
      with_reducible refine (HAD.out _).mono ?_
      rintro e w6 ⟨rfl, rfl⟩
      go_upto_region 6 with (fail)
      have HSX := Lib.hid (show ∀ W', Below w5.heap.size w5 W' → Below w5.heap.size w5 W' ∧ (W'.cell? ⟨w.heap.size, 0, none⟩ = some (.int .i64 s.rows) ∧ W'.cell? ⟨w.heap.size, 1, none⟩ = some (.int .i64 s.cols) ∧ W'.cell? ⟨w.heap.size, 2, none⟩ = some (.slice ad s.cs.length k) ∧ W'.cell? ⟨w.heap.size, 3, none⟩ = some (.int .i64 s.cur) ∧ W'.cell? ⟨w.heap.size, 4, none⟩ = some (.bool s.lk) ∧ W'.cell? ⟨w.heap.size, 5, none⟩ = some (.bool s.ins)) ∧ W'.cell? ⟨N, 0, none⟩ = some (.int .u8 (i.aid : Int)) ∧ W'.cell? ⟨N, 1, none⟩ = some (.int .i64 i.cur) ∧ W'.cell? ⟨N, 2, none⟩ = some (.slice va i.fs.length vc) from fun W' hW => ⟨hW, cells6 (blk X4.out hW), cells3 (blk Y4.out hW)⟩)
      go_region_held3 (fun W' => Below w5.heap.size w5 W' ∧ (W'.cell? ⟨w.heap.size, 0, none⟩ = some (.int .i64 s.rows) ∧ W'.cell? ⟨w.heap.size, 1, none⟩ = some (.int .i64 s.cols) ∧ W'.cell? ⟨w.heap.size, 2, none⟩ = some (.slice ad s.cs.length k) ∧ W'.cell? ⟨w.heap.size, 3, none⟩ = some (.int .i64 s.cur) ∧ W'.cell? ⟨w.heap.size, 4, none⟩ = some (.bool s.lk) ∧ W'.cell? ⟨w.heap.size, 5, none⟩ = some (.bool s.ins)) ∧ W'.cell? ⟨N, 0, none⟩ = some (.int .u8 (i.aid : Int)) ∧ W'.cell? ⟨N, 1, none⟩ = some (.int .i64 i.cur) ∧ W'.cell? ⟨N, 2, none⟩ = some (.slice va i.fs.length vc))
        ((refine HSX.out _ ?_; first | with_reducible exact (Below.refl _ _).drew | with_reducible exact (Below.refl _ _) | with_reducible exact (And.left (by assumption)) | with_reducible exact kept_trans (And.left (by assumption)) hb))
        (first
          | (go_at_call 13; with_reducible refine (HQ.out _ (And.left (by assumption))).mono ?_; rintro e wg ⟨vm, km, rfl, hom, hb⟩)
          | (go_at_call 12; with_reducible refine (HSM.out _ (And.left (by assumption)) _ _ (hom.to.mono (Nat.zero_le _))).mono ?_; rintro e wn ⟨rfl, hb⟩))
      have hS := And.left (by assumption : Below w5.heap.size w5 wn ∧ _)
      have K8 := kept_hid K4 hS
      clear hS hb
      go_wp2_with fail
      go_ret
      exact ⟨rfl, K8.out⟩
end Red
end Go.Proofs.YtpdlpmbjhopnnaaDoor
