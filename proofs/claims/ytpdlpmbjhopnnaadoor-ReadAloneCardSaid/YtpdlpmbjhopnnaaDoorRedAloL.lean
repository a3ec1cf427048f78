/- The law ReadAlone. Written by tools/gen_red_laws.py. -/
import Derived.Test.YtpdlpmbjhopnnaaDoorRedAwake
import Derived.Test.YtpdlpmbjhopnnaaDoorRedLaw
import Derived.Test.YtpdlpmbjhopnnaaDoorInpSame
import Derived.Test.YtpdlpmbjhopnnaaDoorStrRsame
import Derived.Test.YtpdlpmbjhopnnaaDoorBunGrd
import Derived.Test.YtpdlpmbjhopnnaaDoorBunGrd
import Derived.Test.YtpdlpmbjhopnnaaDoorBunScr
import Derived.Test.YtpdlpmbjhopnnaaDoorOpnScr
import Derived.StillTailTactics
import Derived.Deep.Cut
import Derived.Deep.RegionHeld3
namespace Go.Proofs.YtpdlpmbjhopnnaaDoor
open Go.RowKit Sha Six Apd Cut Err Att Grd Fld
set_option linter.unusedVariables false
namespace Red
set_option maxRecDepth 100000 in
set_option maxHeartbeats 8000000 in
theorem alone_law (s : S) (ad : Option Addr) (k : Nat) (aid : Int) (lck : Bool) (ins : Bool) (w : World) (h : CelsIn w (.slice ad s.cs.length k) s.cs) (hwf : Opn.Wf s.cs) (hm : s.cs.length ≤ maxLen) (waid : (Lit.int .u8 aid).wf = true) (hg : Handle w) :
    Calls Tryd.prog 6 #[.agg #[.int .i64 s.rows, .int .i64 s.cols, .slice ad s.cs.length k, .int .i64 s.cur, .bool s.lk, .bool s.ins], .int .u8 aid, .bool lck, .bool ins] w fun e w' => e = .returned (.bool true) ∧ Below w.heap.size w w' := by
  obtain ⟨b0aid, b1aid⟩ := Go.Proofs.YtpdlpmbjhopnnaaDoor.Ord.wf_u8 waid
  obtain ⟨aid, rfl⟩ := Int.eq_ofNat_of_zero_le b0aid
  have HBaid := Lib.hid (show aid < 256 by omega)
  have HG := Lib.hid fun W (hb : Below w.heap.size w W) => hand_of hg hb
  have HAW := Lib.hid fun W (hb : Below w.heap.size w W) => awake_any W (hand_of hg hb)
  have HB := Lib.hid (al_any w (.cells #[.int .i64 s.rows, .int .i64 s.cols, .slice ad s.cs.length k, .int .i64 s.cur, .bool s.lk, .bool s.ins] 24))
  have HX := Lib.hid (heap_alloc_new w (.cells #[.int .i64 s.rows, .int .i64 s.cols, .slice ad s.cs.length k, .int .i64 s.cur, .bool s.lk, .bool s.ins] 24))
  have HI := Lib.hid (h.below HB.out)
  have HF := Lib.hid fun W hb => rfew_any s ad k W (HI.out.below hb) (wf_sound hwf)
  have H8 := Lib.hid (wf_sound hwf)
  clear h hwf hm hg waid b0aid b1aid
  cases hf : few s with
  | false =>
    rw [hf] at HF
    go_enter Tryd.func6, Tryd.ntmps6
    go_upto_region 1 with (fail)
    generalize w.alloc _ = w1 at *
    go_wp2_with fail
    with_reducible refine (HAW.out _ HB.out).mono ?_
    rintro e w2 ⟨rfl, hb⟩
    have K2 := Lib.hid hb
    have X2 := Lib.hid (blk HX.out hb)
    have K2' := kept_hid HB hb
    have I2 := Lib.hid (HI.out.below hb)
    clear hb
    obtain ⟨c0, c1, c2, c3, c4, c5⟩ := cells6 X2.out
    go_wp2_with fail
    with_reducible refine (HF.out _ K2.out).mono ?_
    rintro e w3 ⟨rfl, hb⟩
    have K3 := kept_hid K2' hb
    have X3 := Lib.hid (blk X2.out hb)
    have I3 := Lib.hid (I2.out.below hb)
    clear hb c0 c1 c2 c3 c4 c5 K2 K2' X2 I2 HB HX HI HF
    go_wp2_with fail
    with_reducible refine (HAW.out _ K3.out).mono ?_
    rintro e w4 ⟨rfl, hb⟩
    have KE := kept_hid K3 hb
    clear hb
    go_wp2_with fail
    go_ret
    exact ⟨rfl, KE.out⟩
  | true =>
    rw [hf] at HF
    obtain ⟨q1, q2, q3⟩ := few_parts hf
    have HL := Lib.hid q1
    have HP := Lib.hid q2
    have HR := Lib.hid q3
    have HLT := Lib.hid (show s.cs.length < 10000 from by have := HL.out; omega)
    clear q1 q2 q3 hf
    go_enter Tryd.func6, Tryd.ntmps6
    go_upto_region 1 with (fail)
    generalize w.alloc _ = w1 at *
    go_wp2_with fail
    with_reducible refine (HAW.out _ HB.out).mono ?_
    rintro e w2 ⟨rfl, hb⟩
    have K2 := Lib.hid hb
    have X2 := Lib.hid (blk HX.out hb)
    have K2' := kept_hid HB hb
    have I2 := Lib.hid (HI.out.below hb)
    clear hb
    obtain ⟨c0, c1, c2, c3, c4, c5⟩ := cells6 X2.out
    go_wp2_with fail
    with_reducible refine (HF.out _ K2.out).mono ?_
    rintro e w3 ⟨rfl, hb⟩
    have K3 := kept_hid K2' hb
    have X3 := Lib.hid (blk X2.out hb)
    have I3 := Lib.hid (I2.out.below hb)
    clear hb c0 c1 c2 c3 c4 c5 K2 K2' X2 I2 HB HX HI HF
    clear HAW
    have HRC := Lib.hid (rcopy_any s ad k w3 I3.out (by have := HL.out; omega))
    simp only [Copied] at HRC
    obtain ⟨c0, c1, c2, c3, c4, c5⟩ := cells6 X3.out
    go_wp2_with fail
    with_reducible refine HRC.out.mono ?_
    rintro e w4 ⟨va1, vc1, rfl, ho1, hb⟩
    clear HRC c0 c1 c2 c3 c4 c5
    have HA := al_any w4 (.cells #[.int .i64 s.rows, .int .i64 s.cols, .slice va1 s.cs.length vc1, .int .i64 s.cur, .bool s.lk, .bool s.ins] 24)
    have T5 := Lib.hid (heap_alloc_new w4 (.cells #[.int .i64 s.rows, .int .i64 s.cols, .slice va1 s.cs.length vc1, .int .i64 s.cur, .bool s.lk, .bool s.ins] 24))
    have X5 := Lib.hid (blk X3.out (kept_trans hb HA))
    have I5 := Lib.hid (I3.out.below (kept_trans hb HA))
    have K5 := kept_hid K3 (kept_trans hb HA)
    have J5 := Lib.hid (OwnCels.below ho1 HA)
    have HN0 := Lib.hid (there_lt X3.out)
    have HN1 := Lib.hid (show w.heap.size < w4.heap.size from Nat.lt_of_lt_of_le HN0.out hb.size)
    clear HA ho1 hb X3 I3 K3
    go_upto_region 4 with (fail)
    generalize w4.heap.size = N1 at *
    generalize w4.alloc _ = w5 at *
    have HN2 := Lib.hid (there_lt T5.out)
    obtain ⟨f0, f1, f2, f3, f4, f5⟩ := free6 T5.out
    obtain ⟨u0, u1, u2, u3, u4, u5⟩ := cells6 T5.out
    have G6 := gtrans (gsetCell w5 N1 4 (.bool lck)) (gsetCell _ N1 5 (.bool ins))
    have T6 := Lib.hid (heap_setCell_same _ N1 5 _ 24 (.bool ins) (heap_setCell_same w5 N1 4 _ 24 (.bool lck) T5.out))
    have X6 := Lib.hid (blk_g X5.out G6 (by intro e; injection e with e; have := HN1.out; omega))
    have I6 := Lib.hid (Scr.celsIn_away I5.out G6 (fun y hy => (Scr.not_screen I5.out HP.out T5.out y hy).1))
    have J6 := Lib.hid (Scr.celsIn_away J5.out.to G6 (fun y hy => (Scr.not_screen J5.out.to HP.out T5.out y hy).1))
    have K6 := Lib.hid (below_grown K5.out G6 (by have := HN1.out; omega))
    have L6 := Lib.hid (Nat.lt_of_lt_of_le HN2.out G6.size)
    clear G6 X5 I5 J5 K5 T5 HN2
    go_upto_region 6 with (fail)
    clear f0 f1 f2 f3 f4 f5 u0 u1 u2 u3 u4 u5
    generalize (World.setCell _ _ _).setCell _ _ = w6 at *
    have Q1 := Lib.hid (modified_any s ad k aid w6 I6.out HP.out HLT.out H8.out HR.out HBaid.out)
    have Q2 := Lib.hid fun W (h : CelsIn W (.slice va1 s.cs.length vc1) s.cs) => modified_any ⟨s.rows, s.cols, s.cs, s.cur, lck, ins⟩ va1 vc1 aid W h HP.out HLT.out H8.out HR.out HBaid.out
    have HQE : asks ⟨s.rows, s.cols, s.cs, s.cur, lck, ins⟩ aid = asks s aid := rfl
    rw [HQE] at Q2
    clear HQE
    have HSO := Lib.hid (show Inp.Sound (asks s aid).fs from by
      unfold asks; split
      · exact modified_sound H8.out HLT.out aid
      · exact nofun)
    have HFW := Lib.hid (show (asks s aid).fs.length < 1000000 from by
      unfold asks; split
      · have := modified_few s aid HP.out; have := HL.out; omega
      · decide)
    have HCD := Lib.hid (show asksE aid = 0 ∨ asksE aid = 3 from by unfold asksE; split <;> simp)
    generalize asks s aid = i at *
    generalize asksE aid = cd at *
    simp only [GaveM] at Q1 Q2
    obtain ⟨c0, c1, c2, c3, c4, c5⟩ := cells6 X6.out
    go_wp2_with fail
    with_reducible refine Q1.out.mono ?_
    rintro e w7 ⟨va2, vc2, rfl, ho, hb⟩
    have HA := al_any w7 (.cells #[.int .u8 (i.aid : Int), .int .i64 i.cur, .slice va2 i.fs.length vc2] 29)
    have Y7 := Lib.hid (heap_alloc_new w7 (.cells #[.int .u8 (i.aid : Int), .int .i64 i.cur, .slice va2 i.fs.length vc2] 29))
    have O7 := Lib.hid (ho.below HA)
    replace hb := kept_trans hb HA
    have X7 := Lib.hid (blk X6.out hb)
    have T7 := Lib.hid (blk T6.out hb)
    have I7 := Lib.hid (I6.out.below hb)
    have J7 := Lib.hid (J6.out.below hb)
    have K7 := kept_hid K6 hb
    clear HA hb ho Q1 X6 T6 I6 J6 K6 L6 c0 c1 c2 c3 c4 c5
    go_upto_region 7 with (fail)
    generalize w7.heap.size = N2 at *
    generalize w7.alloc _ = w8 at *
    obtain ⟨c0, c1, c2, c3, c4, c5⟩ := cells6 T7.out
    go_wp2_with fail
    with_reducible refine (Q2.out _ J7.out).mono ?_
    rintro e w8b ⟨va3, vc3, rfl, ho, hb⟩
    have HA := al_any w8b (.cells #[.int .u8 (i.aid : Int), .int .i64 i.cur, .slice va3 i.fs.length vc3] 29)
    have Z9 := Lib.hid (heap_alloc_new w8b (.cells #[.int .u8 (i.aid : Int), .int .i64 i.cur, .slice va3 i.fs.length vc3] 29))
    have O9' := Lib.hid (ho.below HA)
    replace hb := kept_trans hb HA
    have X9 := Lib.hid (blk X7.out hb)
    have T9 := Lib.hid (blk T7.out hb)
    have Y9 := Lib.hid (blk Y7.out hb)
    have O9 := Lib.hid (O7.out.below hb)
    have I9 := Lib.hid (I7.out.below hb)
    have J9 := Lib.hid (J7.out.below hb)
    have K9 := kept_hid K7 hb
    clear HA hb ho Q2 X7 T7 Y7 O7 I7 J7 K7 c0 c1 c2 c3 c4 c5
    go_upto_region 8 with (fail)
    generalize w8b.heap.size = N3 at *
    generalize w8b.alloc _ = w9 at *
    have P1 := Lib.hid fun W (hb : Below w9.heap.size w9 W) => image_any s ad k W (I9.out.below hb) HP.out HLT.out HR.out
    have P2 := Lib.hid fun W (hb : Below w9.heap.size w9 W) => image_any ⟨s.rows, s.cols, s.cs, s.cur, lck, ins⟩ va1 vc1 W (J9.out.below hb) HP.out HLT.out HR.out
    have HIE : image ⟨s.rows, s.cols, s.cs, s.cur, lck, ins⟩ = image s := rfl
    rw [HIE] at P2
    clear HIE
    simp only [GaveO] at P1 P2
    have HSO2 := Lib.hid (image_sound H8.out HLT.out)
    have HLN := Lib.hid (show (image s).length < 1000000 from by have := image_len s; have := HL.out; omega)
    generalize image s = os at *
    have HSM := Lib.hid fun W v1 k1 v2 k2 (h1 : Str.OrdsIn W 0 (.slice v1 os.length k1) os) (h2 : Str.OrdsIn W 0 (.slice v2 os.length k2) os) => Str.rcsame_any ⟨0, false, false, false, os⟩ ⟨0, false, false, false, os⟩ v1 os.length k1 v2 os.length k2 W h1 h2 HSO2.out HSO2.out HLN.out
    rw [(Str.csame_iff _ _).mpr rfl] at HSM
    have HIS := Lib.hid fun W (hb : Below w9.heap.size w9 W) => Inp.isame_any i i va2 i.fs.length vc2 va3 i.fs.length vc3 W ((O9.out.below hb).to.mono (Nat.zero_le _)) ((O9'.out.below hb).to.mono (Nat.zero_le _)) HSO.out HSO.out HFW.out
    rw [Inp.isame_self] at HIS
    have HSX := Lib.hid (show ∀ W', Below w9.heap.size w9 W' → Below w9.heap.size w9 W' ∧ (W'.cell? ⟨w.heap.size, 0, none⟩ = some (.int .i64 s.rows) ∧ W'.cell? ⟨w.heap.size, 1, none⟩ = some (.int .i64 s.cols) ∧ W'.cell? ⟨w.heap.size, 2, none⟩ = some (.slice ad s.cs.length k) ∧ W'.cell? ⟨w.heap.size, 3, none⟩ = some (.int .i64 s.cur) ∧ W'.cell? ⟨w.heap.size, 4, none⟩ = some (.bool s.lk) ∧ W'.cell? ⟨w.heap.size, 5, none⟩ = some (.bool s.ins)) ∧ (W'.cell? ⟨N1, 0, none⟩ = some (.int .i64 s.rows) ∧ W'.cell? ⟨N1, 1, none⟩ = some (.int .i64 s.cols) ∧ W'.cell? ⟨N1, 2, none⟩ = some (.slice va1 s.cs.length vc1) ∧ W'.cell? ⟨N1, 3, none⟩ = some (.int .i64 s.cur) ∧ W'.cell? ⟨N1, 4, none⟩ = some (.bool lck) ∧ W'.cell? ⟨N1, 5, none⟩ = some (.bool ins)) ∧ (W'.cell? ⟨N2, 0, none⟩ = some (.int .u8 (i.aid : Int)) ∧ W'.cell? ⟨N2, 1, none⟩ = some (.int .i64 i.cur) ∧ W'.cell? ⟨N2, 2, none⟩ = some (.slice va2 i.fs.length vc2)) ∧ (W'.cell? ⟨N3, 0, none⟩ = some (.int .u8 (i.aid : Int)) ∧ W'.cell? ⟨N3, 1, none⟩ = some (.int .i64 i.cur) ∧ W'.cell? ⟨N3, 2, none⟩ = some (.slice va3 i.fs.length vc3)) from fun W' hW => ⟨hW, cells6 (blk X9.out hW), cells6 (blk T9.out hW), cells3 (blk Y9.out hW), cells3 (blk Z9.out hW)⟩)
    rcases HCD.out with h0 | h0
    · subst h0
      simp only [show Scr.errn 0 = .nilIface from rfl]
      go_region_held3 (fun W' => Below w9.heap.size w9 W' ∧ (W'.cell? ⟨w.heap.size, 0, none⟩ = some (.int .i64 s.rows) ∧ W'.cell? ⟨w.heap.size, 1, none⟩ = some (.int .i64 s.cols) ∧ W'.cell? ⟨w.heap.size, 2, none⟩ = some (.slice ad s.cs.length k) ∧ W'.cell? ⟨w.heap.size, 3, none⟩ = some (.int .i64 s.cur) ∧ W'.cell? ⟨w.heap.size, 4, none⟩ = some (.bool s.lk) ∧ W'.cell? ⟨w.heap.size, 5, none⟩ = some (.bool s.ins)) ∧ (W'.cell? ⟨N1, 0, none⟩ = some (.int .i64 s.rows) ∧ W'.cell? ⟨N1, 1, none⟩ = some (.int .i64 s.cols) ∧ W'.cell? ⟨N1, 2, none⟩ = some (.slice va1 s.cs.length vc1) ∧ W'.cell? ⟨N1, 3, none⟩ = some (.int .i64 s.cur) ∧ W'.cell? ⟨N1, 4, none⟩ = some (.bool lck) ∧ W'.cell? ⟨N1, 5, none⟩ = some (.bool ins)) ∧ (W'.cell? ⟨N2, 0, none⟩ = some (.int .u8 (i.aid : Int)) ∧ W'.cell? ⟨N2, 1, none⟩ = some (.int .i64 i.cur) ∧ W'.cell? ⟨N2, 2, none⟩ = some (.slice va2 i.fs.length vc2)) ∧ (W'.cell? ⟨N3, 0, none⟩ = some (.int .u8 (i.aid : Int)) ∧ W'.cell? ⟨N3, 1, none⟩ = some (.int .i64 i.cur) ∧ W'.cell? ⟨N3, 2, none⟩ = some (.slice va3 i.fs.length vc3)))
        ((refine HSX.out _ ?_; first | with_reducible exact (Below.refl _ _).drew | with_reducible exact (Below.refl _ _) | with_reducible exact (And.left (by assumption)) | with_reducible exact kept_trans (And.left (by assumption)) hbm | with_reducible exact kept_trans (And.left (by assumption)) hbi | with_reducible exact kept_trans (And.left (by assumption)) hb | with_reducible exact kept_trans (And.left (by assumption)) hbs))
        (first
          | (go_at_call 19; with_reducible refine (HIS.out _ (And.left (by assumption))).mono ?_; rintro e ws ⟨rfl, hbs⟩)
          | (go_at_call 15; with_reducible refine (P1.out _ (And.left (by assumption))).mono ?_; rintro e wi ⟨vi, ki, rfl, hi, hbi⟩)
          | (go_at_call 15; with_reducible refine (P2.out _ (And.left (by assumption))).mono ?_; rintro e wm ⟨vm, km, rfl, hm, hbm⟩)
          | (go_at_call 14; with_reducible (first | refine (HSM.out _ vi ki vm km ((hi.below hbm).to.mono (Nat.zero_le _)) (hm.to.mono (Nat.zero_le _))).mono ?_ | refine (HSM.out _ vi ki vm km (hi.to.mono (Nat.zero_le _)) ((hm.below hbi).to.mono (Nat.zero_le _))).mono ?_); rintro e wn ⟨rfl, hb⟩))
      have hS := And.left (by assumption : Below w9.heap.size w9 wn ∧ _)
      have KA := kept_hid K9 hS
      clear hS hb
      go_wp2_with fail
      go_ret
      exact ⟨rfl, KA.out⟩
    · subst h0
      simp only [show Scr.errn 3 = .iface 58 (.int .i64 3) from rfl]
      go_region_held3 (fun W' => Below w9.heap.size w9 W' ∧ (W'.cell? ⟨w.heap.size, 0, none⟩ = some (.int .i64 s.rows) ∧ W'.cell? ⟨w.heap.size, 1, none⟩ = some (.int .i64 s.cols) ∧ W'.cell? ⟨w.heap.size, 2, none⟩ = some (.slice ad s.cs.length k) ∧ W'.cell? ⟨w.heap.size, 3, none⟩ = some (.int .i64 s.cur) ∧ W'.cell? ⟨w.heap.size, 4, none⟩ = some (.bool s.lk) ∧ W'.cell? ⟨w.heap.size, 5, none⟩ = some (.bool s.ins)) ∧ (W'.cell? ⟨N1, 0, none⟩ = some (.int .i64 s.rows) ∧ W'.cell? ⟨N1, 1, none⟩ = some (.int .i64 s.cols) ∧ W'.cell? ⟨N1, 2, none⟩ = some (.slice va1 s.cs.length vc1) ∧ W'.cell? ⟨N1, 3, none⟩ = some (.int .i64 s.cur) ∧ W'.cell? ⟨N1, 4, none⟩ = some (.bool lck) ∧ W'.cell? ⟨N1, 5, none⟩ = some (.bool ins)) ∧ (W'.cell? ⟨N2, 0, none⟩ = some (.int .u8 (i.aid : Int)) ∧ W'.cell? ⟨N2, 1, none⟩ = some (.int .i64 i.cur) ∧ W'.cell? ⟨N2, 2, none⟩ = some (.slice va2 i.fs.length vc2)) ∧ (W'.cell? ⟨N3, 0, none⟩ = some (.int .u8 (i.aid : Int)) ∧ W'.cell? ⟨N3, 1, none⟩ = some (.int .i64 i.cur) ∧ W'.cell? ⟨N3, 2, none⟩ = some (.slice va3 i.fs.length vc3)))
        ((refine HSX.out _ ?_; first | with_reducible exact (Below.refl _ _).drew | with_reducible exact (Below.refl _ _) | with_reducible exact (And.left (by assumption)) | with_reducible exact kept_trans (And.left (by assumption)) hbm | with_reducible exact kept_trans (And.left (by assumption)) hbi | with_reducible exact kept_trans (And.left (by assumption)) hb | with_reducible exact kept_trans (And.left (by assumption)) hbs))
        (first
          | (go_at_call 19; with_reducible refine (HIS.out _ (And.left (by assumption))).mono ?_; rintro e ws ⟨rfl, hbs⟩)
          | (go_at_call 15; with_reducible refine (P1.out _ (And.left (by assumption))).mono ?_; rintro e wi ⟨vi, ki, rfl, hi, hbi⟩)
          | (go_at_call 15; with_reducible refine (P2.out _ (And.left (by assumption))).mono ?_; rintro e wm ⟨vm, km, rfl, hm, hbm⟩)
          | (go_at_call 14; with_reducible (first | refine (HSM.out _ vi ki vm km ((hi.below hbm).to.mono (Nat.zero_le _)) (hm.to.mono (Nat.zero_le _))).mono ?_ | refine (HSM.out _ vi ki vm km (hi.to.mono (Nat.zero_le _)) ((hm.below hbi).to.mono (Nat.zero_le _))).mono ?_); rintro e wn ⟨rfl, hb⟩))
      have hS := And.left (by assumption : Below w9.heap.size w9 wn ∧ _)
      have KA := kept_hid K9 hS
      clear hS hb
      go_wp2_with fail
      go_ret
      exact ⟨rfl, KA.out⟩
end Red
end Go.Proofs.YtpdlpmbjhopnnaaDoor
