/- The law MoveAlone. Written by tools/gen_mov_laws.py. -/
import Derived.Test.YtjgodmfannhnhaaDoorMovAwake
import Derived.Test.YtjgodmfannhnhaaDoorMovRef
import Derived.Test.YtjgodmfannhnhaaDoorBunGrd
import Derived.Test.YtjgodmfannhnhaaDoorBunGrd
import Derived.Test.YtjgodmfannhnhaaDoorOpnScr
import Derived.Test.YtjgodmfannhnhaaDoorBunFld
import Derived.Test.YtjgodmfannhnhaaDoorBunFld
import Derived.Test.YtjgodmfannhnhaaDoorMovMore
import Derived.StillTailTactics
import Derived.Deep.Cut
import Derived.Deep.RegionHeld3
namespace Go.Proofs.YtjgodmfannhnhaaDoor
open Go.RowKit Sha Six Apd Cut Err Att Grd Fld Scr
set_option linter.unusedVariables false
namespace Mov
set_option maxRecDepth 100000 in
set_option maxHeartbeats 8000000 in
theorem alone_any (s : S) (ad : Option Addr) (k : Nat) (which : Int) (w : World) (h : CelsIn w (.slice ad s.cs.length k) s.cs) (hwf : Opn.Wf s.cs) (hm : s.cs.length ≤ maxLen) (wwhich : (Lit.int .u8 which).wf = true) (hg : Handle w) :
    Calls Tryd.prog 4 #[.agg #[.int .i64 s.rows, .int .i64 s.cols, .slice ad s.cs.length k, .int .i64 s.cur, .bool s.lk, .bool s.ins], .int .u8 which] w fun e w' => e = .returned (.bool true) ∧ Below w.heap.size w w' := by
  obtain ⟨b0which, b1which⟩ := Go.Proofs.YtjgodmfannhnhaaDoor.Ord.wf_u8 wwhich
  obtain ⟨which, rfl⟩ := Int.eq_ofNat_of_zero_le b0which
  have HBwhich := Lib.hid (show which < 256 by omega)
  have HG := Lib.hid fun W (hb : Below w.heap.size w W) => hand_of hg hb
  have HAW := Lib.hid fun W (hb : Below w.heap.size w W) => awake_any W (hand_of hg hb)
  have HB := Lib.hid (al_any w (.cells #[.int .i64 s.rows, .int .i64 s.cols, .slice ad s.cs.length k, .int .i64 s.cur, .bool s.lk, .bool s.ins] 24))
  have HX := Lib.hid (heap_alloc_new w (.cells #[.int .i64 s.rows, .int .i64 s.cols, .slice ad s.cs.length k, .int .i64 s.cur, .bool s.lk, .bool s.ins] 24))
  have HI := Lib.hid (h.below HB.out)
  have HF := Lib.hid fun W hb => rfew_any s ad k W (HI.out.below hb) (wf_sound hwf)
  have H8 := Lib.hid (wf_sound hwf)
  clear h hwf hm hg wwhich b0which b1which
  cases hf : few s with
  | false =>
    rw [hf] at HF
    go_enter Tryd.func4, Tryd.ntmps4
    go_upto_region 1 with (fail)
    generalize w.alloc _ = w1 at *
    go_wp2_with fail
    with_reducible refine (HAW.out _ HB.out).mono ?_
    rintro e w2 ⟨rfl, hb⟩
    have K2 := Lib.hid hb
    have X2 := Lib.hid (blk HX.out hb)
    have K2' := kept_hid HB hb
    have I2 := Lib.hid (HI.out.below hb)
    clear hb
    obtain ⟨c0, c1, c2, c3, c4, c5⟩ := cells6 X2.out
    go_wp2_with fail
    with_reducible refine (HF.out _ K2.out).mono ?_
    rintro e w3 ⟨rfl, hb⟩
    have K3 := kept_hid K2' hb
    have X3 := Lib.hid (blk X2.out hb)
    have I3 := Lib.hid (I2.out.below hb)
    clear hb c0 c1 c2 c3 c4 c5 K2 K2' X2 I2 HB HX HI HF
    go_wp2_with fail
    with_reducible refine (HAW.out _ K3.out).mono ?_
    rintro e w4 ⟨rfl, hb⟩
    have KE := kept_hid K3 hb
    clear hb
    go_wp2_with fail
    go_ret
    exact ⟨rfl, KE.out⟩
  | true =>
    rw [hf] at HF
    obtain ⟨q1, q2, q3⟩ := few_parts hf
    have HL := Lib.hid q1
    have HP := Lib.hid q2
    have HR := Lib.hid q3
    have HLT := Lib.hid (show s.cs.length < 10000 from by have := HL.out; omega)
    clear q1 q2 q3 hf
    have hx : ((which : Int) % 8) = ((which % 8 : Nat) : Int) := by omega
    have HM8 := Lib.hid (Nat.mod_lt which (show 0 < 8 by decide))
    generalize which % 8 = m at *
    obtain ⟨kn, hkn⟩ : ∃ kn : Nat, kn = 2 + m := ⟨_, rfl⟩
    have hk2 : (2 : Int) + (m : Int) = (kn : Int) := by omega
    have hkw : IntKind.i64.wrap ((2 : Int) + (m : Int)) = (kn : Int) := by rw [hk2]; exact IntWalk.i64_in _ (by have := HM8.out; omega)
    have HMK := Lib.hid (show isMove (kn : Int) = true from by have := HM8.out; simp [isMove]; omega)
    have hm0 : (m : Int) < 8 := by have := HM8.out; omega
    clear hkn
    go_enter Tryd.func4, Tryd.ntmps4
    go_upto_region 1 with (fail)
    generalize w.alloc _ = w1 at *
    go_wp2_with fail
    with_reducible refine (HAW.out _ HB.out).mono ?_
    rintro e w2 ⟨rfl, hb⟩
    have K2 := Lib.hid hb
    have X2 := Lib.hid (blk HX.out hb)
    have K2' := kept_hid HB hb
    have I2 := Lib.hid (HI.out.below hb)
    clear hb
    obtain ⟨c0, c1, c2, c3, c4, c5⟩ := cells6 X2.out
    go_wp2_with fail
    with_reducible refine (HF.out _ K2.out).mono ?_
    rintro e w3 ⟨rfl, hb⟩
    have K3 := kept_hid K2' hb
    have X3 := Lib.hid (blk X2.out hb)
    have I3 := Lib.hid (I2.out.below hb)
    clear hb c0 c1 c2 c3 c4 c5 K2 K2' X2 I2 HB HX HI HF
    clear HAW
    have Q1 := Lib.hid (do_any s ad k (kn : Int) w3 I3.out HR.out H8.out HLT.out)
    simp only [GaveN] at Q1
    rcases Bool.eq_false_or_eq_true s.lk with hlk | hlk
    · rw [mdo_7 HMK.out hlk] at Q1
      simp only at Q1
      have HRT := Lib.hid (show sright ⟨s.rows, s.cols, s.cs, s.cur, true, s.ins⟩ = true from right_lk (b := true) HR.out (sright_parts HR.out).2.2.1 (sright_parts HR.out).2.2.2.1)
      rw [hlk] at Q1 X3
      clear hlk
      simp only [show errn 7 = .iface 47 (.int .i64 7) from rfl] at Q1
      obtain ⟨c0, c1, c2, c3, c4, c5⟩ := cells6 X3.out
      go_wp2_with fail
      with_reducible refine Q1.out.mono ?_
      rintro e w4 ⟨va1, vc1, rfl, hc, hn, hb⟩
      clear c0 c1 c2 c3 c4 c5
      have HA := al_any w4 (.cells #[.int .i64 s.rows, .int .i64 s.cols, .slice va1 s.cs.length vc1, .int .i64 s.cur, .bool true, .bool s.ins] 24)
      have B1 := Lib.hid (heap_alloc_new w4 (.cells #[.int .i64 s.rows, .int .i64 s.cols, .slice va1 s.cs.length vc1, .int .i64 s.cur, .bool true, .bool s.ins] 24))
      have C1 := Lib.hid (hc.below HA)
      replace hb := kept_trans hb HA
      replace X3 := Lib.hid (blk X3.out hb)
      replace I3 := Lib.hid (I3.out.below hb)
      replace K3 := kept_hid K3 hb
      clear HA hc hn hb
      go_upto_region 5 with (fail)
      generalize w4.heap.size = N1 at *
      generalize w4.alloc _ = w4b at *
      have HN1 := Lib.hid (there_lt B1.out)
      have HN0 := Lib.hid (there_lt X3.out)
      have HA := al_any w4b (.cells #[.int .i64 s.rows, .int .i64 s.cols, .slice va1 s.cs.length vc1, .int .i64 s.cur, .bool true, .bool s.ins] 24)
      have U5 := Lib.hid (heap_alloc_new w4b (.cells #[.int .i64 s.rows, .int .i64 s.cols, .slice va1 s.cs.length vc1, .int .i64 s.cur, .bool true, .bool s.ins] 24))
      have X5 := Lib.hid (blk X3.out HA)
      have B5 := Lib.hid (blk B1.out HA)
      have I5 := Lib.hid (I3.out.below HA)
      have C5 := Lib.hid (C1.out.below HA)
      have K5 := kept_hid K3 HA
      have HKN := Lib.hid K3.out.size
      obtain ⟨c0, c1, c2, c3, c4, c5⟩ := cells6 B1.out
      clear HA X3 B1 I3 C1 K3
      go_upto_region 6 with (fail)
      clear c0 c1 c2 c3 c4 c5
      generalize w4b.heap.size = N2 at *
      generalize w4b.alloc _ = w5 at *
      obtain ⟨c0, c1, c2, c3, c4, c5⟩ := cells6 X5.out
      obtain ⟨f0, f1, f2, f3, f4, f5⟩ := free6 U5.out
      obtain ⟨u0, u1, u2, u3, u4, u5⟩ := cells6 U5.out
      have SO := gsetCell w5 N2 3 (.int .i64 s.cur)
      have U6 := Lib.hid (heap_setCell_same w5 N2 3 _ 24 (.int .i64 s.cur) U5.out)
      have X6 := Lib.hid (blk_g X5.out SO (by intro e; injection e with e; have := HN0.out; omega))
      have B6 := Lib.hid (blk_g B5.out SO (by intro e; injection e with e; have := HN1.out; omega))
      have I6 := Lib.hid (celsIn_away I5.out SO (fun y hy => (not_screen I5.out HP.out U5.out y hy).1))
      have C6 := Lib.hid (celsIn_away C5.out SO (fun y hy => (not_screen C5.out HP.out U5.out y hy).1))
      have K6 := Lib.hid (below_grown K5.out SO HKN.out)
      clear SO X5 B5 I5 C5 K5
      go_upto_region 7 with (fail)
      clear c0 c1 c2 c3 c4 c5 f0 f1 f2 f3 f4 f5 u0 u1 u2 u3 u4 u5 U5
      generalize w5.setCell _ _ = w6 at *
      have HSM := Lib.hid fun W (hb : Below w6.heap.size w6 W) => rsame_any s.rows s.cols s.cur true s.ins va1 s.cs.length vc1 ad s.cs.length k s.cs s.cs W (C6.out.below hb) (I6.out.below hb) (by have := HL.out; omega)
      have HRG := Lib.hid fun W (hb : Below w6.heap.size w6 W) => rright_any ⟨s.rows, s.cols, s.cs, s.cur, true, s.ins⟩ va1 vc1 W (C6.out.below hb) H8.out (by simp only; have := HL.out; omega)
      rw [decide_eq_true rfl] at HSM
      rw [HRT.out] at HRG
      simp only at HSM HRG
      have HSX := Lib.hid (show ∀ W', Below w6.heap.size w6 W' → Below w6.heap.size w6 W' ∧ (W'.cell? ⟨w.heap.size, 0, none⟩ = some (.int .i64 s.rows) ∧ W'.cell? ⟨w.heap.size, 1, none⟩ = some (.int .i64 s.cols) ∧ W'.cell? ⟨w.heap.size, 2, none⟩ = some (.slice ad s.cs.length k) ∧ W'.cell? ⟨w.heap.size, 3, none⟩ = some (.int .i64 s.cur) ∧ W'.cell? ⟨w.heap.size, 4, none⟩ = some (.bool true) ∧ W'.cell? ⟨w.heap.size, 5, none⟩ = some (.bool s.ins)) ∧ (W'.cell? ⟨N1, 0, none⟩ = some (.int .i64 s.rows) ∧ W'.cell? ⟨N1, 1, none⟩ = some (.int .i64 s.cols) ∧ W'.cell? ⟨N1, 2, none⟩ = some (.slice va1 s.cs.length vc1) ∧ W'.cell? ⟨N1, 3, none⟩ = some (.int .i64 s.cur) ∧ W'.cell? ⟨N1, 4, none⟩ = some (.bool true) ∧ W'.cell? ⟨N1, 5, none⟩ = some (.bool s.ins)) ∧ (W'.cell? ⟨N2, 0, none⟩ = some (.int .i64 s.rows) ∧ W'.cell? ⟨N2, 1, none⟩ = some (.int .i64 s.cols) ∧ W'.cell? ⟨N2, 2, none⟩ = some (.slice va1 s.cs.length vc1) ∧ W'.cell? ⟨N2, 3, none⟩ = some (.int .i64 s.cur) ∧ W'.cell? ⟨N2, 4, none⟩ = some (.bool true) ∧ W'.cell? ⟨N2, 5, none⟩ = some (.bool s.ins)) from fun W' hW => ⟨hW, cells6 (blk X6.out hW), cells6 (blk B6.out hW), cells6 (blk U6.out hW)⟩)
      go_region_held3 (fun W' => Below w6.heap.size w6 W' ∧ (W'.cell? ⟨w.heap.size, 0, none⟩ = some (.int .i64 s.rows) ∧ W'.cell? ⟨w.heap.size, 1, none⟩ = some (.int .i64 s.cols) ∧ W'.cell? ⟨w.heap.size, 2, none⟩ = some (.slice ad s.cs.length k) ∧ W'.cell? ⟨w.heap.size, 3, none⟩ = some (.int .i64 s.cur) ∧ W'.cell? ⟨w.heap.size, 4, none⟩ = some (.bool true) ∧ W'.cell? ⟨w.heap.size, 5, none⟩ = some (.bool s.ins)) ∧ (W'.cell? ⟨N1, 0, none⟩ = some (.int .i64 s.rows) ∧ W'.cell? ⟨N1, 1, none⟩ = some (.int .i64 s.cols) ∧ W'.cell? ⟨N1, 2, none⟩ = some (.slice va1 s.cs.length vc1) ∧ W'.cell? ⟨N1, 3, none⟩ = some (.int .i64 s.cur) ∧ W'.cell? ⟨N1, 4, none⟩ = some (.bool true) ∧ W'.cell? ⟨N1, 5, none⟩ = some (.bool s.ins)) ∧ (W'.cell? ⟨N2, 0, none⟩ = some (.int .i64 s.rows) ∧ W'.cell? ⟨N2, 1, none⟩ = some (.int .i64 s.cols) ∧ W'.cell? ⟨N2, 2, none⟩ = some (.slice va1 s.cs.length vc1) ∧ W'.cell? ⟨N2, 3, none⟩ = some (.int .i64 s.cur) ∧ W'.cell? ⟨N2, 4, none⟩ = some (.bool true) ∧ W'.cell? ⟨N2, 5, none⟩ = some (.bool s.ins)))
        ((refine HSX.out _ ?_; first | with_reducible exact (Below.refl _ _).drew | with_reducible exact (Below.refl _ _) | with_reducible exact (And.left (by assumption)) | with_reducible exact kept_trans (And.left (by assumption)) hb))
        (first
          | (go_at_call 12; with_reducible refine (HSM.out _ (And.left (by assumption))).mono ?_; rintro e wg ⟨rfl, hb⟩)
          | (go_at_call 15; with_reducible refine (HRG.out _ (And.left (by assumption))).mono ?_; rintro e wn ⟨rfl, hb⟩))
      have hS := And.left (by assumption : Below w6.heap.size w6 wn ∧ _)
      have K7 := kept_hid K6 hS
      clear hS hb
      go_wp2_with fail
      go_ret
      exact ⟨rfl, K7.out⟩
    · have HOPEN := Lib.hid fun (h : 6 ≤ kn) => gto_open HR.out (kind := (kn : Int)) (by omega)
      have HGL := Lib.hid (gto_lt HR.out (kn : Int))
      have HRT := Lib.hid (gto_right HR.out (kn : Int))
      rw [mdo_0 HMK.out hlk] at Q1
      simp only at Q1 HRT
      rw [hlk] at Q1 X3 HRT
      clear hlk
      simp only [show errn 0 = .nilIface from rfl] at Q1
      generalize gto s (kn : Int) = g at *
      obtain ⟨c0, c1, c2, c3, c4, c5⟩ := cells6 X3.out
      go_wp2_with fail
      with_reducible refine Q1.out.mono ?_
      rintro e w4 ⟨va1, vc1, rfl, hc, hn, hb⟩
      clear c0 c1 c2 c3 c4 c5
      have HA := al_any w4 (.cells #[.int .i64 s.rows, .int .i64 s.cols, .slice va1 s.cs.length vc1, .int .i64 (g : Int), .bool false, .bool s.ins] 24)
      have B1 := Lib.hid (heap_alloc_new w4 (.cells #[.int .i64 s.rows, .int .i64 s.cols, .slice va1 s.cs.length vc1, .int .i64 (g : Int), .bool false, .bool s.ins] 24))
      have C1 := Lib.hid (hc.below HA)
      replace hb := kept_trans hb HA
      replace X3 := Lib.hid (blk X3.out hb)
      replace I3 := Lib.hid (I3.out.below hb)
      replace K3 := kept_hid K3 hb
      clear HA hc hn hb
      go_upto_region 5 with (fail)
      generalize w4.heap.size = N1 at *
      generalize w4.alloc _ = w4b at *
      have HN1 := Lib.hid (there_lt B1.out)
      have HN0 := Lib.hid (there_lt X3.out)
      have HA := al_any w4b (.cells #[.int .i64 s.rows, .int .i64 s.cols, .slice va1 s.cs.length vc1, .int .i64 (g : Int), .bool false, .bool s.ins] 24)
      have U5 := Lib.hid (heap_alloc_new w4b (.cells #[.int .i64 s.rows, .int .i64 s.cols, .slice va1 s.cs.length vc1, .int .i64 (g : Int), .bool false, .bool s.ins] 24))
      have X5 := Lib.hid (blk X3.out HA)
      have B5 := Lib.hid (blk B1.out HA)
      have I5 := Lib.hid (I3.out.below HA)
      have C5 := Lib.hid (C1.out.below HA)
      have K5 := kept_hid K3 HA
      have HKN := Lib.hid K3.out.size
      obtain ⟨c0, c1, c2, c3, c4, c5⟩ := cells6 B1.out
      clear HA X3 B1 I3 C1 K3
      go_upto_region 6 with (fail)
      clear c0 c1 c2 c3 c4 c5
      generalize w4b.heap.size = N2 at *
      generalize w4b.alloc _ = w5 at *
      obtain ⟨c0, c1, c2, c3, c4, c5⟩ := cells6 X5.out
      obtain ⟨f0, f1, f2, f3, f4, f5⟩ := free6 U5.out
      obtain ⟨u0, u1, u2, u3, u4, u5⟩ := cells6 U5.out
      have SO := gsetCell w5 N2 3 (.int .i64 s.cur)
      have U6 := Lib.hid (heap_setCell_same w5 N2 3 _ 24 (.int .i64 s.cur) U5.out)
      have X6 := Lib.hid (blk_g X5.out SO (by intro e; injection e with e; have := HN0.out; omega))
      have B6 := Lib.hid (blk_g B5.out SO (by intro e; injection e with e; have := HN1.out; omega))
      have I6 := Lib.hid (celsIn_away I5.out SO (fun y hy => (not_screen I5.out HP.out U5.out y hy).1))
      have C6 := Lib.hid (celsIn_away C5.out SO (fun y hy => (not_screen C5.out HP.out U5.out y hy).1))
      have K6 := Lib.hid (below_grown K5.out SO HKN.out)
      clear SO X5 B5 I5 C5 K5
      go_upto_region 7 with (fail)
      clear c0 c1 c2 c3 c4 c5 f0 f1 f2 f3 f4 f5 u0 u1 u2 u3 u4 u5 U5
      generalize w5.setCell _ _ = w6 at *
      have HSM := Lib.hid fun W (hb : Below w6.heap.size w6 W) => rsame_any s.rows s.cols s.cur false s.ins va1 s.cs.length vc1 ad s.cs.length k s.cs s.cs W (C6.out.below hb) (I6.out.below hb) (by have := HL.out; omega)
      have HRG := Lib.hid fun W (hb : Below w6.heap.size w6 W) => rright_any ⟨s.rows, s.cols, s.cs, (g : Int), false, s.ins⟩ va1 vc1 W (C6.out.below hb) H8.out (by simp only; have := HL.out; omega)
      rw [decide_eq_true rfl] at HSM
      rw [HRT.out] at HRG
      simp only at HSM HRG
      have HSX := Lib.hid (show ∀ W', Below w6.heap.size w6 W' → Below w6.heap.size w6 W' ∧ (W'.cell? ⟨w.heap.size, 0, none⟩ = some (.int .i64 s.rows) ∧ W'.cell? ⟨w.heap.size, 1, none⟩ = some (.int .i64 s.cols) ∧ W'.cell? ⟨w.heap.size, 2, none⟩ = some (.slice ad s.cs.length k) ∧ W'.cell? ⟨w.heap.size, 3, none⟩ = some (.int .i64 s.cur) ∧ W'.cell? ⟨w.heap.size, 4, none⟩ = some (.bool false) ∧ W'.cell? ⟨w.heap.size, 5, none⟩ = some (.bool s.ins)) ∧ (W'.cell? ⟨N1, 0, none⟩ = some (.int .i64 s.rows) ∧ W'.cell? ⟨N1, 1, none⟩ = some (.int .i64 s.cols) ∧ W'.cell? ⟨N1, 2, none⟩ = some (.slice va1 s.cs.length vc1) ∧ W'.cell? ⟨N1, 3, none⟩ = some (.int .i64 (g : Int)) ∧ W'.cell? ⟨N1, 4, none⟩ = some (.bool false) ∧ W'.cell? ⟨N1, 5, none⟩ = some (.bool s.ins)) ∧ (W'.cell? ⟨N2, 0, none⟩ = some (.int .i64 s.rows) ∧ W'.cell? ⟨N2, 1, none⟩ = some (.int .i64 s.cols) ∧ W'.cell? ⟨N2, 2, none⟩ = some (.slice va1 s.cs.length vc1) ∧ W'.cell? ⟨N2, 3, none⟩ = some (.int .i64 s.cur) ∧ W'.cell? ⟨N2, 4, none⟩ = some (.bool false) ∧ W'.cell? ⟨N2, 5, none⟩ = some (.bool s.ins)) from fun W' hW => ⟨hW, cells6 (blk X6.out hW), cells6 (blk B6.out hW), cells6 (blk U6.out hW)⟩)
      refine wp_region_held_drew (S := fun W' => Below w6.heap.size w6 W' ∧ (W'.cell? ⟨w.heap.size, 0, none⟩ = some (.int .i64 s.rows) ∧ W'.cell? ⟨w.heap.size, 1, none⟩ = some (.int .i64 s.cols) ∧ W'.cell? ⟨w.heap.size, 2, none⟩ = some (.slice ad s.cs.length k) ∧ W'.cell? ⟨w.heap.size, 3, none⟩ = some (.int .i64 s.cur) ∧ W'.cell? ⟨w.heap.size, 4, none⟩ = some (.bool false) ∧ W'.cell? ⟨w.heap.size, 5, none⟩ = some (.bool s.ins)) ∧ (W'.cell? ⟨N1, 0, none⟩ = some (.int .i64 s.rows) ∧ W'.cell? ⟨N1, 1, none⟩ = some (.int .i64 s.cols) ∧ W'.cell? ⟨N1, 2, none⟩ = some (.slice va1 s.cs.length vc1) ∧ W'.cell? ⟨N1, 3, none⟩ = some (.int .i64 (g : Int)) ∧ W'.cell? ⟨N1, 4, none⟩ = some (.bool false) ∧ W'.cell? ⟨N1, 5, none⟩ = some (.bool s.ins)) ∧ (W'.cell? ⟨N2, 0, none⟩ = some (.int .i64 s.rows) ∧ W'.cell? ⟨N2, 1, none⟩ = some (.int .i64 s.cols) ∧ W'.cell? ⟨N2, 2, none⟩ = some (.slice va1 s.cs.length vc1) ∧ W'.cell? ⟨N2, 3, none⟩ = some (.int .i64 s.cur) ∧ W'.cell? ⟨N2, 4, none⟩ = some (.bool false) ∧ W'.cell? ⟨N2, 5, none⟩ = some (.bool s.ins))) (by kernel_rfl) (HSX.out _ (Below.refl _ _).drew) (fun hHeld => ?_)
      refine' wpAnyH_take (i := 0) (oi := _) (v := _) ?hi0 (by kernel_rfl) (by kernel_rfl) (by kernel_rfl) ?hq0 ?hy0 (by assumption) ?rest0
      case hi0 => (simp only [List.getElem?_toArray, List.getElem?_cons_zero]; rfl)
      case hy0 =>
        refine Or.inl ⟨by rfl, ?_⟩
        intro w' hSw
        try dsimp only at hSw
        go_simp
        try with_reducible rfl
      case hq0 => exact fun _ _ _ h => h
      simp only [Act.put, List.setIfInBounds_toArray, List.set_cons_zero, List.set_cons_succ]
      refine' wpAnyH_take (i := 1) (oi := _) (v := _) ?hi1 (by kernel_rfl) (by kernel_rfl) (by kernel_rfl) ?hq1 ?hy1 (by assumption) ?rest1
      case hi1 => (simp only [List.getElem?_toArray, List.getElem?_cons_succ, List.getElem?_cons_zero]; rfl)
      case hy1 =>
        refine Or.inl ⟨by rfl, ?_⟩
        intro w' hSw
        try dsimp only at hSw
        go_simp
        try with_reducible rfl
      case hq1 => exact fun _ _ _ h => h
      simp only [Act.put, List.setIfInBounds_toArray, List.set_cons_zero, List.set_cons_succ]
      refine wpAnyH_ready (rs := [2]) (by kernel_rfl) (by simp) (AllReadyH.cons rfl (fun K hK => ?_) AllReadyH.nil)
      go_simp
      with_reducible refine (HSM.out _ (And.left (by assumption))).mono ?_
      rintro e wg ⟨rfl, hb⟩
      have hS := HSX.out wg (kept_trans hHeld.1 hb)
      clear hb hHeld
      refine hK.out _ _ hS (fun hHeld => ?_)
      clear hK K hS
      try simp only [Act.put, List.setIfInBounds_toArray, List.set_cons_zero, List.set_cons_succ]
      refine' wpAnyH_take (i := 3) (oi := _) (v := _) ?hi3 (by kernel_rfl) (by kernel_rfl) (by kernel_rfl) ?hq3 ?hy3 (by assumption) ?rest3
      case hi3 => (simp only [List.getElem?_toArray, List.getElem?_cons_succ, List.getElem?_cons_zero]; rfl)
      case hy3 =>
        refine Or.inl ⟨by rfl, ?_⟩
        intro w' hSw
        try dsimp only at hSw
        go_simp
        try with_reducible rfl
      case hq3 => exact fun _ _ _ h => h
      simp only [Act.put, List.setIfInBounds_toArray, List.set_cons_zero, List.set_cons_succ]
      refine' wpAnyH_take (i := 4) (oi := _) (v := _) ?hi4 (by kernel_rfl) (by kernel_rfl) (by kernel_rfl) ?hq4 ?hy4 (by assumption) ?rest4
      case hi4 => (simp only [List.getElem?_toArray, List.getElem?_cons_succ, List.getElem?_cons_zero]; rfl)
      case hy4 =>
        refine Or.inl ⟨by rfl, ?_⟩
        intro w' hSw
        try dsimp only at hSw
        go_simp
        try with_reducible rfl
      case hq4 => exact fun _ _ _ h => h
      simp only [Act.put, List.setIfInBounds_toArray, List.set_cons_zero, List.set_cons_succ]
      refine' wpAnyH_take (i := 5) (oi := _) (v := _) ?hi5 (by kernel_rfl) (by kernel_rfl) (by kernel_rfl) ?hq5 ?hy5 (by assumption) ?rest5
      case hi5 => (simp only [List.getElem?_toArray, List.getElem?_cons_succ, List.getElem?_cons_zero]; rfl)
      case hy5 =>
        refine Or.inl ⟨by rfl, ?_⟩
        intro w' hSw
        try dsimp only at hSw
        go_simp
        try with_reducible rfl
      case hq5 => exact fun _ _ _ h => h
      simp only [Act.put, List.setIfInBounds_toArray, List.set_cons_zero, List.set_cons_succ]
      refine wpAnyH_ready (rs := [6]) (by kernel_rfl) (by simp) (AllReadyH.cons rfl (fun K hK => ?_) AllReadyH.nil)
      go_simp
      with_reducible refine (HRG.out _ (And.left (by assumption))).mono ?_
      rintro e wn ⟨rfl, hb⟩
      have hS := HSX.out wn (kept_trans hHeld.1 hb)
      clear hb hHeld
      refine hK.out _ _ hS (fun hHeld => ?_)
      clear hK K hS
      try simp only [Act.put, List.setIfInBounds_toArray, List.set_cons_zero, List.set_cons_succ]
      refine' wpAnyH_take (i := 7) (oi := _) (v := _) ?hi7 (by kernel_rfl) (by kernel_rfl) (by kernel_rfl) ?hq7 ?hy7 (by assumption) ?rest7
      case hi7 => (simp only [List.getElem?_toArray, List.getElem?_cons_succ, List.getElem?_cons_zero]; rfl)
      case hy7 =>
        refine Or.inl ⟨by rfl, ?_⟩
        intro w' hSw
        try dsimp only at hSw
        go_simp
        try with_reducible rfl
      case hq7 => exact fun _ _ _ h => h
      simp only [Act.put, List.setIfInBounds_toArray, List.set_cons_zero, List.set_cons_succ]
      refine' wpAnyH_take (i := 8) (oi := _) (v := _) ?hi8 (by kernel_rfl) (by kernel_rfl) (by kernel_rfl) ?hq8 ?hy8 (by assumption) ?rest8
      case hi8 => (simp only [List.getElem?_toArray, List.getElem?_cons_succ, List.getElem?_cons_zero]; rfl)
      case hy8 =>
        refine Or.inl ⟨by rfl, ?_⟩
        intro w' hSw
        try dsimp only at hSw
        go_simp
        try with_reducible rfl
      case hq8 => exact fun _ _ _ h => h
      simp only [Act.put, List.setIfInBounds_toArray, List.set_cons_zero, List.set_cons_succ]
      refine' wpAnyH_take (i := 9) (oi := _) (v := _) ?hi9 (by kernel_rfl) (by kernel_rfl) (by kernel_rfl) ?hq9 ?hy9 (by assumption) ?rest9
      case hi9 => (simp only [List.getElem?_toArray, List.getElem?_cons_succ, List.getElem?_cons_zero]; rfl)
      case hy9 =>
        refine Or.inl ⟨by rfl, ?_⟩
        intro w' hSw
        try dsimp only at hSw
        go_simp
        try with_reducible rfl
      case hq9 => exact fun _ _ _ h => h
      simp only [Act.put, List.setIfInBounds_toArray, List.set_cons_zero, List.set_cons_succ]
      refine' wpAnyH_take (i := 10) (oi := _) (v := _) ?hi10 (by kernel_rfl) (by kernel_rfl) (by kernel_rfl) ?hq10 ?hy10 (by assumption) ?rest10
      case hi10 => (simp only [List.getElem?_toArray, List.getElem?_cons_succ, List.getElem?_cons_zero]; rfl)
      case hy10 =>
        refine Or.inl ⟨by rfl, ?_⟩
        intro w' hSw
        try dsimp only at hSw
        go_simp
        try with_reducible rfl
      case hq10 => exact fun _ _ _ h => h
      simp only [Act.put, List.setIfInBounds_toArray, List.set_cons_zero, List.set_cons_succ]
      refine' wpAnyH_take (i := 11) (oi := _) (v := _) ?hi11 (by kernel_rfl) (by kernel_rfl) (by kernel_rfl) ?hq11 ?hy11 (by assumption) ?rest11
      case hi11 => (simp only [List.getElem?_toArray, List.getElem?_cons_succ, List.getElem?_cons_zero]; rfl)
      case hy11 =>
        refine Or.inl ⟨by rfl, ?_⟩
        intro w' hSw
        try dsimp only at hSw
        go_simp
        try with_reducible rfl
      case hq11 => exact fun _ _ _ h => h
      simp only [Act.put, List.setIfInBounds_toArray, List.set_cons_zero, List.set_cons_succ]
      refine' wpAnyH_take (i := 12) (oi := _) (v := _) ?hi12 (by kernel_rfl) (by kernel_rfl) (by kernel_rfl) ?hq12 ?hy12 (by assumption) ?rest12
      case hi12 => (simp only [List.getElem?_toArray, List.getElem?_cons_succ, List.getElem?_cons_zero]; rfl)
      case hy12 =>
        refine Or.inl ⟨by rfl, ?_⟩
        intro w' hSw
        try dsimp only at hSw
        go_simp
        try with_reducible rfl
      case hq12 => exact fun _ _ _ h => h
      simp only [Act.put, List.setIfInBounds_toArray, List.set_cons_zero, List.set_cons_succ]
      refine' wpAnyH_take (i := 13) (oi := _) (v := _) ?hi13 (by kernel_rfl) (by kernel_rfl) (by kernel_rfl) ?hq13 ?hy13 (by assumption) ?rest13
      case hi13 => (simp only [List.getElem?_toArray, List.getElem?_cons_succ, List.getElem?_cons_zero]; rfl)
      case hy13 =>
        refine Or.inl ⟨by rfl, ?_⟩
        intro w' hSw
        try dsimp only at hSw
        go_simp
        try with_reducible rfl
      case hq13 => exact fun _ _ _ h => h
      simp only [Act.put, List.setIfInBounds_toArray, List.set_cons_zero, List.set_cons_succ]
      refine' wpAnyH_take (i := 14) (oi := _) (v := _) ?hi14 (by kernel_rfl) (by kernel_rfl) (by kernel_rfl) ?hq14 ?hy14 (by assumption) ?rest14
      case hi14 => (simp only [List.getElem?_toArray, List.getElem?_cons_succ, List.getElem?_cons_zero]; rfl)
      case hy14 =>
        refine Or.inl ⟨by rfl, ?_⟩
        intro w' hSw
        try dsimp only at hSw
        go_simp
        try with_reducible rfl
      case hq14 => exact fun _ _ _ h => h
      simp only [Act.put, List.setIfInBounds_toArray, List.set_cons_zero, List.set_cons_succ]
      refine' wpAnyH_take (i := 15) (oi := _) (v := _) ?hi15 (by kernel_rfl) (by kernel_rfl) (by kernel_rfl) ?hq15 ?hy15 (by assumption) ?rest15
      case hi15 => (simp only [List.getElem?_toArray, List.getElem?_cons_succ, List.getElem?_cons_zero]; rfl)
      case hy15 =>
        refine Or.inl ⟨by rfl, ?_⟩
        intro w' hSw
        try dsimp only at hSw
        go_simp
        try with_reducible rfl
      case hq15 => exact fun _ _ _ h => h
      simp only [Act.put, List.setIfInBounds_toArray, List.set_cons_zero, List.set_cons_succ]
      refine' wpAnyH_take (i := 16) (oi := _) (v := _) ?hi16 (by kernel_rfl) (by kernel_rfl) (by kernel_rfl) ?hq16 ?hy16 (by assumption) ?rest16
      case hi16 => (simp only [List.getElem?_toArray, List.getElem?_cons_succ, List.getElem?_cons_zero]; rfl)
      case hy16 =>
        refine Or.inl ⟨by rfl, ?_⟩
        intro w' hSw
        try dsimp only at hSw
        go_simp
        try with_reducible rfl
      case hq16 => exact fun _ _ _ h => h
      simp only [Act.put, List.setIfInBounds_toArray, List.set_cons_zero, List.set_cons_succ]
      refine' wpAnyH_take (i := 17) (oi := _) (v := _) ?hi17 (by kernel_rfl) (by kernel_rfl) (by kernel_rfl) ?hq17 ?hy17 (by assumption) ?rest17
      case hi17 => (simp only [List.getElem?_toArray, List.getElem?_cons_succ, List.getElem?_cons_zero]; rfl)
      case hy17 =>
        refine Or.inl ⟨by rfl, ?_⟩
        intro w' hSw
        try dsimp only at hSw
        go_simp
        try with_reducible rfl
      case hq17 => exact fun _ _ _ h => h
      simp only [Act.put, List.setIfInBounds_toArray, List.set_cons_zero, List.set_cons_succ]
      refine' wpAnyH_take (i := 18) (oi := _) (v := _) ?hi18 (by kernel_rfl) (by kernel_rfl) (by kernel_rfl) ?hq18 ?hy18 (by assumption) ?rest18
      case hi18 => (simp only [List.getElem?_toArray, List.getElem?_cons_succ, List.getElem?_cons_zero]; rfl)
      case hy18 =>
        refine Or.inl ⟨by rfl, ?_⟩
        intro w' hSw
        try dsimp only at hSw
        go_simp
        try with_reducible rfl
      case hq18 => exact fun _ _ _ h => h
      simp only [Act.put, List.setIfInBounds_toArray, List.set_cons_zero, List.set_cons_succ]
      refine' wpAnyH_take (i := 19) (oi := _) (v := _) ?hi19 (by kernel_rfl) (by kernel_rfl) (by kernel_rfl) ?hq19 ?hy19 (by assumption) ?rest19
      case hi19 => (simp only [List.getElem?_toArray, List.getElem?_cons_succ, List.getElem?_cons_zero]; rfl)
      case hy19 =>
        refine Or.inl ⟨by rfl, ?_⟩
        intro w' hSw
        try dsimp only at hSw
        go_simp
        try with_reducible rfl
      case hq19 => exact fun _ _ _ h => h
      simp only [Act.put, List.setIfInBounds_toArray, List.set_cons_zero, List.set_cons_succ]
      refine' wpAnyH_take (i := 20) (oi := _) (v := undef) ?hi20 (by kernel_rfl) (by kernel_rfl) (by kernel_rfl) ?hq20 ?hy20 (by assumption) ?rest20
      case hi20 => (simp only [List.getElem?_toArray, List.getElem?_cons_succ, List.getElem?_cons_zero]; rfl)
      case hy20 =>
        refine Or.inr ⟨by rfl, rfl⟩
      case hq20 => exact fun _ _ _ h => h
      try simp only [Act.put, List.setIfInBounds_toArray, List.set_cons_zero, List.set_cons_succ]
      refine' wpAnyH_take (i := 21) (oi := _) (v := undef) ?hi21 (by kernel_rfl) (by kernel_rfl) (by kernel_rfl) ?hq21 ?hy21 (by assumption) ?rest21
      case hi21 => (simp only [List.getElem?_toArray, List.getElem?_cons_succ, List.getElem?_cons_zero]; rfl)
      case hy21 =>
        refine Or.inr ⟨by rfl, rfl⟩
      case hq21 => exact fun _ _ _ h => h
      try simp only [Act.put, List.setIfInBounds_toArray, List.set_cons_zero, List.set_cons_succ]
      refine' wpAnyH_take (i := 22) (oi := _) (v := undef) ?hi22 (by kernel_rfl) (by kernel_rfl) (by kernel_rfl) ?hq22 ?hy22 (by assumption) ?rest22
      case hi22 => (simp only [List.getElem?_toArray, List.getElem?_cons_succ, List.getElem?_cons_zero]; rfl)
      case hy22 =>
        refine Or.inr ⟨by rfl, rfl⟩
      case hq22 => exact fun _ _ _ h => h
      try simp only [Act.put, List.setIfInBounds_toArray, List.set_cons_zero, List.set_cons_succ]
      refine' wpAnyH_take (i := 23) (oi := _) (v := undef) ?hi23 (by kernel_rfl) (by kernel_rfl) (by kernel_rfl) ?hq23 ?hy23 (by assumption) ?rest23
      case hi23 => (simp only [List.getElem?_toArray, List.getElem?_cons_succ, List.getElem?_cons_zero]; rfl)
      case hy23 =>
        refine Or.inr ⟨by rfl, rfl⟩
      case hq23 => exact fun _ _ _ h => h
      try simp only [Act.put, List.setIfInBounds_toArray, List.set_cons_zero, List.set_cons_succ]
      refine' wpAnyH_take (i := 24) (oi := _) (v := undef) ?hi24 (by kernel_rfl) (by kernel_rfl) (by kernel_rfl) ?hq24 ?hy24 (by assumption) ?rest24
      case hi24 => (simp only [List.getElem?_toArray, List.getElem?_cons_succ, List.getElem?_cons_zero]; rfl)
      case hy24 =>
        refine Or.inr ⟨by rfl, rfl⟩
      case hq24 => exact fun _ _ _ h => h
      try simp only [Act.put, List.setIfInBounds_toArray, List.set_cons_zero, List.set_cons_succ]
      refine' wpAnyH_take (i := 25) (oi := _) (v := _) ?hi25 (by kernel_rfl) (by kernel_rfl) (by kernel_rfl) ?hq25 ?hy25 (by assumption) ?rest25
      case hi25 => (simp only [List.getElem?_toArray, List.getElem?_cons_succ, List.getElem?_cons_zero]; rfl)
      case hy25 =>
        refine Or.inl ⟨by rfl, ?_⟩
        intro w' hSw
        try dsimp only at hSw
        go_simp
        try with_reducible rfl
      case hq25 => exact fun _ _ _ h => h
      simp only [Act.put, List.setIfInBounds_toArray, List.set_cons_zero, List.set_cons_succ]
      refine' wpAnyH_take (i := 26) (oi := _) (v := _) ?hi26 (by kernel_rfl) (by kernel_rfl) (by kernel_rfl) ?hq26 ?hy26 (by assumption) ?rest26
      case hi26 => (simp only [List.getElem?_toArray, List.getElem?_cons_succ, List.getElem?_cons_zero]; rfl)
      case hy26 =>
        refine Or.inl ⟨by rfl, ?_⟩
        intro w' hSw
        try dsimp only at hSw
        go_simp
        try with_reducible rfl
      case hq26 => exact fun _ _ _ h => h
      simp only [Act.put, List.setIfInBounds_toArray, List.set_cons_zero, List.set_cons_succ]
      refine wpAnyH_done (by kernel_rfl) ?_ _
      rename_i wz _
      have KZ := kept_hid K6 hHeld.1
      have KZ6 := Lib.hid hHeld.1
      clear hHeld
      by_cases h6 : kn < 6
      · have h6b : decide ((kn : Int) < 6) = true := by simp; omega
        have h6c : (kn : Int) < 6 := by omega
        go_wp2_with fail
        go_ret
        exact ⟨rfl, KZ.out⟩
      · have h6b : decide ((kn : Int) < 6) = false := by simp; omega
        have h6c : ¬ (kn : Int) < 6 := by omega
        have HNX := Lib.hid fun W (hb : Below w6.heap.size w6 W) => rnextf_any ⟨s.rows, s.cols, s.cs, s.cur, false, s.ins⟩ ad k 0 W (I6.out.below hb) HP.out (by simp only; have := HL.out; omega) HP.out
        simp only [show ((0 : Nat) : Int) = 0 from rfl] at HNX
        have HOP := Lib.hid fun W (hb : Below w6.heap.size w6 W) => ropen_any ⟨s.rows, s.cols, s.cs, (g : Int), false, s.ins⟩ va1 vc1 g W (C6.out.below hb) HP.out (by simp only; have := HL.out; omega) HGL.out
        simp only at HOP
        have HGO := Lib.hid (show 0 ≤ next s.cs 0 → open_ s.cs g = true from HOPEN.out (by omega))
        obtain ⟨c0, c1, c2, c3, c4, c5⟩ := cells6 (blk X6.out KZ6.out)
        obtain ⟨d0, d1, d2, d3, d4, d5⟩ := cells6 (blk B6.out KZ6.out)
        clear h6
        generalize next s.cs 0 = nx at *
        go_wp2_with fail
        with_reducible refine (HNX.out _ KZ6.out).mono ?_
        rintro e w8 ⟨rfl, hb⟩
        clear c0 c1 c2 c3 c4 c5 d0 d1 d2 d3 d4 d5
        have K8 := kept_hid KZ hb
        have K86 := kept_hid KZ6 hb
        obtain ⟨d0, d1, d2, d3, d4, d5⟩ := cells6 (blk B6.out K86.out)
        clear hb
        by_cases hn : nx < 0
        · go_wp2_with fail
          go_ret
          exact ⟨rfl, K8.out⟩
        · rw [HGO.out (by omega)] at HOP
          go_wp2_with fail
          with_reducible refine (HOP.out _ K86.out).mono ?_
          rintro e w9 ⟨rfl, hb⟩
          have K9 := kept_hid K8 hb
          go_wp2_with fail
          go_ret
          exact ⟨rfl, K9.out⟩
end Mov
end Go.Proofs.YtjgodmfannhnhaaDoor
