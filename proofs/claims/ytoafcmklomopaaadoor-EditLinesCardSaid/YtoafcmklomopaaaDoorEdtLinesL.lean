/- The law EditLines. Written by tools/gen_edt_laws.py. -/
import Derived.Test.YtoafcmklomopaaaDoorEdtAwake
import Derived.Test.YtoafcmklomopaaaDoorEdtRtyp3
import Derived.Test.YtoafcmklomopaaaDoorBunGrd
import Derived.Test.YtoafcmklomopaaaDoorBunGrd
import Derived.Test.YtoafcmklomopaaaDoorOpnScr
import Derived.StillTailTactics
import Derived.Deep.Cut
import Derived.Deep.RegionHeld3
namespace Go.Proofs.YtoafcmklomopaaaDoor
open Go.RowKit Sha Six Apd Cut Err Att Grd Fld Scr
set_option linter.unusedVariables false
namespace Edt
set_option maxRecDepth 100000 in
set_option maxHeartbeats 8000000 in
theorem lines_any (s : S) (ad : Option Addr) (k : Nat) (a : Int) (c : Int) (w : World) (h : CelsIn w (.slice ad s.cs.length k) s.cs) (hwf : Opn.Wf s.cs) (hm : s.cs.length ≤ maxLen) (wa : (Lit.int .u16 a).wf = true) (wc : (Lit.int .u8 c).wf = true) (hg : Handle w) :
    Calls Tryd.prog 4 #[.agg #[.int .i64 s.rows, .int .i64 s.cols, .slice ad s.cs.length k, .int .i64 s.cur, .bool s.lk, .bool s.ins], .int .u16 a, .int .u8 c] w fun e w' => e = .returned (.bool true) ∧ Below w.heap.size w w' := by
  obtain ⟨b0a, b1a⟩ := Go.Proofs.YtoafcmklomopaaaDoor.Ord.wf_u16 wa
  obtain ⟨a, rfl⟩ := Int.eq_ofNat_of_zero_le b0a
  have HBa := Lib.hid (show a < 65536 by omega)
  obtain ⟨b0c, b1c⟩ := Go.Proofs.YtoafcmklomopaaaDoor.Ord.wf_u8 wc
  obtain ⟨c, rfl⟩ := Int.eq_ofNat_of_zero_le b0c
  have HBc := Lib.hid (show c < 256 by omega)
  have HG := Lib.hid fun W (hb : Below w.heap.size w W) => hand_of hg hb
  have HAW := Lib.hid fun W (hb : Below w.heap.size w W) => awake_any W (hand_of hg hb)
  have HB := Lib.hid (al_any w (.cells #[.int .i64 s.rows, .int .i64 s.cols, .slice ad s.cs.length k, .int .i64 s.cur, .bool s.lk, .bool s.ins] 24))
  have HX := Lib.hid (heap_alloc_new w (.cells #[.int .i64 s.rows, .int .i64 s.cols, .slice ad s.cs.length k, .int .i64 s.cur, .bool s.lk, .bool s.ins] 24))
  have HI := Lib.hid (h.below HB.out)
  have HF := Lib.hid fun W hb => rfew_any s ad k W (HI.out.below hb) (wf_sound hwf)
  have H8 := Lib.hid (wf_sound hwf)
  have HCO := Lib.hid fun W ev (c n : Int) (hb : Below w.heap.size w W) (ht : Err.Told W ev c n) => code_told ev c n W (hand_of hg hb) ht
  have HWH := Lib.hid fun W ev (c n : Int) (hb : Below w.heap.size w W) (ht : Err.Told W ev c n) => where_told ev c n W (hand_of hg hb) ht
  clear h hwf hm hg wa wc b0a b1a b0c b1c
  cases hf : few s with
  | false =>
    rw [hf] at HF
    go_enter Tryd.func4, Tryd.ntmps4
    go_upto_region 1 with (fail)
    generalize w.alloc _ = w1 at *
    go_wp2_with fail
    with_reducible refine (HAW.out _ HB.out).mono ?_
    rintro e w2 ⟨rfl, hb⟩
    have K2 := Lib.hid hb
    have X2 := Lib.hid (blk HX.out hb)
    have K2' := kept_hid HB hb
    have I2 := Lib.hid (HI.out.below hb)
    clear hb
    obtain ⟨c0, c1, c2, c3, c4, c5⟩ := cells6 X2.out
    go_wp2_with fail
    with_reducible refine (HF.out _ K2.out).mono ?_
    rintro e w3 ⟨rfl, hb⟩
    have K3 := kept_hid K2' hb
    have X3 := Lib.hid (blk X2.out hb)
    have I3 := Lib.hid (I2.out.below hb)
    clear hb c0 c1 c2 c3 c4 c5 K2 K2' X2 I2 HB HX HI HF
    go_wp2_with fail
    with_reducible refine (HAW.out _ K3.out).mono ?_
    rintro e w4 ⟨rfl, hb⟩
    have KE := kept_hid K3 hb
    clear hb
    go_wp2_with fail
    go_ret
    exact ⟨rfl, KE.out⟩
  | true =>
    rw [hf] at HF
    obtain ⟨q1, q2, q3⟩ := few_parts hf
    have HL := Lib.hid q1
    have HP := Lib.hid q2
    have HR := Lib.hid q3
    have HLT := Lib.hid (show s.cs.length < 10000 from by have := HL.out; omega)
    clear q1 q2 q3 hf
    have hx : ((a : Int) % (s.cs.length : Int)) = ((a % s.cs.length : Nat) : Int) := by omega
    have HA1 := Lib.hid (Nat.mod_lt a HP.out)
    have hne : ¬ ((s.cs.length : Int) = 0) := by have := HP.out; omega
    have ha0 : (0 : Int) ≤ (a : Int) := by omega
    have ha1 : (a : Int) < 65536 := by have := HBa.out; omega
    generalize a % s.cs.length = a1 at *
    go_enter Tryd.func4, Tryd.ntmps4
    go_upto_region 1 with (fail)
    generalize w.alloc _ = w1 at *
    go_wp2_with fail
    with_reducible refine (HAW.out _ HB.out).mono ?_
    rintro e w2 ⟨rfl, hb⟩
    have K2 := Lib.hid hb
    have X2 := Lib.hid (blk HX.out hb)
    have K2' := kept_hid HB hb
    have I2 := Lib.hid (HI.out.below hb)
    clear hb
    obtain ⟨c0, c1, c2, c3, c4, c5⟩ := cells6 X2.out
    go_wp2_with fail
    with_reducible refine (HF.out _ K2.out).mono ?_
    rintro e w3 ⟨rfl, hb⟩
    have K3 := kept_hid K2' hb
    have X3 := Lib.hid (blk X2.out hb)
    have I3 := Lib.hid (I2.out.below hb)
    clear hb c0 c1 c2 c3 c4 c5 K2 K2' X2 I2 HB HX HI HF
    clear HAW
    obtain ⟨c0, c1, c2, c3, c4, c5⟩ := cells6 X3.out
    go_upto_region 4 with (fail)
    clear c0 c1 c2 c3 c4 c5
    have Q0 := Lib.hid (deny_any s ad k 10 w3 I3.out HLT.out HP.out (by decide))
    simp only [GaveE, deny] at Q0
    obtain ⟨c0, c1, c2, c3, c4, c5⟩ := cells6 X3.out
    go_wp2_with fail
    with_reducible refine Q0.out.mono ?_
    rintro e w4 ⟨va1, vc1, ev1, rfl, hc, ht, hn, hb⟩
    clear c0 c1 c2 c3 c4 c5
    have HA := al_any w4 (.cells #[.int .i64 s.rows, .int .i64 s.cols, .slice va1 s.cs.length vc1, .int .i64 s.cur, .bool true, .bool s.ins] 24)
    have B1 := Lib.hid (heap_alloc_new w4 (.cells #[.int .i64 s.rows, .int .i64 s.cols, .slice va1 s.cs.length vc1, .int .i64 s.cur, .bool true, .bool s.ins] 24))
    have C1 := Lib.hid (hc.below HA)
    have T1 := Lib.hid (Err.Told.below ht HA)
    have E1 := Lib.hid (fun h => (hn h).1)
    clear hn
    replace hb := kept_trans hb HA
    replace X3 := Lib.hid (blk X3.out hb)
    replace I3 := Lib.hid (I3.out.below hb)
    replace K3 := kept_hid K3 hb
    clear HA hc ht hb
    go_upto_region 5 with (fail)
    generalize w4.heap.size = N1 at *
    generalize w4.alloc _ = w4b at *
    clear hx hne ha0 ha1
    have HSX := Lib.hid (show ∀ W', Below w4b.heap.size w4b W' → Below w4b.heap.size w4b W' ∧ (W'.cell? ⟨w.heap.size, 0, none⟩ = some (.int .i64 s.rows) ∧ W'.cell? ⟨w.heap.size, 1, none⟩ = some (.int .i64 s.cols) ∧ W'.cell? ⟨w.heap.size, 2, none⟩ = some (.slice ad s.cs.length k) ∧ W'.cell? ⟨w.heap.size, 3, none⟩ = some (.int .i64 s.cur) ∧ W'.cell? ⟨w.heap.size, 4, none⟩ = some (.bool s.lk) ∧ W'.cell? ⟨w.heap.size, 5, none⟩ = some (.bool s.ins)) ∧ (W'.cell? ⟨N1, 0, none⟩ = some (.int .i64 s.rows) ∧ W'.cell? ⟨N1, 1, none⟩ = some (.int .i64 s.cols) ∧ W'.cell? ⟨N1, 2, none⟩ = some (.slice va1 s.cs.length vc1) ∧ W'.cell? ⟨N1, 3, none⟩ = some (.int .i64 s.cur) ∧ W'.cell? ⟨N1, 4, none⟩ = some (.bool true) ∧ W'.cell? ⟨N1, 5, none⟩ = some (.bool s.ins)) from fun W' hW => ⟨hW, cells6 (blk X3.out hW), cells6 (blk B1.out hW)⟩)
    have Q1 := Lib.hid fun W (hb : Below w4b.heap.size w4b W) => line_any s ad k a1 W (I3.out.below hb) H8.out HLT.out HA1.out
    have Q2 := Lib.hid fun W (hb : Below w4b.heap.size w4b W) => rline_any s ad k a1 W (I3.out.below hb) HLT.out HP.out HA1.out
    have Q3 := Lib.hid fun W (hb : Below w4b.heap.size w4b W) => modify_any s ad k a1 W (I3.out.below hb) H8.out HLT.out HA1.out
    have Q4 := Lib.hid fun W (hb : Below w4b.heap.size w4b W) => rmodify_any s ad k a1 W (I3.out.below hb) HLT.out HP.out HA1.out
    have Q5 := Lib.hid fun W => digit_any c W HBc.out
    have Q6 := Lib.hid fun W => rdigit_b c W HBc.out
    have Q7 := Lib.hid fun W (hb : Below w4b.heap.size w4b W) => rdeny_any s ad k W (I3.out.below hb) HLT.out HP.out
    have Q8 := Lib.hid fun W (hb : Below w4b.heap.size w4b W) => HCO.out W _ _ _ (kept_trans K3.out hb) (Err.Told.below T1.out hb)
    have Q9 := Lib.hid fun W (hb : Below w4b.heap.size w4b W) => HWH.out W _ _ _ (kept_trans K3.out hb) (Err.Told.below T1.out hb)
    have HCD := Lib.hid fun W (hb : Below w4b.heap.size w4b W) => C1.out.below hb
    have HLL := Lib.hid (show (line s.cs a1).length < 100000000 from by rw [line_length]; have := lineLen_le HA1.out; have := HL.out; omega)
    have HML := Lib.hid (show (modif s a1).cs.length < 1000000000 from by rw [modif_length]; have := HL.out; omega)
    have HDL := Lib.hid (show s.cs.length < 1000000000 from by have := HL.out; omega)
    simp only [GaveA, deny] at Q3 Q4 Q7
    generalize line s.cs a1 = l at *
    generalize modif s a1 = md at *
    generalize digit c = dg at *
    go_region_held3 (fun W' => Below w4b.heap.size w4b W' ∧ (W'.cell? ⟨w.heap.size, 0, none⟩ = some (.int .i64 s.rows) ∧ W'.cell? ⟨w.heap.size, 1, none⟩ = some (.int .i64 s.cols) ∧ W'.cell? ⟨w.heap.size, 2, none⟩ = some (.slice ad s.cs.length k) ∧ W'.cell? ⟨w.heap.size, 3, none⟩ = some (.int .i64 s.cur) ∧ W'.cell? ⟨w.heap.size, 4, none⟩ = some (.bool s.lk) ∧ W'.cell? ⟨w.heap.size, 5, none⟩ = some (.bool s.ins)) ∧ (W'.cell? ⟨N1, 0, none⟩ = some (.int .i64 s.rows) ∧ W'.cell? ⟨N1, 1, none⟩ = some (.int .i64 s.cols) ∧ W'.cell? ⟨N1, 2, none⟩ = some (.slice va1 s.cs.length vc1) ∧ W'.cell? ⟨N1, 3, none⟩ = some (.int .i64 s.cur) ∧ W'.cell? ⟨N1, 4, none⟩ = some (.bool true) ∧ W'.cell? ⟨N1, 5, none⟩ = some (.bool s.ins)))
      ((refine HSX.out _ ?_; first | with_reducible exact (Below.refl _ _).drew | with_reducible exact (Below.refl _ _) | with_reducible exact (And.left (by assumption)) | with_reducible exact kept_trans (And.left (by assumption)) hb))
      (first
        | (go_at_call 17; with_reducible refine (Q1.out _ (And.left (by assumption))).mono ?_; rintro e wa ⟨v1, rfl, ho1, hb⟩)
        | (go_at_call 18; with_reducible refine (Q2.out _ (And.left (by assumption))).mono ?_; rintro e wb ⟨v2, rfl, ho2, hb⟩; replace ho1 := ho1.below hb)
        | (go_at_call 16; with_reducible refine (rints_in _ _ _ _ ho1 ho2.to HLL.out).mono ?_; rintro e wg ⟨rfl, m, rfl⟩; have hb := below_drewN wb.heap.size m wb)
        | (go_at_call 19; with_reducible refine (Q3.out _ (And.left (by assumption))).mono ?_; rintro e wh ⟨va3, vc3, rfl, ho3, hb⟩)
        | (go_at_call 20; with_reducible refine (Q4.out _ (And.left (by assumption))).mono ?_; rintro e wi ⟨va4, vc4, rfl, ho4, hb⟩; replace ho3 := ho3.below hb)
        | (go_at_call 21; with_reducible refine (Q5.out _).mono ?_; rintro e wk ⟨rfl, hb⟩)
        | (go_at_call 22; with_reducible refine (Q6.out _).mono ?_; rintro e wl ⟨rfl, hb⟩)
        | (go_at_call 23; with_reducible refine (Q7.out _ (And.left (by assumption))).mono ?_; rintro e wm ⟨va5, vc5, rfl, ho5, hb⟩; have hc5 := HCD.out _ (kept_trans (And.left (by assumption : Below w4b.heap.size w4b _ ∧ _)) hb))
        | (go_at_call 12; first | (with_reducible refine (rsame_any _ _ _ _ _ _ _ _ _ _ _ _ _ _ ho3.to ho4.to HML.out).mono ?_; rintro e wj ⟨rfl, hb⟩; rw [decide_eq_true rfl]) | (with_reducible refine (rsame_any _ _ _ _ _ _ _ _ _ _ _ _ _ _ hc5 ho5.to HDL.out).mono ?_; rintro e wn ⟨rfl, hb⟩; rw [decide_eq_true rfl]))
        | (go_at_call 13; with_reducible refine (Q8.out _ (And.left (by assumption))).mono ?_; rintro e wo ⟨rfl, hb⟩)
        | (go_at_call 14; with_reducible refine (Q9.out _ (And.left (by assumption))).mono ?_; rintro e wp ⟨rfl, hb⟩))
    have hS := And.left (by assumption : Below w4b.heap.size w4b wp ∧ _)
    have K4 := kept_hid K3 hS
    clear hS hb
    go_wp2_with fail
    go_ret
    exact ⟨rfl, K4.out⟩
end Edt
end Go.Proofs.YtoafcmklomopaaaDoor
