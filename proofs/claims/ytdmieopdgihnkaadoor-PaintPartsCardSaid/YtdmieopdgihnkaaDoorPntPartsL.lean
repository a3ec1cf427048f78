/- The law PaintParts. Written by tools/gen_pnt_laws.py. -/
import Derived.Test.YtdmieopdgihnkaaDoorPntFewL
import Derived.Test.YtdmieopdgihnkaaDoorBunPnt
import Derived.Deep.RegionHeld3
import Derived.StillTailTactics
import Derived.Test.YtdmieopdgihnkaaDoorPntAwake
import Derived.Test.YtdmieopdgihnkaaDoorBunGrd
import Derived.Test.YtdmieopdgihnkaaDoorBunGrd
import Derived.Test.YtdmieopdgihnkaaDoorOpnScr
import Derived.Test.YtdmieopdgihnkaaDoorBunPnt
namespace Go.Proofs.YtdmieopdgihnkaaDoor
open Go.RowKit Sha Six Apd Cut Err Att Grd Fld
set_option linter.unusedVariables false
namespace Pnt
set_option maxRecDepth 100000 in
set_option maxHeartbeats 8000000 in
theorem parts_any (s : S) (ad : Option Addr) (k : Nat) (a : Int) (al : Option Addr) (nl cl : Nat) (os : List Go.Proofs.YtdmieopdgihnkaaDoor.Ord.O) (cut : Int) (w : World) (h : CelsIn w (.slice ad s.cs.length k) s.cs) (hwf : Opn.Wf s.cs) (hm : s.cs.length ≤ maxLen) (wa : (Lit.int .u16 a).wf = true) (hO : Str.OrdsIn w 0 (.slice al nl cl) os) (hos : ∀ o ∈ os, (∀ x ∈ o.t, x < 256) ∧ o.c < 256) (hom : os.length ≤ maxLen) (wcut : (Lit.int .u8 cut).wf = true) (hg : Handle w) :
    Calls Tryd.prog 6 #[.agg #[.int .i64 s.rows, .int .i64 s.cols, .slice ad s.cs.length k, .int .i64 s.cur, .bool s.lk, .bool s.ins], .int .u16 a, .slice al nl cl, .int .u8 cut] w fun e w' => e = .returned (.bool true) ∧ Below w.heap.size w w' := by
  obtain ⟨b0, b1⟩ := Go.Proofs.YtdmieopdgihnkaaDoor.Ord.wf_u16 wa
  obtain ⟨a, rfl⟩ := Int.eq_ofNat_of_zero_le b0
  have HA16 := Lib.hid b1
  have HAW := Lib.hid fun W (hb : Below w.heap.size w W) => awake_any W (hand_of hg hb)
  have HCO := Lib.hid fun W ev (c n : Int) (hb : Below w.heap.size w W) (ht : Err.Told W ev c n) => code_told ev c n W (hand_of hg hb) ht
  have HWH := Lib.hid fun W ev (c n : Int) (hb : Below w.heap.size w W) (ht : Err.Told W ev c n) => where_told ev c n W (hand_of hg hb) ht
  obtain rfl := hO.len
  obtain ⟨u0, u1⟩ := Go.Proofs.YtdmieopdgihnkaaDoor.Ord.wf_u8 wcut
  obtain ⟨cut, rfl⟩ := Int.eq_ofNat_of_zero_le u0
  have HC8 := Lib.hid u1
  clear u0 u1 wcut
  have HB := Lib.hid (al_any w (.cells #[.int .i64 s.rows, .int .i64 s.cols, .slice ad s.cs.length k, .int .i64 s.cur, .bool s.lk, .bool s.ins] 24))
  have HX := Lib.hid (heap_alloc_new w (.cells #[.int .i64 s.rows, .int .i64 s.cols, .slice ad s.cs.length k, .int .i64 s.cur, .bool s.lk, .bool s.ins] 24))
  have HI := Lib.hid (h.below HB.out)
  have HF := Lib.hid fun W hb => rfew_any s ad k W (HI.out.below hb) (wf_sound hwf)
  have H8 := Lib.hid (wf_sound hwf)
  have HO := Lib.hid hO
  have HFL := Lib.hid fun W hb => pfew_any al os.length cl os W (hO.below hb) hom
  have HOS := Lib.hid hos
  clear h hwf hm wa hO hos hom b0 b1 hg
  cases hf : few s with
  | false =>
    rw [hf] at HF
    go_enter Tryd.func6, Tryd.ntmps6
    go_upto_region 1 with (fail)
    generalize w.alloc _ = w1 at *
    go_wp2_with fail
    with_reducible refine (HAW.out _ HB.out).mono ?_
    rintro e w2 ⟨rfl, hb⟩
    have K2 := Lib.hid hb
    have X2 := Lib.hid (blk HX.out hb)
    have K2' := kept_hid HB hb
    clear hb
    obtain ⟨c0, c1, c2, c3, c4, c5⟩ := cells6 X2.out
    go_wp2_with fail
    with_reducible refine (HF.out _ K2.out).mono ?_
    rintro e w3 ⟨rfl, hb⟩
    have K3 := kept_hid K2' hb
    clear hb c0 c1 c2 c3 c4 c5
    go_wp2_with fail
    with_reducible refine (HAW.out _ K3.out).mono ?_
    rintro e w4 ⟨rfl, hb⟩
    have KE := kept_hid K3 hb
    clear hb
    go_wp2_with fail
    go_ret
    exact ⟨rfl, KE.out⟩
  | true =>
    rw [hf] at HF
    cases hfl : Str.fewB os with
    | false =>
      rw [hfl] at HFL
      go_enter Tryd.func6, Tryd.ntmps6
      go_upto_region 1 with (fail)
      generalize w.alloc _ = w1 at *
      go_wp2_with fail
      with_reducible refine (HAW.out _ HB.out).mono ?_
      rintro e w2 ⟨rfl, hb⟩
      have K2 := Lib.hid hb
      have X2 := Lib.hid (blk HX.out hb)
      have K2' := kept_hid HB hb
      have I2 := Lib.hid (HI.out.below hb)
      clear hb
      obtain ⟨c0, c1, c2, c3, c4, c5⟩ := cells6 X2.out
      go_wp2_with fail
      with_reducible refine (HF.out _ K2.out).mono ?_
      rintro e w3 ⟨rfl, hb⟩
      have K3' := kept_hid K2' hb
      have X3' := Lib.hid (blk X2.out hb)
      have I3' := Lib.hid (I2.out.below hb)
      clear hb c0 c1 c2 c3 c4 c5 K2 K2' X2 I2 HB HX HI HF
      go_wp2_with fail
      with_reducible refine (HFL.out _ K3'.out).mono ?_
      rintro e w4 ⟨rfl, hb⟩
      have K3 := kept_hid K3' hb
      have X3 := Lib.hid (blk X3'.out hb)
      have I3 := Lib.hid (I3'.out.below hb)
      clear hb K3' X3' I3' HFL
      go_wp2_with fail
      with_reducible refine (HAW.out _ K3.out).mono ?_
      rintro e w5 ⟨rfl, hb⟩
      have KE := kept_hid K3 hb
      clear hb
      go_wp2_with fail
      go_ret
      exact ⟨rfl, KE.out⟩
    | true =>
      rw [hfl] at HFL
      obtain ⟨hol, hsd⟩ := few_sound hfl HOS.out
      have HOL := Lib.hid hol
      have HSD := Lib.hid hsd
      clear hol hsd hfl
      obtain ⟨q1, q2, q3⟩ := few_parts hf
      have HL := Lib.hid q1
      have HP := Lib.hid q2
      have HR := Lib.hid q3
      have HXX := Lib.hid (show ((a : Int) % (s.cs.length : Int)) = ((a % s.cs.length : Nat) : Int) by omega)
      have HXL := Lib.hid (Nat.mod_lt a q2)
      generalize a % s.cs.length = x at *
      clear q1 q2 q3
      clear hf
      cases hpw : pwrong s.cs.length os with
      | none =>
        have HWN := Lib.hid (pwrong_none hpw)
        have HPW := Lib.hid hpw
        clear hpw
        have HNN := Lib.hid (show (cut : Int) % ((os.length : Int) + 1) = ((cut % (os.length + 1) : Nat) : Int) by rw [Int.natCast_emod, Int.natCast_add]; rfl)
        have HNL := Lib.hid (show cut % (os.length + 1) ≤ os.length from by have := Nat.mod_lt cut (show 0 < os.length + 1 by omega); omega)
        generalize cut % (os.length + 1) = nn at *
        go_enter Tryd.func6, Tryd.ntmps6
        go_upto_region 1 with (fail)
        generalize w.alloc _ = w1 at *
        go_wp2_with fail
        with_reducible refine (HAW.out _ HB.out).mono ?_
        rintro e w2 ⟨rfl, hb⟩
        have K2 := Lib.hid hb
        have X2 := Lib.hid (blk HX.out hb)
        have K2' := kept_hid HB hb
        have I2 := Lib.hid (HI.out.below hb)
        clear hb
        obtain ⟨c0, c1, c2, c3, c4, c5⟩ := cells6 X2.out
        go_wp2_with fail
        with_reducible refine (HF.out _ K2.out).mono ?_
        rintro e w3 ⟨rfl, hb⟩
        have K3' := kept_hid K2' hb
        have X3' := Lib.hid (blk X2.out hb)
        have I3' := Lib.hid (I2.out.below hb)
        clear hb c0 c1 c2 c3 c4 c5 K2 K2' X2 I2 HB HX HI HF
        go_wp2_with fail
        with_reducible refine (HFL.out _ K3'.out).mono ?_
        rintro e w4 ⟨rfl, hb⟩
        have K3 := kept_hid K3' hb
        have X3 := Lib.hid (blk X3'.out hb)
        have I3 := Lib.hid (I3'.out.below hb)
        clear hb K3' X3' I3' HFL
        obtain ⟨c0, c1, c2, c3, c4, c5⟩ := cells6 X3.out
        have HALL := Lib.hid (all_ok s ad k x al os.length cl os w4 I3.out HR.out H8.out (by have := HL.out; omega) HXL.out (HO.out.below K3.out) HSD.out (by have := HOL.out; omega) HPW.out)
        go_upto_region 3 with (fail)
        have hne : ¬ ((s.cs.length : Int) = 0) := by have := HP.out; omega
        have b1 := HA16.out
        have b0 : (0 : Int) ≤ (a : Int) := by omega
        go_upto_region 4 with (fail)
        rw [HXX.out]
        clear b0 b1 hne
        have hne : ¬ ((os.length : Int) + 1 = 0) := by omega
        have hw4 : wrap64 ((os.length : Int) + 1) = (os.length : Int) + 1 := by have := HOL.out; unfold wrap64; omega
        have hw5 : IntKind.i64.wrap ((os.length : Int) + 1) = (os.length : Int) + 1 := by have := HOL.out; rw [IntWalk.i64_in] <;> omega
        have b1 := HC8.out
        have b0 : (0 : Int) ≤ (cut : Int) := by omega
        go_upto_region 5 with (fail)
        rw [HNN.out]
        clear b0 b1 hne hw4 hw5
        go_wp2_with fail
        with_reducible refine HALL.out.mono ?_
        rintro e w5 ⟨vt, vu, rfl, ho, hb⟩
        clear HALL c0 c1 c2 c3 c4 c5
        have HPR := Lib.hid (pall_rest os (s, x))
        have HP1 := Lib.hid (pall_rest (os.take nn) (s, x))
        have HR1 := Lib.hid (pall_right (os.take nn) (s, x) HR.out HXL.out fun o ho => HWN.out o (List.mem_of_mem_take ho))
        have HS1 := Lib.hid (pall_sound (os.take nn) (s, x) H8.out fun o ho => ⟨(HSD.out o (List.mem_of_mem_take ho)).1, (HSD.out o (List.mem_of_mem_take ho)).2.2⟩)
        have HT1 := Lib.hid (pall_lt (os.take nn) (s, x) HXL.out fun o ho => HWN.out o (List.mem_of_mem_take ho))
        have HPP := Lib.hid (pall_parts (s, x) os nn)
        have HALL := fun W => fun (hi : CelsIn W (.slice ad s.cs.length k) s.cs) => fun (hb : Below w.heap.size w W) => all_ok s ad k x al nn cl (os.take nn) W hi HR.out H8.out (by have := HL.out; omega) HXL.out (ords_h (HO.out.below hb) HNL.out) (fun o ho => HSD.out o (List.mem_of_mem_take ho)) (by have := HOL.out; rw [List.length_take]; omega) (pwrong_all fun o ho => HWN.out o (List.mem_of_mem_take ho))
        generalize pall (s, x) os = st at *
        generalize pall (s, x) (os.take nn) = st1 at *
        obtain ⟨st, pl⟩ := st
        obtain ⟨st1, p1⟩ := st1
        simp only at ho HPR HP1 HR1 HS1 HT1 HALL
        simp only [Gave] at HALL
        have HA := al_any w5 (.cells #[.int .i64 st.rows, .int .i64 st.cols, .slice vt st.cs.length vu, .int .i64 st.cur, .bool st.lk, .bool st.ins] 24)
        have T6 := Lib.hid (heap_alloc_new w5 (.cells #[.int .i64 st.rows, .int .i64 st.cols, .slice vt st.cs.length vu, .int .i64 st.cur, .bool st.lk, .bool st.ins] 24))
        have X6 := Lib.hid (blk X3.out (kept_trans hb HA))
        have I6 := Lib.hid (I3.out.below (kept_trans hb HA))
        have K6 := kept_hid K3 (kept_trans hb HA)
        have O6 := Lib.hid ((OwnCels.below ho HA).to)
        replace HALL := Lib.hid HALL
        clear HA ho hb X3 I3 K3
        go_upto_region 6 with (fail)
        generalize w5.heap.size = B at *
        generalize w5.alloc _ = w6 at *
        have HAL1 := Lib.hid fun W (hb : Below w6.heap.size w6 W) => HALL.out W (I6.out.below hb) (kept_trans K6.out hb)
        have hsl := fun W => run_hO al os.length cl nn (by obtain ⟨_, _, e, h1, _⟩ := HO.out.form; injection e with e1 e2 e3; subst e3; have := HNL.out; omega) W
        obtain ⟨c0, c1, c2, c3, c4, c5⟩ := cells6 X6.out
        clear HALL
        have HD1 := Lib.hid ((Below.refl w6.heap.size w6).drew)
        have HD2 := Lib.hid (show Below w6.heap.size w6 (w6.alloc (.cells #[.int .i64 0, .int .i64 0, .slice none 0 0, .int .i64 0, .bool false, .bool false] 24)).drew from (al_any w6 (.cells #[.int .i64 0, .int .i64 0, .slice none 0 0, .int .i64 0, .bool false, .bool false] 24)).drew)
        have HNB := Lib.hid (show (w6.alloc (.cells #[.int .i64 0, .int .i64 0, .slice none 0 0, .int .i64 0, .bool false, .bool false] 24)).drew.heap[w6.heap.size]? = some (.cells #[.int .i64 0, .int .i64 0, .slice none 0 0, .int .i64 0, .bool false, .bool false] 24 (0, 0)) from heap_alloc_new w6 (.cells #[.int .i64 0, .int .i64 0, .slice none 0 0, .int .i64 0, .bool false, .bool false] 24))
        have HNH := Lib.hid (fun W' (hW : Below (w6.alloc (.cells #[.int .i64 0, .int .i64 0, .slice none 0 0, .int .i64 0, .bool false, .bool false] 24)).drew.heap.size (w6.alloc (.cells #[.int .i64 0, .int .i64 0, .slice none 0 0, .int .i64 0, .bool false, .bool false] 24)).drew W') => blk HNB.out hW)
        have HNC := Lib.hid (fun W' (hW : Below (w6.alloc (.cells #[.int .i64 0, .int .i64 0, .slice none 0 0, .int .i64 0, .bool false, .bool false] 24)).drew.heap.size (w6.alloc (.cells #[.int .i64 0, .int .i64 0, .slice none 0 0, .int .i64 0, .bool false, .bool false] 24)).drew W') => cells6 (blk HNB.out hW))
        have HNF := Lib.hid (fun W' (hW : Below (w6.alloc (.cells #[.int .i64 0, .int .i64 0, .slice none 0 0, .int .i64 0, .bool false, .bool false] 24)).drew.heap.size (w6.alloc (.cells #[.int .i64 0, .int .i64 0, .slice none 0 0, .int .i64 0, .bool false, .bool false] 24)).drew W') => free6 (blk HNB.out hW))
        have HSX := Lib.hid (show ∀ W', Below w6.heap.size w6 W' → Below w6.heap.size w6 W' ∧ W'.cell? ⟨w.heap.size, 0, none⟩ = some (.int .i64 s.rows) ∧ W'.cell? ⟨w.heap.size, 1, none⟩ = some (.int .i64 s.cols) ∧ W'.cell? ⟨w.heap.size, 2, none⟩ = some (.slice ad s.cs.length k) ∧ W'.cell? ⟨w.heap.size, 3, none⟩ = some (.int .i64 s.cur) ∧ W'.cell? ⟨w.heap.size, 4, none⟩ = some (.bool s.lk) ∧ W'.cell? ⟨w.heap.size, 5, none⟩ = some (.bool s.ins) from fun W' hW => ⟨hW, cells6 (blk X6.out hW)⟩)
        go_upto_region 8 with (fail)
        go_region_held3 (fun W' => Below w6.heap.size w6 W' ∧ W'.cell? ⟨w.heap.size, 0, none⟩ = some (.int .i64 s.rows) ∧ W'.cell? ⟨w.heap.size, 1, none⟩ = some (.int .i64 s.cols) ∧ W'.cell? ⟨w.heap.size, 2, none⟩ = some (.slice ad s.cs.length k) ∧ W'.cell? ⟨w.heap.size, 3, none⟩ = some (.int .i64 s.cur) ∧ W'.cell? ⟨w.heap.size, 4, none⟩ = some (.bool s.lk) ∧ W'.cell? ⟨w.heap.size, 5, none⟩ = some (.bool s.ins))
          ((refine HSX.out _ ?_; first | with_reducible exact HD1.out | with_reducible exact HD2.out | with_reducible exact hbw | with_reducible exact below_grown hbw SFN.2 (Nat.le_refl _) | with_reducible exact kept_trans hbw (al_any _ _)))
          (first | (go_at_call 16; with_reducible refine (HAL1.out _ (And.left (by assumption))).mono ?_; rintro e we ⟨va, vc, rfl, ho, hb⟩; have hbw := kept_trans (And.left (by assumption : Below w6.heap.size w6 _ ∧ _)) hb; first | (with_reducible have hb3 : Below (w6.alloc (.cells #[.int .i64 0, .int .i64 0, .slice none 0 0, .int .i64 0, .bool false, .bool false] 24)).drew.heap.size (w6.alloc (.cells #[.int .i64 0, .int .i64 0, .slice none 0 0, .int .i64 0, .bool false, .bool false] 24)).drew we := hb; obtain ⟨z0, z1, z2, z3, z4, z5⟩ := HNC.out _ hb3; obtain ⟨f0, f1, f2, f3, f4, f5⟩ := HNF.out _ hb3; have SFN := over6 we w6.heap.size _ _ _ _ _ _ _ (.int .i64 st1.rows) (.int .i64 st1.cols) (.slice va st1.cs.length vc) (.int .i64 st1.cur) (.bool st1.lk) (.bool st1.ins) (HNH.out _ hb3)) | skip))
        all_goals
          (first
            | (have L5 := Lib.hid SFN.1
               have K5 := Lib.hid (below_grown hbw SFN.2 (Nat.le_refl _))
               have HNG := Lib.hid (show ∀ g', (Value.slice va st1.cs.length vc).ownBlock = some g' → g' ≠ w6.heap.size from fun g' e => by have := own_ge ho _ e; simp at this; omega)
               have O5 := Lib.hid ((OwnCels.away ho SFN.2 (by intro e; exact HNG.out _ e rfl)).mono (b := w6.heap.size) (by simp))
               clear z0 z1 z2 z3 z4 z5 f0 f1 f2 f3 f4 f5 SFN hb3
               generalize (((((we.setCell _ _).setCell _ _).setCell _ _).setCell _ _).setCell _ _).setCell _ _ = wz at *
               generalize hNB : w6.heap.size = NB at L5 HNG ⊢
               have HNB2 := Lib.hid (show w6.heap.size ≤ NB from Nat.le_of_eq hNB))
            | (have L5 := Lib.hid (heap_alloc_new we (.cells #[.int .i64 st1.rows, .int .i64 st1.cols, .slice va st1.cs.length vc, .int .i64 st1.cur, .bool st1.lk, .bool st1.ins] 24))
               have K5 := Lib.hid (kept_trans hbw (al_any we (.cells #[.int .i64 st1.rows, .int .i64 st1.cols, .slice va st1.cs.length vc, .int .i64 st1.cur, .bool st1.lk, .bool st1.ins] 24)))
               have HNG := Lib.hid (show ∀ g', (Value.slice va st1.cs.length vc).ownBlock = some g' → g' ≠ we.heap.size from fun g' e => by
                 have h1 := own_lt ho _ e
                 omega)
               have O5 := Lib.hid (OwnCels.mono (b := w6.heap.size) (OwnCels.below ho (al_any we (.cells #[.int .i64 st1.rows, .int .i64 st1.cols, .slice va st1.cs.length vc, .int .i64 st1.cur, .bool st1.lk, .bool st1.ins] 24))) (Nat.le_refl _))
               generalize we.alloc _ = wz at *
               generalize hNB : we.heap.size = NB at L5 HNG ⊢
               have HNB2 := Lib.hid (show w6.heap.size ≤ NB from by rw [← hNB]; exact hbw.size)))
          clear hNB hb hbw HSX HAL1 HNH HNC HNF HNB HD1 HD2 ho
        all_goals
          clear HNG HNB2 hsl c0 c1 c2 c3 c4 c5
          have T7 := Lib.hid (blk T6.out K5.out)
          have O7 := Lib.hid (O6.out.below K5.out)
          have K7 := kept_hid K6 K5.out
          have U7 := Lib.hid (OwnCels.to O5.out)
          have HAL2 := Lib.hid fun W (hb : Below wz.heap.size wz W) => all_ok st1 va vc p1 (cutO al nn cl) (os.length - nn) (cl - nn) (os.drop nn) W (U7.out.below hb) HR1.out HS1.out (by rw [HP1.out.2.2.1]; have := HL.out; omega) (by rw [HP1.out.2.2.1]; exact HT1.out) (ords_l (HO.out.below (kept_trans K7.out hb)) HNL.out) (fun o ho => HSD.out o (List.mem_of_mem_drop ho)) (by have := HOL.out; rw [List.length_drop]; omega) (pwrong_all fun o ho => by rw [HP1.out.2.2.1]; exact HWN.out o (List.mem_of_mem_drop ho))
          rw [HPP.out] at HAL2
          simp only [Gave] at HAL2
          generalize NB = NB1 at *
          obtain ⟨wy, hwy⟩ : ∃ wy, wz = wy := ⟨_, rfl⟩
          rw [hwy] at L5 K5 O5 T7 O7 K7 U7 HAL2 ⊢
          clear hwy K5 O5 T6 X6 I6 K6 O6
          obtain ⟨c0, c1, c2, c3, c4, c5⟩ := cells6 L5.out
          have X7 := L5
          clear L5
          have hsl := fun W => run_lO al os.length cl nn HNL.out W
          have HD1 := Lib.hid ((Below.refl wy.heap.size wy).drew)
          have HD2 := Lib.hid (show Below wy.heap.size wy (wy.alloc (.cells #[.int .i64 0, .int .i64 0, .slice none 0 0, .int .i64 0, .bool false, .bool false] 24)).drew from (al_any wy (.cells #[.int .i64 0, .int .i64 0, .slice none 0 0, .int .i64 0, .bool false, .bool false] 24)).drew)
          have HNB := Lib.hid (show (wy.alloc (.cells #[.int .i64 0, .int .i64 0, .slice none 0 0, .int .i64 0, .bool false, .bool false] 24)).drew.heap[wy.heap.size]? = some (.cells #[.int .i64 0, .int .i64 0, .slice none 0 0, .int .i64 0, .bool false, .bool false] 24 (0, 0)) from heap_alloc_new wy (.cells #[.int .i64 0, .int .i64 0, .slice none 0 0, .int .i64 0, .bool false, .bool false] 24))
          have HNH := Lib.hid (fun W' (hW : Below (wy.alloc (.cells #[.int .i64 0, .int .i64 0, .slice none 0 0, .int .i64 0, .bool false, .bool false] 24)).drew.heap.size (wy.alloc (.cells #[.int .i64 0, .int .i64 0, .slice none 0 0, .int .i64 0, .bool false, .bool false] 24)).drew W') => blk HNB.out hW)
          have HNC := Lib.hid (fun W' (hW : Below (wy.alloc (.cells #[.int .i64 0, .int .i64 0, .slice none 0 0, .int .i64 0, .bool false, .bool false] 24)).drew.heap.size (wy.alloc (.cells #[.int .i64 0, .int .i64 0, .slice none 0 0, .int .i64 0, .bool false, .bool false] 24)).drew W') => cells6 (blk HNB.out hW))
          have HNF := Lib.hid (fun W' (hW : Below (wy.alloc (.cells #[.int .i64 0, .int .i64 0, .slice none 0 0, .int .i64 0, .bool false, .bool false] 24)).drew.heap.size (wy.alloc (.cells #[.int .i64 0, .int .i64 0, .slice none 0 0, .int .i64 0, .bool false, .bool false] 24)).drew W') => free6 (blk HNB.out hW))
          have HSX := Lib.hid (show ∀ W', Below wy.heap.size wy W' → Below wy.heap.size wy W' ∧ W'.cell? ⟨NB1, 0, none⟩ = some (.int .i64 st1.rows) ∧ W'.cell? ⟨NB1, 1, none⟩ = some (.int .i64 st1.cols) ∧ W'.cell? ⟨NB1, 2, none⟩ = some (.slice va st1.cs.length vc) ∧ W'.cell? ⟨NB1, 3, none⟩ = some (.int .i64 st1.cur) ∧ W'.cell? ⟨NB1, 4, none⟩ = some (.bool st1.lk) ∧ W'.cell? ⟨NB1, 5, none⟩ = some (.bool st1.ins) from fun W' hW => ⟨hW, cells6 (blk X7.out hW)⟩)
          go_upto_region 9 with (fail)
          go_region_held3 (fun W' => Below wy.heap.size wy W' ∧ W'.cell? ⟨NB1, 0, none⟩ = some (.int .i64 st1.rows) ∧ W'.cell? ⟨NB1, 1, none⟩ = some (.int .i64 st1.cols) ∧ W'.cell? ⟨NB1, 2, none⟩ = some (.slice va st1.cs.length vc) ∧ W'.cell? ⟨NB1, 3, none⟩ = some (.int .i64 st1.cur) ∧ W'.cell? ⟨NB1, 4, none⟩ = some (.bool st1.lk) ∧ W'.cell? ⟨NB1, 5, none⟩ = some (.bool st1.ins))
            ((refine HSX.out _ ?_; first | with_reducible exact HD1.out | with_reducible exact HD2.out | with_reducible exact hbw | with_reducible exact below_grown hbw SFN.2 (Nat.le_refl _) | with_reducible exact kept_trans hbw (al_any _ _)))
            (first | (go_at_call 16; with_reducible refine (HAL2.out _ (And.left (by assumption))).mono ?_; rintro e we ⟨va2, vc2, rfl, ho, hb⟩; have hbw := kept_trans (And.left (by assumption : Below wy.heap.size wy _ ∧ _)) hb; first | (with_reducible have hb3 : Below (wy.alloc (.cells #[.int .i64 0, .int .i64 0, .slice none 0 0, .int .i64 0, .bool false, .bool false] 24)).drew.heap.size (wy.alloc (.cells #[.int .i64 0, .int .i64 0, .slice none 0 0, .int .i64 0, .bool false, .bool false] 24)).drew we := hb; obtain ⟨z0, z1, z2, z3, z4, z5⟩ := HNC.out _ hb3; obtain ⟨f0, f1, f2, f3, f4, f5⟩ := HNF.out _ hb3; have SFN := over6 we wy.heap.size _ _ _ _ _ _ _ (.int .i64 st.rows) (.int .i64 st.cols) (.slice va2 st.cs.length vc2) (.int .i64 st.cur) (.bool st.lk) (.bool st.ins) (HNH.out _ hb3)) | skip))
          all_goals
            (first
              | (have L5 := Lib.hid SFN.1
                 have K5 := Lib.hid (below_grown hbw SFN.2 (Nat.le_refl _))
                 have HNG := Lib.hid (show ∀ g', (Value.slice va2 st.cs.length vc2).ownBlock = some g' → g' ≠ wy.heap.size from fun g' e => by have := own_ge ho _ e; simp at this; omega)
                 have O5 := Lib.hid ((OwnCels.away ho SFN.2 (by intro e; exact HNG.out _ e rfl)).mono (b := wy.heap.size) (by simp))
                 clear z0 z1 z2 z3 z4 z5 f0 f1 f2 f3 f4 f5 SFN hb3
                 generalize (((((we.setCell _ _).setCell _ _).setCell _ _).setCell _ _).setCell _ _).setCell _ _ = wz at *
                 generalize hNB : wy.heap.size = NB at L5 HNG ⊢
                 have HNB2 := Lib.hid (show wy.heap.size ≤ NB from Nat.le_of_eq hNB))
              | (have L5 := Lib.hid (heap_alloc_new we (.cells #[.int .i64 st.rows, .int .i64 st.cols, .slice va2 st.cs.length vc2, .int .i64 st.cur, .bool st.lk, .bool st.ins] 24))
                 have K5 := Lib.hid (kept_trans hbw (al_any we (.cells #[.int .i64 st.rows, .int .i64 st.cols, .slice va2 st.cs.length vc2, .int .i64 st.cur, .bool st.lk, .bool st.ins] 24)))
                 have HNG := Lib.hid (show ∀ g', (Value.slice va2 st.cs.length vc2).ownBlock = some g' → g' ≠ we.heap.size from fun g' e => by
                   have h1 := own_lt ho _ e
                   omega)
                 have O5 := Lib.hid (OwnCels.mono (b := wy.heap.size) (OwnCels.below ho (al_any we (.cells #[.int .i64 st.rows, .int .i64 st.cols, .slice va2 st.cs.length vc2, .int .i64 st.cur, .bool st.lk, .bool st.ins] 24))) (Nat.le_refl _))
                 generalize we.alloc _ = wz at *
                 generalize hNB : we.heap.size = NB at L5 HNG ⊢
                 have HNB2 := Lib.hid (show wy.heap.size ≤ NB from by rw [← hNB]; exact hbw.size)))
            clear hNB hb hbw HSX HAL2 HNH HNC HNF HNB HD1 HD2 ho
          all_goals
            clear HNG HNB2 hsl c0 c1 c2 c3 c4 c5
            have T8 := Lib.hid (blk T7.out K5.out)
            have O8 := Lib.hid (O7.out.below K5.out)
            have P8 := Lib.hid (OwnCels.to O5.out)
            have K8 := kept_hid K7 K5.out
            have HSM := Lib.hid (rsame_any st.rows st.cols st.cur st.lk st.ins va2 st.cs.length vc2 vt st.cs.length vu st.cs st.cs wz P8.out O8.out (by have := HPR.out.2.2.1; have := HL.out; omega))
            rw [decide_eq_true rfl] at HSM
            obtain ⟨c0, c1, c2, c3, c4, c5⟩ := cells6 T8.out
            obtain ⟨d0, d1, d2, d3, d4, d5⟩ := cells6 L5.out
            go_wp2_with fail
            with_reducible refine HSM.out.mono ?_
            rintro e wb ⟨rfl, hb⟩
            have K9 := kept_hid K8 hb
            clear hb
            go_wp2_with fail
            go_ret
            exact ⟨rfl, K9.out⟩
      | some i =>
        obtain ⟨_, hiw, _⟩ := pwrong_some hpw
        have HIW := Lib.hid hiw
        have HPW := Lib.hid hpw
        clear hpw hiw
        have HNN := Lib.hid (show (cut : Int) % ((os.length : Int) + 1) = ((cut % (os.length + 1) : Nat) : Int) by rw [Int.natCast_emod, Int.natCast_add]; rfl)
        have HNL := Lib.hid (show cut % (os.length + 1) ≤ os.length from by have := Nat.mod_lt cut (show 0 < os.length + 1 by omega); omega)
        generalize cut % (os.length + 1) = nn at *
        go_enter Tryd.func6, Tryd.ntmps6
        go_upto_region 1 with (fail)
        generalize w.alloc _ = w1 at *
        go_wp2_with fail
        with_reducible refine (HAW.out _ HB.out).mono ?_
        rintro e w2 ⟨rfl, hb⟩
        have K2 := Lib.hid hb
        have X2 := Lib.hid (blk HX.out hb)
        have K2' := kept_hid HB hb
        have I2 := Lib.hid (HI.out.below hb)
        clear hb
        obtain ⟨c0, c1, c2, c3, c4, c5⟩ := cells6 X2.out
        go_wp2_with fail
        with_reducible refine (HF.out _ K2.out).mono ?_
        rintro e w3 ⟨rfl, hb⟩
        have K3' := kept_hid K2' hb
        have X3' := Lib.hid (blk X2.out hb)
        have I3' := Lib.hid (I2.out.below hb)
        clear hb c0 c1 c2 c3 c4 c5 K2 K2' X2 I2 HB HX HI HF
        go_wp2_with fail
        with_reducible refine (HFL.out _ K3'.out).mono ?_
        rintro e w4 ⟨rfl, hb⟩
        have K3 := kept_hid K3' hb
        have X3 := Lib.hid (blk X3'.out hb)
        have I3 := Lib.hid (I3'.out.below hb)
        clear hb K3' X3' I3' HFL
        obtain ⟨c0, c1, c2, c3, c4, c5⟩ := cells6 X3.out
        have HALL := Lib.hid (all_no s ad k x al os.length cl os i w4 I3.out HR.out H8.out (by have := HL.out; omega) HXL.out (HO.out.below K3.out) HSD.out (by have := HOL.out; omega) HPW.out)
        go_upto_region 3 with (fail)
        have hne : ¬ ((s.cs.length : Int) = 0) := by have := HP.out; omega
        have b1 := HA16.out
        have b0 : (0 : Int) ≤ (a : Int) := by omega
        go_upto_region 4 with (fail)
        rw [HXX.out]
        clear b0 b1 hne
        have hne : ¬ ((os.length : Int) + 1 = 0) := by omega
        have hw4 : wrap64 ((os.length : Int) + 1) = (os.length : Int) + 1 := by have := HOL.out; unfold wrap64; omega
        have hw5 : IntKind.i64.wrap ((os.length : Int) + 1) = (os.length : Int) + 1 := by have := HOL.out; rw [IntWalk.i64_in] <;> omega
        have b1 := HC8.out
        have b0 : (0 : Int) ≤ (cut : Int) := by omega
        go_upto_region 5 with (fail)
        rw [HNN.out]
        clear b0 b1 hne hw4 hw5
        go_wp2_with fail
        with_reducible refine HALL.out.mono ?_
        rintro e w5 ⟨va, vc, ev, rfl, ho, htd, hb⟩
        clear HALL c0 c1 c2 c3 c4 c5
        have K4 := kept_hid K3 (kept_trans hb (al_any w5 (.cells #[.int .i64 s.rows, .int .i64 s.cols, .slice va s.cs.length vc, .int .i64 s.cur, .bool s.lk, .bool s.ins] 24)))
        have HIN := HIW.out
        clear hb ho X3 I3 K3 HIW
        go_upto_region 6 with (fail)
        generalize w5.alloc _ = w6 at *
        rcases htd with ⟨_, h1, _⟩ | ⟨rfl, _⟩ | ⟨_, _, rfl, _⟩
        · exact absurd h1 (by omega)
        all_goals
          clear HIN
          go_wp2_with fail
          go_ret
          exact ⟨rfl, K4.out⟩
end Pnt
end Go.Proofs.YtdmieopdgihnkaaDoor
