/- The law PaintKeeps. Written by tools/gen_pnt_laws.py. -/
import Derived.Test.YtdmieopdgihnkaaDoorPntFewL
import Derived.Deep.RegionHeld3
import Derived.StillTailTactics
import Derived.Test.YtdmieopdgihnkaaDoorPntAwake
import Derived.Test.YtdmieopdgihnkaaDoorBunGrd
import Derived.Test.YtdmieopdgihnkaaDoorBunGrd
import Derived.Test.YtdmieopdgihnkaaDoorOpnScr
import Derived.Test.YtdmieopdgihnkaaDoorBunPnt
namespace Go.Proofs.YtdmieopdgihnkaaDoor
open Go.RowKit Sha Six Apd Cut Err Att Grd Fld
set_option linter.unusedVariables false
namespace Pnt
set_option maxRecDepth 100000 in
set_option maxHeartbeats 8000000 in
theorem keeps_any (s : S) (ad : Option Addr) (k : Nat) (a : Int) (al : Option Addr) (nl cl : Nat) (os : List Go.Proofs.YtdmieopdgihnkaaDoor.Ord.O) (w : World) (h : CelsIn w (.slice ad s.cs.length k) s.cs) (hwf : Opn.Wf s.cs) (hm : s.cs.length ≤ maxLen) (wa : (Lit.int .u16 a).wf = true) (hO : Str.OrdsIn w 0 (.slice al nl cl) os) (hos : ∀ o ∈ os, (∀ x ∈ o.t, x < 256) ∧ o.c < 256) (hom : os.length ≤ maxLen) (hg : Handle w) :
    Calls Tryd.prog 7 #[.agg #[.int .i64 s.rows, .int .i64 s.cols, .slice ad s.cs.length k, .int .i64 s.cur, .bool s.lk, .bool s.ins], .int .u16 a, .slice al nl cl] w fun e w' => e = .returned (.bool true) ∧ Below w.heap.size w w' := by
  obtain ⟨b0, b1⟩ := Go.Proofs.YtdmieopdgihnkaaDoor.Ord.wf_u16 wa
  obtain ⟨a, rfl⟩ := Int.eq_ofNat_of_zero_le b0
  have HA16 := Lib.hid b1
  have HAW := Lib.hid fun W (hb : Below w.heap.size w W) => awake_any W (hand_of hg hb)
  have HCO := Lib.hid fun W ev (c n : Int) (hb : Below w.heap.size w W) (ht : Err.Told W ev c n) => code_told ev c n W (hand_of hg hb) ht
  have HWH := Lib.hid fun W ev (c n : Int) (hb : Below w.heap.size w W) (ht : Err.Told W ev c n) => where_told ev c n W (hand_of hg hb) ht
  obtain rfl := hO.len
  have HB := Lib.hid (al_any w (.cells #[.int .i64 s.rows, .int .i64 s.cols, .slice ad s.cs.length k, .int .i64 s.cur, .bool s.lk, .bool s.ins] 24))
  have HX := Lib.hid (heap_alloc_new w (.cells #[.int .i64 s.rows, .int .i64 s.cols, .slice ad s.cs.length k, .int .i64 s.cur, .bool s.lk, .bool s.ins] 24))
  have HI := Lib.hid (h.below HB.out)
  have HF := Lib.hid fun W hb => rfew_any s ad k W (HI.out.below hb) (wf_sound hwf)
  have H8 := Lib.hid (wf_sound hwf)
  have HO := Lib.hid hO
  have HFL := Lib.hid fun W hb => pfew_any al os.length cl os W (hO.below hb) hom
  have HOS := Lib.hid hos
  clear h hwf hm wa hO hos hom b0 b1 hg
  cases hf : few s with
  | false =>
    rw [hf] at HF
    go_enter Tryd.func7, Tryd.ntmps7
    go_upto_region 1 with (fail)
    generalize w.alloc _ = w1 at *
    go_wp2_with fail
    with_reducible refine (HAW.out _ HB.out).mono ?_
    rintro e w2 ⟨rfl, hb⟩
    have K2 := Lib.hid hb
    have X2 := Lib.hid (blk HX.out hb)
    have K2' := kept_hid HB hb
    clear hb
    obtain ⟨c0, c1, c2, c3, c4, c5⟩ := cells6 X2.out
    go_wp2_with fail
    with_reducible refine (HF.out _ K2.out).mono ?_
    rintro e w3 ⟨rfl, hb⟩
    have K3 := kept_hid K2' hb
    clear hb c0 c1 c2 c3 c4 c5
    go_wp2_with fail
    with_reducible refine (HAW.out _ K3.out).mono ?_
    rintro e w4 ⟨rfl, hb⟩
    have KE := kept_hid K3 hb
    clear hb
    go_wp2_with fail
    go_ret
    exact ⟨rfl, KE.out⟩
  | true =>
    rw [hf] at HF
    cases hfl : Str.fewB os with
    | false =>
      rw [hfl] at HFL
      go_enter Tryd.func7, Tryd.ntmps7
      go_upto_region 1 with (fail)
      generalize w.alloc _ = w1 at *
      go_wp2_with fail
      with_reducible refine (HAW.out _ HB.out).mono ?_
      rintro e w2 ⟨rfl, hb⟩
      have K2 := Lib.hid hb
      have X2 := Lib.hid (blk HX.out hb)
      have K2' := kept_hid HB hb
      have I2 := Lib.hid (HI.out.below hb)
      clear hb
      obtain ⟨c0, c1, c2, c3, c4, c5⟩ := cells6 X2.out
      go_wp2_with fail
      with_reducible refine (HF.out _ K2.out).mono ?_
      rintro e w3 ⟨rfl, hb⟩
      have K3' := kept_hid K2' hb
      have X3' := Lib.hid (blk X2.out hb)
      have I3' := Lib.hid (I2.out.below hb)
      clear hb c0 c1 c2 c3 c4 c5 K2 K2' X2 I2 HB HX HI HF
      go_wp2_with fail
      with_reducible refine (HFL.out _ K3'.out).mono ?_
      rintro e w4 ⟨rfl, hb⟩
      have K3 := kept_hid K3' hb
      have X3 := Lib.hid (blk X3'.out hb)
      have I3 := Lib.hid (I3'.out.below hb)
      clear hb K3' X3' I3' HFL
      go_wp2_with fail
      with_reducible refine (HAW.out _ K3.out).mono ?_
      rintro e w5 ⟨rfl, hb⟩
      have KE := kept_hid K3 hb
      clear hb
      go_wp2_with fail
      go_ret
      exact ⟨rfl, KE.out⟩
    | true =>
      rw [hfl] at HFL
      obtain ⟨hol, hsd⟩ := few_sound hfl HOS.out
      have HOL := Lib.hid hol
      have HSD := Lib.hid hsd
      clear hol hsd hfl
      obtain ⟨q1, q2, q3⟩ := few_parts hf
      have HL := Lib.hid q1
      have HP := Lib.hid q2
      have HR := Lib.hid q3
      have HXX := Lib.hid (show ((a : Int) % (s.cs.length : Int)) = ((a % s.cs.length : Nat) : Int) by omega)
      have HXL := Lib.hid (Nat.mod_lt a q2)
      generalize a % s.cs.length = x at *
      clear q1 q2 q3
      clear hf
      cases hpw : pwrong s.cs.length os with
      | none =>
        have HPW := Lib.hid hpw
        clear hpw
        go_enter Tryd.func7, Tryd.ntmps7
        go_upto_region 1 with (fail)
        generalize w.alloc _ = w1 at *
        go_wp2_with fail
        with_reducible refine (HAW.out _ HB.out).mono ?_
        rintro e w2 ⟨rfl, hb⟩
        have K2 := Lib.hid hb
        have X2 := Lib.hid (blk HX.out hb)
        have K2' := kept_hid HB hb
        have I2 := Lib.hid (HI.out.below hb)
        clear hb
        obtain ⟨c0, c1, c2, c3, c4, c5⟩ := cells6 X2.out
        go_wp2_with fail
        with_reducible refine (HF.out _ K2.out).mono ?_
        rintro e w3 ⟨rfl, hb⟩
        have K3' := kept_hid K2' hb
        have X3' := Lib.hid (blk X2.out hb)
        have I3' := Lib.hid (I2.out.below hb)
        clear hb c0 c1 c2 c3 c4 c5 K2 K2' X2 I2 HB HX HI HF
        go_wp2_with fail
        with_reducible refine (HFL.out _ K3'.out).mono ?_
        rintro e w4 ⟨rfl, hb⟩
        have K3 := kept_hid K3' hb
        have X3 := Lib.hid (blk X3'.out hb)
        have I3 := Lib.hid (I3'.out.below hb)
        clear hb K3' X3' I3' HFL
        have HRC := Lib.hid (rcopy_any s ad k w4 I3.out (by have := HL.out; omega))
        obtain ⟨c0, c1, c2, c3, c4, c5⟩ := cells6 X3.out
        go_upto_region 3 with (fail)
        go_wp2_with fail
        with_reducible refine HRC.out.mono ?_
        rintro e w5 ⟨va1, vc1, rfl, ho1, hb⟩
        clear HRC c0 c1 c2 c3 c4 c5
        have HA := al_any w5 (.cells #[.int .i64 s.rows, .int .i64 s.cols, .slice va1 s.cs.length vc1, .int .i64 s.cur, .bool s.lk, .bool s.ins] 24)
        have L6 := Lib.hid (heap_alloc_new w5 (.cells #[.int .i64 s.rows, .int .i64 s.cols, .slice va1 s.cs.length vc1, .int .i64 s.cur, .bool s.lk, .bool s.ins] 24))
        have X6 := Lib.hid (blk X3.out (kept_trans hb HA))
        have I6 := Lib.hid (I3.out.below (kept_trans hb HA))
        have K6 := kept_hid K3 (kept_trans hb HA)
        have J6 := Lib.hid ((OwnCels.below ho1 HA).to)
        clear HA ho1 hb X3 I3 K3
        go_upto_region 4 with (fail)
        generalize w5.heap.size = B1 at *
        generalize w5.alloc _ = w6 at *
        obtain ⟨c0, c1, c2, c3, c4, c5⟩ := cells6 X6.out
        have hn1 : ¬ s.cs.length = 0 := by have := HP.out; omega
        have hn2 : ¬ s.cs = [] := fun e => hn1 (by rw [e]; rfl)
        have hn3 : ((s.cs.length : Int) == 0) = false := by simp [hn2]
        have hrb : (a : Int).tmod (s.cs.length : Int) = (x : Int) := by rw [Int.tmod_eq_emod_of_nonneg (by omega)]; exact HXX.out
        have hrb2 : (IntKind.i64.wrap (a : Int)).tmod (s.cs.length : Int) = (x : Int) := by rw [IntWalk.i64_in _ (by have := HA16.out; omega)]; exact hrb
        have hrb3 : (wrap64 (a : Int)).tmod (s.cs.length : Int) = (x : Int) := by
          have hwb2 : wrap64 (a : Int) = (a : Int) := by have := HA16.out; unfold wrap64; omega
          rw [hwb2]; exact hrb
        have HALL := Lib.hid fun W (hb : Below w6.heap.size w6 W) => all_ok s ad k x al os.length cl os W (I6.out.below hb) HR.out H8.out (by have := HL.out; omega) HXL.out (HO.out.below (kept_trans K6.out hb)) HSD.out (by have := HOL.out; omega) HPW.out
        have HPR := Lib.hid (pall_rest os (s, x))
        simp only [Gave] at HALL
        generalize pall (s, x) os = st at *
        obtain ⟨st, pl⟩ := st
        simp only at HALL HPR
        have HD1 := Lib.hid ((Below.refl w6.heap.size w6).drew)
        have HD2 := Lib.hid (show Below w6.heap.size w6 (w6.alloc (.cells #[.int .i64 0, .int .i64 0, .slice none 0 0, .int .i64 0, .bool false, .bool false] 24)).drew from (al_any w6 (.cells #[.int .i64 0, .int .i64 0, .slice none 0 0, .int .i64 0, .bool false, .bool false] 24)).drew)
        have HNB := Lib.hid (show (w6.alloc (.cells #[.int .i64 0, .int .i64 0, .slice none 0 0, .int .i64 0, .bool false, .bool false] 24)).drew.heap[w6.heap.size]? = some (.cells #[.int .i64 0, .int .i64 0, .slice none 0 0, .int .i64 0, .bool false, .bool false] 24 (0, 0)) from heap_alloc_new w6 (.cells #[.int .i64 0, .int .i64 0, .slice none 0 0, .int .i64 0, .bool false, .bool false] 24))
        have HNH := Lib.hid (fun W' (hW : Below (w6.alloc (.cells #[.int .i64 0, .int .i64 0, .slice none 0 0, .int .i64 0, .bool false, .bool false] 24)).drew.heap.size (w6.alloc (.cells #[.int .i64 0, .int .i64 0, .slice none 0 0, .int .i64 0, .bool false, .bool false] 24)).drew W') => blk HNB.out hW)
        have HNC := Lib.hid (fun W' (hW : Below (w6.alloc (.cells #[.int .i64 0, .int .i64 0, .slice none 0 0, .int .i64 0, .bool false, .bool false] 24)).drew.heap.size (w6.alloc (.cells #[.int .i64 0, .int .i64 0, .slice none 0 0, .int .i64 0, .bool false, .bool false] 24)).drew W') => cells6 (blk HNB.out hW))
        have HNF := Lib.hid (fun W' (hW : Below (w6.alloc (.cells #[.int .i64 0, .int .i64 0, .slice none 0 0, .int .i64 0, .bool false, .bool false] 24)).drew.heap.size (w6.alloc (.cells #[.int .i64 0, .int .i64 0, .slice none 0 0, .int .i64 0, .bool false, .bool false] 24)).drew W') => free6 (blk HNB.out hW))
        have HSX := Lib.hid (show ∀ W', Below w6.heap.size w6 W' → Below w6.heap.size w6 W' ∧ W'.cell? ⟨w.heap.size, 0, none⟩ = some (.int .i64 s.rows) ∧ W'.cell? ⟨w.heap.size, 1, none⟩ = some (.int .i64 s.cols) ∧ W'.cell? ⟨w.heap.size, 2, none⟩ = some (.slice ad s.cs.length k) ∧ W'.cell? ⟨w.heap.size, 3, none⟩ = some (.int .i64 s.cur) ∧ W'.cell? ⟨w.heap.size, 4, none⟩ = some (.bool s.lk) ∧ W'.cell? ⟨w.heap.size, 5, none⟩ = some (.bool s.ins) from fun W' hW => ⟨hW, cells6 (blk X6.out hW)⟩)
        go_upto_region 4 with (fail)
        go_region_held3 (fun W' => Below w6.heap.size w6 W' ∧ W'.cell? ⟨w.heap.size, 0, none⟩ = some (.int .i64 s.rows) ∧ W'.cell? ⟨w.heap.size, 1, none⟩ = some (.int .i64 s.cols) ∧ W'.cell? ⟨w.heap.size, 2, none⟩ = some (.slice ad s.cs.length k) ∧ W'.cell? ⟨w.heap.size, 3, none⟩ = some (.int .i64 s.cur) ∧ W'.cell? ⟨w.heap.size, 4, none⟩ = some (.bool s.lk) ∧ W'.cell? ⟨w.heap.size, 5, none⟩ = some (.bool s.ins))
          ((refine HSX.out _ ?_; first | with_reducible exact HD1.out | with_reducible exact HD2.out | with_reducible exact hbw | with_reducible exact below_grown hbw SFN.2 (Nat.le_refl _) | with_reducible exact kept_trans hbw (al_any _ _)))
          (first | (go_at_call 16; with_reducible refine (HALL.out _ (And.left (by assumption))).mono ?_; rintro e we ⟨va, vc, rfl, ho, hb⟩; have hbw := kept_trans (And.left (by assumption : Below w6.heap.size w6 _ ∧ _)) hb; first | (with_reducible have hb3 : Below (w6.alloc (.cells #[.int .i64 0, .int .i64 0, .slice none 0 0, .int .i64 0, .bool false, .bool false] 24)).drew.heap.size (w6.alloc (.cells #[.int .i64 0, .int .i64 0, .slice none 0 0, .int .i64 0, .bool false, .bool false] 24)).drew we := hb; obtain ⟨z0, z1, z2, z3, z4, z5⟩ := HNC.out _ hb3; obtain ⟨f0, f1, f2, f3, f4, f5⟩ := HNF.out _ hb3; have SFN := over6 we w6.heap.size _ _ _ _ _ _ _ (.int .i64 st.rows) (.int .i64 st.cols) (.slice va st.cs.length vc) (.int .i64 st.cur) (.bool st.lk) (.bool st.ins) (HNH.out _ hb3)) | skip))
        all_goals
          (first
            | (have L5 := Lib.hid SFN.1
               have K5 := Lib.hid (below_grown hbw SFN.2 (Nat.le_refl _))
               have HNG := Lib.hid (show ∀ g', (Value.slice va st.cs.length vc).ownBlock = some g' → g' ≠ w6.heap.size from fun g' e => by have := own_ge ho _ e; simp at this; omega)
               have O5 := Lib.hid ((OwnCels.away ho SFN.2 (by intro e; exact HNG.out _ e rfl)).mono (b := w6.heap.size) (by simp))
               clear z0 z1 z2 z3 z4 z5 f0 f1 f2 f3 f4 f5 SFN hb3
               generalize (((((we.setCell _ _).setCell _ _).setCell _ _).setCell _ _).setCell _ _).setCell _ _ = wz at *
               generalize hNB : w6.heap.size = NB at L5 HNG ⊢
               have HNB2 := Lib.hid (show w6.heap.size ≤ NB from Nat.le_of_eq hNB))
            | (have L5 := Lib.hid (heap_alloc_new we (.cells #[.int .i64 st.rows, .int .i64 st.cols, .slice va st.cs.length vc, .int .i64 st.cur, .bool st.lk, .bool st.ins] 24))
               have K5 := Lib.hid (kept_trans hbw (al_any we (.cells #[.int .i64 st.rows, .int .i64 st.cols, .slice va st.cs.length vc, .int .i64 st.cur, .bool st.lk, .bool st.ins] 24)))
               have HNG := Lib.hid (show ∀ g', (Value.slice va st.cs.length vc).ownBlock = some g' → g' ≠ we.heap.size from fun g' e => by
                 have h1 := own_lt ho _ e
                 omega)
               have O5 := Lib.hid (OwnCels.mono (b := w6.heap.size) (OwnCels.below ho (al_any we (.cells #[.int .i64 st.rows, .int .i64 st.cols, .slice va st.cs.length vc, .int .i64 st.cur, .bool st.lk, .bool st.ins] 24))) (Nat.le_refl _))
               generalize we.alloc _ = wz at *
               generalize hNB : we.heap.size = NB at L5 HNG ⊢
               have HNB2 := Lib.hid (show w6.heap.size ≤ NB from by rw [← hNB]; exact hbw.size)))
          clear hNB hb hbw HSX HALL HNH HNC HNF HNB HD1 HD2 ho
        all_goals
          clear hn1 hn2 hn3 hrb hrb2 hrb3 c0 c1 c2 c3 c4 c5
          obtain ⟨g, vd, e1, hg1, hg2, _⟩ := OwnCels.at O5.out (by rw [HPR.out.2.2.1]; exact HP.out)
          injection e1 with e1 e2 e3
          subst e1
          subst e3
          clear e2
          have HGN := Lib.hid (HNG.out g rfl)
          have HGB := Lib.hid hg1
          have HSL := Lib.hid (show st.cs.length ≤ 200 from by have := HPR.out.2.2.1; have := HL.out; omega)
          clear hg1 hg2 HNG
          obtain ⟨c0, c1, c2, c3, c4, c5⟩ := cells6 L5.out
          go_upto_region 8 with (fail)
          clear c0 c1 c2 c3 c4 c5
          go_wp2_with fail
          go_loopg [11] (st.cs.length + 1) (fun mm ii wr => ∃ q : Nat, q ≤ st.cs.length ∧ mm = st.cs.length + 1 - q ∧ ii = .int .i64 q ∧ Hid (Below w6.heap.size w6 wr) ∧ Hid (wr.heap[NB]? = some (.cells #[.int .i64 st.rows, .int .i64 st.cols, .slice (some ⟨g, 0, none⟩) st.cs.length vc, .int .i64 st.cur, .bool st.lk, .bool st.ins] 24 (0, 0))) ∧ ∃ ds : List C, ds.length = st.cs.length ∧ Hid (OwnCels wr w6.heap.size (.slice (some ⟨g, 0, none⟩) st.cs.length vc) ds))
          case atStart => exact ⟨0, Nat.zero_le _, rfl, rfl, K5, L5, st.cs, rfl, O5⟩
          case round =>
            obtain ⟨q, hq, rfl, rfl, K7, L7, ds, hds, O7⟩ := hrel
            clear K5 L5 O5
            have ew : IntKind.i64.wrap ((q : Int) + 1) = (q : Int) + 1 := by
              have := HSL.out
              rw [IntWalk.i64_in] <;> omega
            obtain ⟨c0, c1, c2, c3, c4, c5⟩ := cells6 L7.out
            by_cases hlt : q < st.cs.length
            · have HLD := Lib.hid (show q < ds.length from by omega)
              have hi0 : (0 : Int) ≤ (q : Int) := by omega
              have hi1 : (q : Int) < (st.cs.length : Int) := by omega
              obtain ⟨yf, yp, yn, ys, ym, yc, ey⟩ := c_eta (ds.getD q noC)
              obtain ⟨⟨p0, p1, p2, p3, p4, p5⟩, fz⟩ := OwnCels.spot O7.out HLD.out ey
              obtain ⟨q0, q1, q2, q3, q4, q5⟩ : wr.frozen? ⟨g, q * 6, none⟩ = false ∧ wr.frozen? ⟨g, q * 6 + 1, none⟩ = false ∧ wr.frozen? ⟨g, q * 6 + 2, none⟩ = false ∧ wr.frozen? ⟨g, q * 6 + 3, none⟩ = false ∧ wr.frozen? ⟨g, q * 6 + 4, none⟩ = false ∧ wr.frozen? ⟨g, q * 6 + 5, none⟩ = false := ⟨fz _, fz _, fz _, fz _, fz _, fz _⟩
              have SO := OwnCels.set O7.out HLD.out ⟨false, false, false, 0, false, 7⟩
              simp only [show ((7 : Nat) : Int) = 7 from rfl] at SO
              have O8 := Lib.hid SO.1
              have L8 := Lib.hid (blk_g L7.out SO.2 (by intro e; injection e with e; exact HGN.out e.symm))
              have K8 := Lib.hid (below_grown K7.out SO.2 HGB.out)
              clear SO fz ey O7 L7 K7
              go_upto_region 9 with (fail)
              clear c0 c1 c2 c3 c4 c5 p0 p1 p2 p3 p4 p5 q0 q1 q2 q3 q4 q5
              generalize (((((wr.setCell _ _).setCell _ _).setCell _ _).setCell _ _).setCell _ _).setCell _ _ = wt at *
              go_wp2_with fail
              go_roundg (st.cs.length + 1 - (q + 1))
              case measure => omega
              case rel => exact ⟨q + 1, by omega, rfl, by first | rfl | go_num, K8, L8, _, by rw [List.length_set]; exact hds, O8⟩
            · obtain rfl : q = st.cs.length := by omega
              have hn0 : ¬ (st.cs.length : Int) < (st.cs.length : Int) := by omega
              have HSM := Lib.hid (rsame_any s.rows s.cols s.cur s.lk s.ins ad s.cs.length k va1 s.cs.length vc1 s.cs s.cs wr (I6.out.below K7.out) (J6.out.below K7.out) (by have := HL.out; omega))
              rw [decide_eq_true rfl] at HSM
              obtain ⟨d0, d1, d2, d3, d4, d5⟩ := cells6 (blk X6.out K7.out)
              obtain ⟨e0, e1, e2, e3, e4, e5⟩ := cells6 (blk L6.out K7.out)
              have K9 := kept_hid K6 K7.out
              clear hlt
              go_wp2_with fail
              with_reducible refine HSM.out.mono ?_
              rintro e wb ⟨rfl, hb⟩
              have K10 := kept_hid K9 hb
              clear hb
              go_wp2_with fail
              go_ret
              exact ⟨rfl, K10.out⟩
      | some i =>
        obtain ⟨_, hiw, _⟩ := pwrong_some hpw
        have HIW := Lib.hid hiw
        have HPW := Lib.hid hpw
        clear hpw hiw
        go_enter Tryd.func7, Tryd.ntmps7
        go_upto_region 1 with (fail)
        generalize w.alloc _ = w1 at *
        go_wp2_with fail
        with_reducible refine (HAW.out _ HB.out).mono ?_
        rintro e w2 ⟨rfl, hb⟩
        have K2 := Lib.hid hb
        have X2 := Lib.hid (blk HX.out hb)
        have K2' := kept_hid HB hb
        have I2 := Lib.hid (HI.out.below hb)
        clear hb
        obtain ⟨c0, c1, c2, c3, c4, c5⟩ := cells6 X2.out
        go_wp2_with fail
        with_reducible refine (HF.out _ K2.out).mono ?_
        rintro e w3 ⟨rfl, hb⟩
        have K3' := kept_hid K2' hb
        have X3' := Lib.hid (blk X2.out hb)
        have I3' := Lib.hid (I2.out.below hb)
        clear hb c0 c1 c2 c3 c4 c5 K2 K2' X2 I2 HB HX HI HF
        go_wp2_with fail
        with_reducible refine (HFL.out _ K3'.out).mono ?_
        rintro e w4 ⟨rfl, hb⟩
        have K3 := kept_hid K3' hb
        have X3 := Lib.hid (blk X3'.out hb)
        have I3 := Lib.hid (I3'.out.below hb)
        clear hb K3' X3' I3' HFL
        have HRC := Lib.hid (rcopy_any s ad k w4 I3.out (by have := HL.out; omega))
        obtain ⟨c0, c1, c2, c3, c4, c5⟩ := cells6 X3.out
        go_upto_region 3 with (fail)
        go_wp2_with fail
        with_reducible refine HRC.out.mono ?_
        rintro e w5 ⟨va1, vc1, rfl, ho1, hb⟩
        clear HRC c0 c1 c2 c3 c4 c5
        have HA := al_any w5 (.cells #[.int .i64 s.rows, .int .i64 s.cols, .slice va1 s.cs.length vc1, .int .i64 s.cur, .bool s.lk, .bool s.ins] 24)
        have L6 := Lib.hid (heap_alloc_new w5 (.cells #[.int .i64 s.rows, .int .i64 s.cols, .slice va1 s.cs.length vc1, .int .i64 s.cur, .bool s.lk, .bool s.ins] 24))
        have X6 := Lib.hid (blk X3.out (kept_trans hb HA))
        have I6 := Lib.hid (I3.out.below (kept_trans hb HA))
        have K6 := kept_hid K3 (kept_trans hb HA)
        have J6 := Lib.hid ((OwnCels.below ho1 HA).to)
        clear HA ho1 hb X3 I3 K3
        go_upto_region 4 with (fail)
        generalize w5.heap.size = B1 at *
        generalize w5.alloc _ = w6 at *
        obtain ⟨c0, c1, c2, c3, c4, c5⟩ := cells6 X6.out
        have hn1 : ¬ s.cs.length = 0 := by have := HP.out; omega
        have hn2 : ¬ s.cs = [] := fun e => hn1 (by rw [e]; rfl)
        have hn3 : ((s.cs.length : Int) == 0) = false := by simp [hn2]
        have hrb : (a : Int).tmod (s.cs.length : Int) = (x : Int) := by rw [Int.tmod_eq_emod_of_nonneg (by omega)]; exact HXX.out
        have hrb2 : (IntKind.i64.wrap (a : Int)).tmod (s.cs.length : Int) = (x : Int) := by rw [IntWalk.i64_in _ (by have := HA16.out; omega)]; exact hrb
        have hrb3 : (wrap64 (a : Int)).tmod (s.cs.length : Int) = (x : Int) := by
          have hwb2 : wrap64 (a : Int) = (a : Int) := by have := HA16.out; unfold wrap64; omega
          rw [hwb2]; exact hrb
        have HALL := Lib.hid fun W (hb : Below w6.heap.size w6 W) => all_no s ad k x al os.length cl os i W (I6.out.below hb) HR.out H8.out (by have := HL.out; omega) HXL.out (HO.out.below (kept_trans K6.out hb)) HSD.out (by have := HOL.out; omega) HPW.out
        simp only [Refused] at HALL
        have HD1 := Lib.hid ((Below.refl w6.heap.size w6).drew)
        have HD2 := Lib.hid (show Below w6.heap.size w6 (w6.alloc (.cells #[.int .i64 0, .int .i64 0, .slice none 0 0, .int .i64 0, .bool false, .bool false] 24)).drew from (al_any w6 (.cells #[.int .i64 0, .int .i64 0, .slice none 0 0, .int .i64 0, .bool false, .bool false] 24)).drew)
        have HNB := Lib.hid (show (w6.alloc (.cells #[.int .i64 0, .int .i64 0, .slice none 0 0, .int .i64 0, .bool false, .bool false] 24)).drew.heap[w6.heap.size]? = some (.cells #[.int .i64 0, .int .i64 0, .slice none 0 0, .int .i64 0, .bool false, .bool false] 24 (0, 0)) from heap_alloc_new w6 (.cells #[.int .i64 0, .int .i64 0, .slice none 0 0, .int .i64 0, .bool false, .bool false] 24))
        have HNH := Lib.hid (fun W' (hW : Below (w6.alloc (.cells #[.int .i64 0, .int .i64 0, .slice none 0 0, .int .i64 0, .bool false, .bool false] 24)).drew.heap.size (w6.alloc (.cells #[.int .i64 0, .int .i64 0, .slice none 0 0, .int .i64 0, .bool false, .bool false] 24)).drew W') => blk HNB.out hW)
        have HNC := Lib.hid (fun W' (hW : Below (w6.alloc (.cells #[.int .i64 0, .int .i64 0, .slice none 0 0, .int .i64 0, .bool false, .bool false] 24)).drew.heap.size (w6.alloc (.cells #[.int .i64 0, .int .i64 0, .slice none 0 0, .int .i64 0, .bool false, .bool false] 24)).drew W') => cells6 (blk HNB.out hW))
        have HNF := Lib.hid (fun W' (hW : Below (w6.alloc (.cells #[.int .i64 0, .int .i64 0, .slice none 0 0, .int .i64 0, .bool false, .bool false] 24)).drew.heap.size (w6.alloc (.cells #[.int .i64 0, .int .i64 0, .slice none 0 0, .int .i64 0, .bool false, .bool false] 24)).drew W') => free6 (blk HNB.out hW))
        have HSX := Lib.hid (show ∀ W', Below w6.heap.size w6 W' → Below w6.heap.size w6 W' ∧ W'.cell? ⟨w.heap.size, 0, none⟩ = some (.int .i64 s.rows) ∧ W'.cell? ⟨w.heap.size, 1, none⟩ = some (.int .i64 s.cols) ∧ W'.cell? ⟨w.heap.size, 2, none⟩ = some (.slice ad s.cs.length k) ∧ W'.cell? ⟨w.heap.size, 3, none⟩ = some (.int .i64 s.cur) ∧ W'.cell? ⟨w.heap.size, 4, none⟩ = some (.bool s.lk) ∧ W'.cell? ⟨w.heap.size, 5, none⟩ = some (.bool s.ins) from fun W' hW => ⟨hW, cells6 (blk X6.out hW)⟩)
        go_upto_region 4 with (fail)
        go_region_held3 (fun W' => Below w6.heap.size w6 W' ∧ W'.cell? ⟨w.heap.size, 0, none⟩ = some (.int .i64 s.rows) ∧ W'.cell? ⟨w.heap.size, 1, none⟩ = some (.int .i64 s.cols) ∧ W'.cell? ⟨w.heap.size, 2, none⟩ = some (.slice ad s.cs.length k) ∧ W'.cell? ⟨w.heap.size, 3, none⟩ = some (.int .i64 s.cur) ∧ W'.cell? ⟨w.heap.size, 4, none⟩ = some (.bool s.lk) ∧ W'.cell? ⟨w.heap.size, 5, none⟩ = some (.bool s.ins))
          ((refine HSX.out _ ?_; first | with_reducible exact HD1.out | with_reducible exact HD2.out | with_reducible exact hbw | with_reducible exact below_grown hbw SFN.2 (Nat.le_refl _) | with_reducible exact kept_trans hbw (al_any _ _)))
          (first | (go_at_call 16; with_reducible refine (HALL.out _ (And.left (by assumption))).mono ?_; rintro e we ⟨va, vc, ev, rfl, hci, htd, hb⟩; have hbw := kept_trans (And.left (by assumption : Below w6.heap.size w6 _ ∧ _)) hb; first | (with_reducible have hb3 : Below (w6.alloc (.cells #[.int .i64 0, .int .i64 0, .slice none 0 0, .int .i64 0, .bool false, .bool false] 24)).drew.heap.size (w6.alloc (.cells #[.int .i64 0, .int .i64 0, .slice none 0 0, .int .i64 0, .bool false, .bool false] 24)).drew we := hb; obtain ⟨z0, z1, z2, z3, z4, z5⟩ := HNC.out _ hb3; obtain ⟨f0, f1, f2, f3, f4, f5⟩ := HNF.out _ hb3; have SFN := over6 we w6.heap.size _ _ _ _ _ _ _ (.int .i64 s.rows) (.int .i64 s.cols) (.slice va s.cs.length vc) (.int .i64 s.cur) (.bool s.lk) (.bool s.ins) (HNH.out _ hb3)) | skip))
        all_goals
          (first
            | (have L5 := Lib.hid SFN.1
               have K5 := Lib.hid (below_grown hbw SFN.2 (Nat.le_refl _))
               clear z0 z1 z2 z3 z4 z5 f0 f1 f2 f3 f4 f5 SFN hb3
               generalize (((((we.setCell _ _).setCell _ _).setCell _ _).setCell _ _).setCell _ _).setCell _ _ = wz at *
               generalize hNB : w6.heap.size = NB at L5 ⊢
               have HNB2 := Lib.hid (show w6.heap.size ≤ NB from Nat.le_of_eq hNB))
            | (have L5 := Lib.hid (heap_alloc_new we (.cells #[.int .i64 s.rows, .int .i64 s.cols, .slice va s.cs.length vc, .int .i64 s.cur, .bool s.lk, .bool s.ins] 24))
               have K5 := Lib.hid (kept_trans hbw (al_any we (.cells #[.int .i64 s.rows, .int .i64 s.cols, .slice va s.cs.length vc, .int .i64 s.cur, .bool s.lk, .bool s.ins] 24)))
               generalize we.alloc _ = wz at *
               generalize hNB : we.heap.size = NB at L5 ⊢
               have HNB2 := Lib.hid (show w6.heap.size ≤ NB from by rw [← hNB]; exact hbw.size)))
          clear hNB hb hbw HSX HALL HNH HNC HNF HNB HD1 HD2 hci
        all_goals
          clear hn1 hn2 hn3 hrb hrb2 hrb3 c0 c1 c2 c3 c4 c5
          have HSM := Lib.hid (rsame_any s.rows s.cols s.cur s.lk s.ins ad s.cs.length k va1 s.cs.length vc1 s.cs s.cs wz (I6.out.below K5.out) (J6.out.below K5.out) (by have := HL.out; omega))
          rw [decide_eq_true rfl] at HSM
          obtain ⟨d0, d1, d2, d3, d4, d5⟩ := cells6 (blk X6.out K5.out)
          obtain ⟨e0, e1, e2, e3, e4, e5⟩ := cells6 (blk L6.out K5.out)
          have K9 := kept_hid K6 K5.out
          have HIN := HIW.out
          clear L5 HNB2 HIW
          rcases htd with ⟨_, h1, _⟩ | ⟨rfl, _⟩ | ⟨_, _, rfl, _⟩
          · exact absurd h1 (by omega)
          all_goals
            clear HIN
            go_wp2_with fail
            with_reducible refine HSM.out.mono ?_
            rintro e wb ⟨rfl, hb⟩
            have K10 := kept_hid K9 hb
            clear hb
            go_wp2_with fail
            go_ret
            exact ⟨rfl, K10.out⟩
end Pnt
end Go.Proofs.YtdmieopdgihnkaaDoor
