/- The law FieldKeeps. -/
import Derived.Test.YtoacookbfpcncaaFldAwake
import Derived.Test.YtoacookbfpcncaaFldRef4
import Derived.Test.YtoacookbfpcncaaGrdFew
import Derived.Test.YtoacookbfpcncaaGrdRints
import Derived.Test.YtoacookbfpcncaaGrdEq
import Derived.Test.YtoacookbfpcncaaOpnScr
import Derived.Deep.RegionHeld3
import Derived.Deep.Cut
import Derived.Test.YtoacookbfpcncaaGrdRsame
namespace Go.Proofs.Ytoacookbfpcncaa
open Go.RowKit Sha Six Apd Cut Err Att Grd
set_option linter.unusedVariables false
namespace Fld
theorem both66 {w1 : World} {B B' : Nat} {t t' : TypeId} {a0 a1 a2 a3 a4 a5 b0 b1 b2 b3 b4 b5 : Value} (k : w1.heap[B]? = some (.cells #[a0, a1, a2, a3, a4, a5] t (0, 0))) (k' : w1.heap[B']? = some (.cells #[b0, b1, b2, b3, b4, b5] t' (0, 0))) (w' : World) (h : Below w1.heap.size w1 w') :
    Below w1.heap.size w1 w' ∧ w'.cell? ⟨B, 0, none⟩ = some a0 ∧ w'.cell? ⟨B, 1, none⟩ = some a1 ∧ w'.cell? ⟨B, 2, none⟩ = some a2 ∧ w'.cell? ⟨B, 3, none⟩ = some a3 ∧ w'.cell? ⟨B, 4, none⟩ = some a4 ∧ w'.cell? ⟨B, 5, none⟩ = some a5 ∧
      w'.cell? ⟨B', 0, none⟩ = some b0 ∧ w'.cell? ⟨B', 1, none⟩ = some b1 ∧ w'.cell? ⟨B', 2, none⟩ = some b2 ∧ w'.cell? ⟨B', 3, none⟩ = some b3 ∧ w'.cell? ⟨B', 4, none⟩ = some b4 ∧ w'.cell? ⟨B', 5, none⟩ = some b5 :=
  ⟨h, (cells6 (blk k h)).1, (cells6 (blk k h)).2.1, (cells6 (blk k h)).2.2.1, (cells6 (blk k h)).2.2.2.1, (cells6 (blk k h)).2.2.2.2.1, (cells6 (blk k h)).2.2.2.2.2, cells6 (blk k' h)⟩
/-- A number of an own row that isn't empty is stored. -/
theorem own_at {w : World} {base e n cap : Nat} {ad : Option Addr} {us : List Value} (h : w.ownsRow base e 1 (.slice ad n cap) n us) {i : Nat} (hi : i < n) : ∃ g u, ad = some ⟨g, 0, none⟩ ∧ base ≤ g ∧ g < w.heap.size ∧ w.cell? ⟨g, i, none⟩ = some u ∧ w.frozen? ⟨g, i, none⟩ = false := by
  have h' := h
  obtain ⟨hl, hv⟩ := h
  rcases hv with ⟨hv, h0⟩ | ⟨g, c2, cur, hv, hg, hcur, h1, h2, h3, h4⟩
  · omega
  · injection hv with e1 e2 e3
    subst e1
    have hc := World.ownsRow.cellAt h' i (by omega)
    rw [List.getElem?_eq_getElem (show i < us.length by omega)] at hc
    exact ⟨g, _, rfl, hg, there_lt hcur, hc, World.ownsRow.frozenAt h' i⟩
set_option maxRecDepth 100000 in
set_option maxHeartbeats 8000000 in
theorem keeps_any (s : S) (ad : Option Addr) (k : Nat) (a : Int) (w : World) (h : CelsIn w (.slice ad s.cs.length k) s.cs) (hwf : Opn.Wf s.cs) (hm : s.cs.length ≤ maxLen) (wa : (Lit.int .u16 a).wf = true) :
    Calls Try.prog 7 #[.agg #[.int .i64 s.rows, .int .i64 s.cols, .slice ad s.cs.length k, .int .i64 s.cur, .bool s.lk, .bool s.ins], .int .u16 a] w fun e w' => e = .returned (.bool true) ∧ Below w.heap.size w w' := by
  obtain ⟨b0, b1⟩ := Ord.wf_u16 wa
  obtain ⟨a, rfl⟩ := Int.eq_ofNat_of_zero_le b0
  have HAW := Lib.hid fun W => awake_any W
  have HB := Lib.hid (al_any w (.cells #[.int .i64 s.rows, .int .i64 s.cols, .slice ad s.cs.length k, .int .i64 s.cur, .bool s.lk, .bool s.ins] 24))
  have HX := Lib.hid (heap_alloc_new w (.cells #[.int .i64 s.rows, .int .i64 s.cols, .slice ad s.cs.length k, .int .i64 s.cur, .bool s.lk, .bool s.ins] 24))
  have HI := Lib.hid (h.below HB.out)
  have HF := Lib.hid fun W hb => rfew_any s ad k W (HI.out.below hb) (wf_sound hwf)
  have HSD := Lib.hid (wf_sound hwf)
  clear h hwf hm wa
  cases hf : few s with
  | false =>
    rw [hf] at HF
    go_enter Try.func7, Try.ntmps7
    go_upto_region 1 with (fail)
    generalize w.alloc _ = w1 at *
    go_wp2_with fail
    with_reducible refine (HAW.out _).mono ?_
    rintro e w2 ⟨rfl, hb⟩
    have K2 := Lib.hid hb
    obtain ⟨c0, c1, c2, c3, c4, c5⟩ := cells6 (blk HX.out hb)
    clear hb
    go_wp2_with fail
    with_reducible refine (HF.out _ K2.out).mono ?_
    rintro e w3 ⟨rfl, hb⟩
    have K3 := kept_hid HB (kept_trans K2.out hb)
    clear hb c0 c1 c2 c3 c4 c5
    go_wp2_with fail
    with_reducible refine (HAW.out _).mono ?_
    rintro e w4 ⟨rfl, hb⟩
    have K4 := kept_hid K3 hb
    clear hb
    go_wp2_with fail
    go_ret
    exact ⟨rfl, K4.out⟩
  | true =>
    rw [hf] at HF
    obtain ⟨q1, q2, _⟩ := few_parts hf
    have HL := Lib.hid q1
    have HP := Lib.hid q2
    have HZ := Lib.hid (show 0 < s.cs.length by omega)
    have HLT := Lib.hid (show s.cs.length < 10000 by omega)
    have HLC := Lib.hid (show s.cs.length < 100000000 by omega)
    have hx : ((a : Int) % (s.cs.length : Int)) = ((a % s.cs.length : Nat) : Int) := by omega
    have HXL := Lib.hid (Nat.mod_lt a q2)
    have hne : ¬ ((s.cs.length : Int) = 0) := by omega
    generalize a % s.cs.length = x at *
    clear hf q1 q2
    go_enter Try.func7, Try.ntmps7
    go_upto_region 1 with (fail)
    generalize w.alloc _ = w1 at *
    go_wp2_with fail
    with_reducible refine (HAW.out _).mono ?_
    rintro e w2 ⟨rfl, hb⟩
    have K2 := Lib.hid hb
    obtain ⟨c0, c1, c2, c3, c4, c5⟩ := cells6 (blk HX.out hb)
    clear hb
    go_wp2_with fail
    with_reducible refine (HF.out _ K2.out).mono ?_
    rintro e w3 ⟨rfl, hb⟩
    have K3 := kept_hid HB (kept_trans K2.out hb)
    have X3 := Lib.hid (blk HX.out (kept_trans K2.out hb))
    have I3 := Lib.hid (HI.out.below (kept_trans K2.out hb))
    clear hb c0 c1 c2 c3 c4 c5 HAW HF HX HB HI K2
    have HRC := Lib.hid (rcopy_any s ad k w3 I3.out HLC.out)
    obtain ⟨c0, c1, c2, c3, c4, c5⟩ := cells6 X3.out
    go_wp2_with fail
    with_reducible refine HRC.out.mono ?_
    rintro e w4 ⟨va, vc, rfl, ho, hb⟩
    have HA := al_any w4 (.cells #[.int .i64 s.rows, .int .i64 s.cols, .slice va s.cs.length vc, .int .i64 s.cur, .bool s.lk, .bool s.ins] 24)
    have L5 := Lib.hid (heap_alloc_new w4 (.cells #[.int .i64 s.rows, .int .i64 s.cols, .slice va s.cs.length vc, .int .i64 s.cur, .bool s.lk, .bool s.ins] 24))
    have K5 := kept_hid K3 (kept_trans hb HA)
    have X5 := Lib.hid (blk X3.out (kept_trans hb HA))
    have I5 := Lib.hid (I3.out.below (kept_trans hb HA))
    have J5 := Lib.hid (ho.to.below HA)
    clear ho hb HA HRC I3 K3 X3 c0 c1 c2 c3 c4 c5
    go_upto_region 4 with (fail)
    generalize w4.heap.size = BW at *
    generalize w4.alloc _ = w5 at *
    obtain ⟨c0, c1, c2, c3, c4, c5⟩ := cells6 X5.out
    have Q1 := Lib.hid (fcells_any s ad k x w5 I5.out HSD.out HZ.out HLT.out HXL.out)
    have HNC := Lib.hid (show (cells s.cs x).length < 100000000 by
      unfold cells; rw [cells_len]; have := (clen_spec s.cs (begin_ s.cs x)).1; have := HL.out; omega)
    go_wp2_with fail
    with_reducible refine Q1.out.mono ?_
    rintro e w6 ⟨v1, rfl, ho1, hb⟩
    obtain ⟨va1, vc1, rfl⟩ := ho1.form
    have K6 := Lib.hid hb
    have O6 := Lib.hid (show w6.ownsRow w5.heap.size 3 1 (.slice va1 (cells s.cs x).length vc1) (cells s.cs x).length (i64s (cells s.cs x)) from ho1)
    have HB1 := Lib.hid (show ∀ g, (Value.slice va1 (cells s.cs x).length vc1).ownBlock = some g → g < w6.heap.size from fun g hg => by
      obtain ⟨ad2, c2, hv, _, hs⟩ := own_spot ho1
      injection hv with e1 e2 e3
      subst e1
      cases va1 with
      | none => simp [Value.ownBlock] at hg
      | some a2 =>
        have := hs a2 rfl
        rw [this.1] at hg
        simp [Value.ownBlock] at hg
        omega)
    clear hb ho1 Q1 c0 c1 c2 c3 c4 c5
    obtain ⟨c0, c1, c2, c3, c4, c5⟩ := cells6 (blk X5.out K6.out)
    have Q2 := Lib.hid (fbegins_any s ad k w6 (I5.out.below K6.out) HSD.out HZ.out HLT.out)
    have HNB := Lib.hid (show (begins s.cs).length < 100000000 by
      have := List.length_filter_le (fat s.cs) (List.range s.cs.length); rw [List.length_range] at this; unfold begins; have := HL.out; omega)
    generalize hn1' : (cells s.cs x).length = n1 at O6 HB1 HNC
    replace hn1' := Lib.hid hn1'
    go_wp2_with fail
    with_reducible refine Q2.out.mono ?_
    rintro e w7 ⟨v2, rfl, ho2, hb⟩
    obtain ⟨va2, vc2, rfl⟩ := ho2.form
    have K7 := kept_hid K6 hb
    have O7 := Lib.hid (own_below O6.out hb)
    have P7 := Lib.hid (show w7.ownsRow w6.heap.size 3 1 (.slice va2 (begins s.cs).length vc2) (begins s.cs).length (i64s (begins s.cs)) from ho2)
    have HS6 := Lib.hid K6.out.size
    clear hb ho2 Q2 c0 c1 c2 c3 c4 c5 O6
    generalize (begins s.cs).length = n2 at *
    generalize w6.heap.size = z6 at *
    go_wp2_with fail
    go_loopg [9] (n1 + 1) (fun m i wr => ∃ q : Nat, q ≤ n1 ∧ m = n1 + 1 - q ∧ i = .int .i64 q ∧ Hid (Below w5.heap.size w5 wr) ∧ (∃ us, Hid (wr.ownsRow w5.heap.size 3 1 (.slice va1 n1 vc1) n1 us)) ∧ (∃ ub, Hid (wr.ownsRow z6 3 1 (.slice va2 n2 vc2) n2 ub)))
    case atStart => exact ⟨0, Nat.zero_le _, rfl, rfl, K7, ⟨_, O7⟩, ⟨_, P7⟩⟩
    case round =>
      obtain ⟨q, hq, rfl, rfl, HKr, ⟨us, HO⟩, ⟨ub, HP2⟩⟩ := hrel
      have ew : IntKind.i64.wrap ((q : Int) + 1) = (q : Int) + 1 := by
        have := HNC.out
        rw [IntWalk.i64_in] <;> omega
      by_cases hlt : q < n1
      · obtain ⟨g, u, rfl, hg, hgl, hc, hf⟩ := own_at HO.out hlt
        have hi0 : (0 : Int) ≤ (q : Int) := by omega
        have hi1 : (q : Int) < (n1 : Int) := by omega
        obtain ⟨h1, h2⟩ := World.ownsRow.stored HO.out q (.int .i64 (-7))
        have O2 := Lib.hid h1
        have K2 := Lib.hid (below_grown HKr.out h2 hg)
        have P2 := Lib.hid (World.ownsRow.kept HP2.out h2 (.inr (fun e => by
          have h5 := own_ge HP2.out _ e
          have h6 := HB1.out g rfl
          omega)))
        clear h1 h2 HO HP2 HKr
        go_wp2_with fail
        clear hc hf
        go_roundg (n1 + 1 - (q + 1))
        case measure => omega
        case rel => exact ⟨q + 1, by omega, rfl, rfl, K2, ⟨_, O2⟩, ⟨_, P2⟩⟩
      · have hn0 : ¬ (q : Int) < (n1 : Int) := by omega
        have K8 := HKr
        have P8 := HP2
        clear hlt HO HKr HP2 O7 P7 K7 ew
        go_wp2_with fail
        obtain ⟨wo, hwo⟩ : ∃ wo : World, wo = wr := ⟨_, rfl⟩
        subst hwo
        go_loopg [10] (n2 + 1) (fun m i wr => ∃ q : Nat, q ≤ n2 ∧ m = n2 + 1 - q ∧ i = .int .i64 q ∧ Hid (Below w5.heap.size w5 wr) ∧ (∃ ub, Hid (wr.ownsRow z6 3 1 (.slice va2 n2 vc2) n2 ub)))
        case atStart => exact ⟨0, Nat.zero_le _, rfl, rfl, K8, ⟨_, P8⟩⟩
        case round =>
          obtain ⟨q2, hq2, rfl, rfl, HKr, ⟨ub2, HP2⟩⟩ := hrel
          have ew : IntKind.i64.wrap ((q2 : Int) + 1) = (q2 : Int) + 1 := by
            have := HNB.out
            rw [IntWalk.i64_in] <;> omega
          by_cases hlt : q2 < n2
          · obtain ⟨g, u, rfl, hg, hgl, hc, hf⟩ := own_at HP2.out hlt
            have hi0 : (0 : Int) ≤ (q2 : Int) := by omega
            have hi1 : (q2 : Int) < (n2 : Int) := by omega
            obtain ⟨h1, h2⟩ := World.ownsRow.stored HP2.out q2 (.int .i64 (-7))
            have P2 := Lib.hid h1
            have K2 := Lib.hid (below_grown HKr.out h2 (Nat.le_trans HS6.out hg))
            clear h1 h2 HP2 HKr
            go_wp2_with fail
            clear hc hf
            go_roundg (n2 + 1 - (q2 + 1))
            case measure => omega
            case rel => exact ⟨q2 + 1, by omega, rfl, rfl, K2, ⟨_, P2⟩⟩
          · have hn1 : ¬ (q2 : Int) < (n2 : Int) := by omega
            have K9 := HKr
            clear hlt HKr HP2 K8 P8 ew
            have X9 := Lib.hid (blk X5.out K9.out)
            have L9 := Lib.hid (blk L5.out K9.out)
            have I9 := Lib.hid (I5.out.below K9.out)
            have J9 := Lib.hid (J5.out.below K9.out)
            have KW := kept_hid K5 K9.out
            have Q3 := Lib.hid fun W (hb : Below wr.heap.size wr W) => rsame_any s.rows s.cols s.cur s.lk s.ins ad s.cs.length k va s.cs.length vc s.cs s.cs W (I9.out.below hb) (J9.out.below hb) (by have := HL.out; omega)
            simp only [decide_true] at Q3
            have Q4 := Lib.hid fun W (hb : Below wr.heap.size wr W) => fcells_any s ad k x W (I9.out.below hb) HSD.out HZ.out HLT.out HXL.out
            have Q5 := Lib.hid fun W (hb : Below wr.heap.size wr W) => rcells_any s ad k x W (I9.out.below hb) HZ.out HLC.out HXL.out
            have HNL := Lib.hid (show (cells s.cs x).length < 100000000 by have h1 := hn1'.out; have h2 := HNC.out; omega)
            go_wp2_with fail
            first
              | go_region_held3 (fun W' => Below wr.heap.size wr W' ∧ W'.cell? ⟨w.heap.size, 0, none⟩ = some (.int .i64 s.rows) ∧ W'.cell? ⟨w.heap.size, 1, none⟩ = some (.int .i64 s.cols) ∧ W'.cell? ⟨w.heap.size, 2, none⟩ = some (.slice ad s.cs.length k) ∧ W'.cell? ⟨w.heap.size, 3, none⟩ = some (.int .i64 s.cur) ∧ W'.cell? ⟨w.heap.size, 4, none⟩ = some (.bool s.lk) ∧ W'.cell? ⟨w.heap.size, 5, none⟩ = some (.bool s.ins) ∧ W'.cell? ⟨BW, 0, none⟩ = some (.int .i64 s.rows) ∧ W'.cell? ⟨BW, 1, none⟩ = some (.int .i64 s.cols) ∧ W'.cell? ⟨BW, 2, none⟩ = some (.slice va s.cs.length vc) ∧ W'.cell? ⟨BW, 3, none⟩ = some (.int .i64 s.cur) ∧ W'.cell? ⟨BW, 4, none⟩ = some (.bool s.lk) ∧ W'.cell? ⟨BW, 5, none⟩ = some (.bool s.ins))
                  (first | with_reducible exact both66 X9.out L9.out _ (Below.refl _ _).drew | with_reducible exact both66 X9.out L9.out _ (Below.refl _ _) | with_reducible exact both66 X9.out L9.out _ (And.left (by assumption)) | with_reducible exact both66 X9.out L9.out _ (kept_trans (And.left (by assumption)) hb))
                  (first
                    | (go_at_call 28; with_reducible refine (Q3.out _ (And.left (by assumption))).mono ?_; rintro e wa ⟨rfl, hb⟩)
                    | (go_at_call 16; with_reducible refine (Q4.out _ (And.left (by assumption))).mono ?_; rintro e we ⟨v1, rfl, ho1, hb⟩)
                    | (go_at_call 17; with_reducible refine (Q5.out _ (And.left (by assumption))).mono ?_; rintro e wf ⟨v2, rfl, ho2, hb⟩; replace ho1 := ho1.below hb)
                    | (go_at_call 15; with_reducible refine (rints_same _ _ _ _ _ _ ho1 ho2 HNL.out).mono ?_; rintro e wg ⟨rfl, m, rfl⟩; have hb := below_drewN wf.heap.size m wf))
              | fail "no"
            have hS := And.left (by assumption : Below wr.heap.size wr (wf.drewN m) ∧ _)
            have KF := kept_hid KW hS
            clear hS hb ho1 ho2 Q3 Q4 Q5
            go_wp2_with fail
            go_ret
            exact ⟨rfl, KF.out⟩
end Fld
end Go.Proofs.Ytoacookbfpcncaa
