/- The law FieldRound. -/
import Derived.Test.YtoacookbfpcncaaFldAwake
import Derived.Test.YtoacookbfpcncaaGrdFew
import Derived.Test.YtoacookbfpcncaaGrdRints
import Derived.Test.YtoacookbfpcncaaGrdEq
import Derived.Test.YtoacookbfpcncaaOpnScr
import Derived.Deep.RegionHeld3
import Derived.Deep.Cut
import Derived.Test.YtoacookbfpcncaaGrdRnext
import Derived.Test.YtoacookbfpcncaaGrdRow
import Derived.StillTailTactics
import Derived.Deep.LoopGhost
namespace Go.Proofs.Ytoacookbfpcncaa
open Go.RowKit Sha Six Apd Cut Err Att Grd
set_option linter.unusedVariables false
namespace Fld
theorem prot_of {cs : List C} {i : Nat} {f p n : Bool} {s : Int} {m : Bool} {c : Nat} (h : cs.getD i noC = ⟨f, p, n, s, m, c⟩) : prot cs i = p := by unfold prot; rw [h]
theorem cnt_yes {q : Nat → Bool} {m : Nat} (h : q m = true) : cnt q (m + 1) = cnt q m + 1 := by show cnt q m + _ = _; rw [h]; rfl
/-- Going round: where one stands behind q steps (o: the first opener met). -/
def Stand (cs : List C) (o N q : Nat) (at_ : Nat) (bs : List Bool) : Prop := ∃ d : Nat, at_ = on cs.length (o : Int) ((d : Int) + 1) ∧
  (q < N → d < cs.length ∧ opener cs (on cs.length (o : Int) (d : Int)) = true ∧ cnt (fun y => opener cs (on cs.length (o : Int) (y : Int))) (d + 1) = q + 1 ∧ ∀ c, bs.getD c false = true → ∃ y, y < d ∧ c = on cs.length (o : Int) ((y : Int) + 1)) ∧ (q = N → d = 0)
theorem stand_first {cs : List C} {o N : Nat} (ho : o < cs.length) (h : opener cs o = true) (hN : 0 < N) {bs : List Bool} (hbs : ∀ c, bs.getD c false = false) : Stand cs o N 0 (on cs.length (o : Int) 1) bs := by
  refine ⟨0, rfl, fun _ => ⟨by omega, by rw [show ((0 : Nat) : Int) = 0 from rfl, on_zero ho]; exact h, ?_, fun c hc => by rw [hbs c] at hc; cases hc⟩, fun _ => rfl⟩
  exact cnt_yes (q := fun y => opener cs (on cs.length (o : Int) (y : Int))) (m := 0) (show opener cs (on cs.length (o : Int) ((0 : Nat) : Int)) = true by rw [show ((0 : Nat) : Int) = 0 from rfl, on_zero ho]; exact h)
theorem stand_new {cs : List C} {o N q at_ : Nat} {bs : List Bool} (ho : o < cs.length) (hs : Stand cs o N q at_ bs) (hq : q < N) : at_ < cs.length ∧ bs.getD at_ false = false := by
  obtain ⟨d, h1, h2, _⟩ := hs
  obtain ⟨g1, g2, g3, g4⟩ := h2 hq
  refine ⟨by rw [h1]; exact on_lt (by omega) _ _, ?_⟩
  cases hb : bs.getD at_ false with
  | false => rfl
  | true =>
    obtain ⟨y, hy, he⟩ := g4 _ hb
    rw [h1] at he
    have hd := on_back (z := cs.length) (a := d) g1 (o : Int)
    have e1 : on cs.length ((on cs.length (o : Int) ((d : Int) + 1) : Nat) : Int) (-1 - (o : Int)) = d := by
      rw [on_on (by omega), show (d : Int) + 1 + (-1 - (o : Int)) = -(o : Int) + (d : Int) by omega]
      unfold on
      rw [show (o : Int) + (-(o : Int) + (d : Int)) = (d : Int) by omega, Int.emod_eq_of_lt (by omega) (by omega)]; omega
    have e2 : on cs.length ((on cs.length (o : Int) ((y : Int) + 1) : Nat) : Int) (-1 - (o : Int)) = y := by
      rw [on_on (by omega), show (y : Int) + 1 + (-1 - (o : Int)) = -(o : Int) + (y : Int) by omega]
      unfold on
      rw [show (o : Int) + (-(o : Int) + (y : Int)) = (y : Int) by omega, Int.emod_eq_of_lt (by omega) (by omega)]; omega
    rw [he, e2] at e1
    omega
theorem stand_step {cs : List C} {o N q at_ : Nat} {bs : List Bool} (ho : o < cs.length) (hop : opener cs o = true) (hN : cnt (opener cs) cs.length = N) (hl : bs.length = cs.length) (hs : Stand cs o N q at_ bs) (hq : q < N) :
    ∃ at2 : Nat, next cs at_ = (at2 : Int) ∧ Stand cs o N (q + 1) at2 (bs.set at_ true) := by
  obtain ⟨d, h1, h2, _⟩ := hs
  obtain ⟨g1, g2, g3, g4⟩ := h2 hq
  have hN2 : cnt (fun y => opener cs (on cs.length (o : Int) (y : Int))) cs.length = N := (cnt_turn (opener cs) ho).trans hN
  rcases round_step ho g1 g2 with ⟨d', a1, a2, a3, a4, a5⟩ | ⟨d', a1, a2, a3, a4, a5⟩
  · refine ⟨_, by rw [h1]; exact a5, d', rfl, fun hq1 => ⟨a2, a3, ?_, fun c hc => ?_⟩, fun hq1 => ?_⟩
    · rw [cnt_yes (q := fun y => opener cs (on cs.length (o : Int) (y : Int))) a3, cnt_gap (d := d + 1) (by omega) (fun x h3 h4 => a4 x (by omega) h4), g3]
    · by_cases hca : c = at_
      · exact ⟨d, a1, by rw [hca]; exact h1⟩
      · rw [List.getD_eq_getElem?_getD, List.getElem?_set_ne (fun e => hca e.symm), ← List.getD_eq_getElem?_getD] at hc
        obtain ⟨y, hy, he⟩ := g4 c hc
        exact ⟨y, by omega, he⟩
    · exfalso
      have e1 : cnt (fun y => opener cs (on cs.length (o : Int) (y : Int))) (d' + 1) = q + 2 := by
        rw [cnt_yes (q := fun y => opener cs (on cs.length (o : Int) (y : Int))) a3, cnt_gap (d := d + 1) (by omega) (fun x h3 h4 => a4 x (by omega) h4), g3]
      have e2 := cnt_le (fun y => opener cs (on cs.length (o : Int) (y : Int))) (show d' + 1 ≤ cs.length by omega)
      omega
  · have e1 := cnt_gap (q := fun y => opener cs (on cs.length (o : Int) (y : Int))) (d := d + 1) (e := cs.length) (by omega) (fun x h3 h4 => a4 x (by omega) h4)
    refine ⟨_, by rw [h1]; exact a5, d', rfl, fun hq1 => absurd hq1 (by omega), fun _ => ?_⟩
    rcases Nat.eq_zero_or_pos d' with h0 | h0
    · exact h0
    · have := a3 0 h0
      rw [show ((0 : Nat) : Int) = 0 from rfl, on_zero ho, hop] at this; cases this
theorem stand_last {cs : List C} {o N at_ : Nat} {bs : List Bool} (hs : Stand cs o N N at_ bs) : at_ = on cs.length (o : Int) 1 := by
  obtain ⟨d, h1, _, h3⟩ := hs
  rw [h1, h3 rfl]; rfl
theorem cnt_zero {q : Nat → Bool} {z : Nat} (h : cnt q z = 0) : ∀ i, i < z → q i = false := fun i hi => by
  cases hq : q i with
  | false => rfl
  | true =>
    have h1 : cnt q (i + 1) = cnt q i + 1 := by show cnt q i + _ = _; rw [hq]; rfl
    have h2 := cnt_le q (show i + 1 ≤ z by omega)
    omega
theorem cnt_pos {q : Nat → Bool} {z : Nat} (h : 0 < cnt q z) : ∃ i, i < z ∧ q i = true := by
  rcases Classical.em (∃ i, i < z ∧ q i = true) with h1 | h1
  · exact h1
  · exfalso
    have := cnt_gap (q := q) (d := 0) (e := z) (Nat.zero_le _) (fun x _ hx => by
      cases hq : q x with
      | false => rfl
      | true => exact absurd ⟨x, hx, hq⟩ h1)
    rw [this] at h; exact absurd h (by simp [cnt])
set_option maxRecDepth 100000 in
set_option maxHeartbeats 8000000 in
theorem round_any (s : S) (ad : Option Addr) (k : Nat) (a : Int) (w : World) (h : CelsIn w (.slice ad s.cs.length k) s.cs) (hwf : Opn.Wf s.cs) (hm : s.cs.length ≤ maxLen) (wa : (Lit.int .u16 a).wf = true) :
    Calls Try.prog 8 #[.agg #[.int .i64 s.rows, .int .i64 s.cols, .slice ad s.cs.length k, .int .i64 s.cur, .bool s.lk, .bool s.ins], .int .u16 a] w fun e w' => e = .returned (.bool true) ∧ Below w.heap.size w w' := by
  obtain ⟨b0, b1⟩ := Ord.wf_u16 wa
  obtain ⟨a, rfl⟩ := Int.eq_ofNat_of_zero_le b0
  have HAW := Lib.hid fun W => awake_any W
  have HB := Lib.hid (al_any w (.cells #[.int .i64 s.rows, .int .i64 s.cols, .slice ad s.cs.length k, .int .i64 s.cur, .bool s.lk, .bool s.ins] 24))
  have HX := Lib.hid (heap_alloc_new w (.cells #[.int .i64 s.rows, .int .i64 s.cols, .slice ad s.cs.length k, .int .i64 s.cur, .bool s.lk, .bool s.ins] 24))
  have HI := Lib.hid (h.below HB.out)
  have HF := Lib.hid fun W hb => rfew_any s ad k W (HI.out.below hb) (wf_sound hwf)
  have HSD := Lib.hid (wf_sound hwf)
  clear h hwf hm wa
  cases hf : few s with
  | false =>
    rw [hf] at HF
    go_enter Try.func8, Try.ntmps8
    go_upto_region 1 with (fail)
    generalize w.alloc _ = w1 at *
    go_wp2_with fail
    with_reducible refine (HAW.out _).mono ?_
    rintro e w2 ⟨rfl, hb⟩
    have K2 := Lib.hid hb
    obtain ⟨c0, c1, c2, c3, c4, c5⟩ := cells6 (blk HX.out hb)
    clear hb
    go_wp2_with fail
    with_reducible refine (HF.out _ K2.out).mono ?_
    rintro e w3 ⟨rfl, hb⟩
    have K3 := kept_hid HB (kept_trans K2.out hb)
    clear hb c0 c1 c2 c3 c4 c5
    go_wp2_with fail
    with_reducible refine (HAW.out _).mono ?_
    rintro e w4 ⟨rfl, hb⟩
    have K4 := kept_hid K3 hb
    clear hb
    go_wp2_with fail
    go_ret
    exact ⟨rfl, K4.out⟩
  | true =>
    rw [hf] at HF
    obtain ⟨q1, q2, _⟩ := few_parts hf
    have HL := Lib.hid q1
    have HP := Lib.hid q2
    have HZ := Lib.hid (show 0 < s.cs.length by omega)
    have HLT := Lib.hid (show s.cs.length < 10000 by omega)
    have HLC := Lib.hid (show s.cs.length < 100000000 by omega)
    have hx : ((a : Int) % (s.cs.length : Int)) = ((a % s.cs.length : Nat) : Int) := by omega
    have HXL := Lib.hid (Nat.mod_lt a q2)
    have hne : ¬ ((s.cs.length : Int) = 0) := by omega
    generalize a % s.cs.length = x at *
    clear hf q1 q2
    go_enter Try.func8, Try.ntmps8
    go_upto_region 1 with (fail)
    generalize w.alloc _ = w1 at *
    go_wp2_with fail
    with_reducible refine (HAW.out _).mono ?_
    rintro e w2 ⟨rfl, hb⟩
    have K2 := Lib.hid hb
    obtain ⟨c0, c1, c2, c3, c4, c5⟩ := cells6 (blk HX.out hb)
    clear hb
    go_wp2_with fail
    with_reducible refine (HF.out _ K2.out).mono ?_
    rintro e w3 ⟨rfl, hb⟩
    have K3 := kept_hid HB (kept_trans K2.out hb)
    have X3 := Lib.hid (blk HX.out (kept_trans K2.out hb))
    have I3 := Lib.hid (HI.out.below (kept_trans K2.out hb))
    clear hb c0 c1 c2 c3 c4 c5 HAW HF HX HB HI K2
    have HNX := Lib.hid fun (i : Nat) W (hi : i < s.cs.length) => rnext_any s.rows s.cols ad s.cs.length k s.cur s.lk s.ins i W hi HLC.out
    go_wp2_with fail
    go_loopg [5, 6] (s.cs.length + 1) (fun m v i wr => ∃ q : Nat, q ≤ s.cs.length ∧ m = s.cs.length + 1 - q ∧ i = .int .i64 q ∧ v = .int .i64 ((cnt (opener s.cs) q : Nat) : Int) ∧ Hid (Below w3.heap.size w3 wr))
    case atStart => exact ⟨0, Nat.zero_le _, rfl, rfl, rfl, Lib.hid (Below.refl _ _)⟩
    case round =>
      obtain ⟨q, hq, rfl, rfl, rfl, HK⟩ := hrel
      have HCQ := Lib.hid (show cnt (opener s.cs) q ≤ q from by
        have : ∀ m, cnt (opener s.cs) m ≤ m := fun m => by
          induction m with
          | zero => exact Nat.le_refl _
          | succ m ih => show cnt _ m + _ ≤ _; split <;> omega
        exact this q)
      have ew : IntKind.i64.wrap ((q : Int) + 1) = (q : Int) + 1 := by
        have := HL.out
        rw [IntWalk.i64_in] <;> omega
      obtain ⟨c0, c1, c2, c3, c4, c5⟩ := cells6 (blk X3.out HK.out)
      by_cases hlt : q < s.cs.length
      · obtain ⟨xf, xp, xn, xs, xm, xc, ex⟩ := c_eta (s.cs.getD q noC)
        obtain ⟨b1, o1, rfl, g0, g1, g2, g3, g4, g5⟩ := (I3.out.below HK.out).cells hlt ex
        have hi0 : (0 : Int) ≤ (q : Int) := by omega
        have hi1 : (q : Int) < (s.cs.length : Int) := by omega
        have HFQ := Lib.hid (fat_of ex)
        have HPQ := Lib.hid (prot_of ex)
        have HCN := Lib.hid (show cnt (opener s.cs) (q + 1) = cnt (opener s.cs) q + (if opener s.cs q then 1 else 0) from rfl)
        clear ex
        cases xf with
        | false =>
          have HNO := Lib.hid (show cnt (opener s.cs) (q + 1) = cnt (opener s.cs) q by
            rw [HCN.out, show opener s.cs q = false by unfold opener; rw [HFQ.out]; rfl]; rfl)
          go_wp2_with fail
          go_quiet (fail)
          go_wp2_with fail
          go_roundg (s.cs.length + 1 - (q + 1))
          case measure => omega
          case rel => exact ⟨q + 1, by omega, rfl, by first | rfl | go_num, by rw [HNO.out], kept_draw HK _⟩
        | true =>
          cases xp with
          | true =>
            have HNO := Lib.hid (show cnt (opener s.cs) (q + 1) = cnt (opener s.cs) q by
              rw [HCN.out, show opener s.cs q = false by unfold opener; rw [HFQ.out, HPQ.out]; rfl]; rfl)
            go_wp2_with fail
            go_quiet (fail)
            go_wp2_with fail
            go_roundg (s.cs.length + 1 - (q + 1))
            case measure => omega
            case rel => exact ⟨q + 1, by omega, rfl, by first | rfl | go_num, by rw [HNO.out], kept_draw HK _⟩
          | false =>
            have HON := Lib.hid (on_lt HZ.out (q : Int) 1)
            obtain ⟨yf, yp, yn, ys, ym, yc, ey⟩ := c_eta (s.cs.getD (on s.cs.length (q : Int) 1) noC)
            obtain ⟨b2, o2, hbo, p0, p1, p2, p3, p4, p5⟩ := (I3.out.below HK.out).cells HON.out ey
            injection hbo with hbo
            injection hbo with hb1 hb2
            subst hb1
            subst hb2
            have HOQ := Lib.hid (show opener s.cs q = !yf by unfold opener; rw [HFQ.out, HPQ.out, fat_of ey]; rfl)
            have HNX2 := Lib.hid fun W => HNX.out q W hlt
            clear ey
            generalize on s.cs.length (q : Int) 1 = ix at *
            have hj0 : (0 : Int) ≤ (ix : Int) := by omega
            have hj1 : (ix : Int) < (s.cs.length : Int) := by have := HON.out; omega
            have HSS := Lib.hid (show ∀ W', Below wr.heap.size wr W' → Below wr.heap.size wr W' ∧ W'.cell? ⟨w.heap.size, 0, none⟩ = some (.int .i64 s.rows) ∧ W'.cell? ⟨w.heap.size, 1, none⟩ = some (.int .i64 s.cols) ∧ W'.cell? ⟨w.heap.size, 2, none⟩ = some (.slice (some ⟨b1, o1, none⟩) s.cs.length k) ∧ W'.cell? ⟨w.heap.size, 3, none⟩ = some (.int .i64 s.cur) ∧ W'.cell? ⟨w.heap.size, 4, none⟩ = some (.bool s.lk) ∧ W'.cell? ⟨w.heap.size, 5, none⟩ = some (.bool s.ins) ∧ W'.cell? ⟨b1, o1 + q * 6, none⟩ = some (.bool true) ∧ W'.cell? ⟨b1, o1 + q * 6 + 1, none⟩ = some (.bool false) ∧ W'.cell? ⟨b1, o1 + ix * 6, none⟩ = some (.bool yf) from fun W' hB =>
              have E := below6 (blk X3.out HK.out) W' hB
              ⟨hB, E.2.1, E.2.2.1, E.2.2.2.1, E.2.2.2.2.1, E.2.2.2.2.2.1, E.2.2.2.2.2.2, (hB.cell (p := ⟨b1, _, none⟩) (cell_lt g0)).trans g0, (hB.cell (p := ⟨b1, _, none⟩) (cell_lt g1)).trans g1, (hB.cell (p := ⟨b1, _, none⟩) (cell_lt p0)).trans p0⟩)
            go_wp2_with fail
            clear c0 c1 c2 c3 c4 c5 g0 g1 g2 g3 g4 g5 p0 p1 p2 p3 p4 p5
            first
              | go_region_held3 (fun W' => Below wr.heap.size wr W' ∧ W'.cell? ⟨w.heap.size, 0, none⟩ = some (.int .i64 s.rows) ∧ W'.cell? ⟨w.heap.size, 1, none⟩ = some (.int .i64 s.cols) ∧ W'.cell? ⟨w.heap.size, 2, none⟩ = some (.slice (some ⟨b1, o1, none⟩) s.cs.length k) ∧ W'.cell? ⟨w.heap.size, 3, none⟩ = some (.int .i64 s.cur) ∧ W'.cell? ⟨w.heap.size, 4, none⟩ = some (.bool s.lk) ∧ W'.cell? ⟨w.heap.size, 5, none⟩ = some (.bool s.ins) ∧ W'.cell? ⟨b1, o1 + q * 6, none⟩ = some (.bool true) ∧ W'.cell? ⟨b1, o1 + q * 6 + 1, none⟩ = some (.bool false) ∧ W'.cell? ⟨b1, o1 + ix * 6, none⟩ = some (.bool yf))
                  (first | with_reducible exact HSS.out _ (Below.refl _ _).drew | with_reducible exact HSS.out _ (Below.refl _ _) | with_reducible exact HSS.out _ (And.left (by assumption)) | with_reducible exact HSS.out _ (kept_trans (And.left (by assumption)) hb))
                  (first
                    | (go_at_call 29; with_reducible refine (HNX2.out _).mono ?_; rintro e we ⟨rfl, hb⟩))
              | fail "no"
            have hS := And.left (by assumption : Below wr.heap.size wr we ∧ _)
            have K2 := kept_hid HK hS
            clear hS hb HSS HNX2
            rename_i hHeld
            clear hHeld
            cases yf with
            | true =>
              have HNO := Lib.hid (show cnt (opener s.cs) (q + 1) = cnt (opener s.cs) q by
                rw [HCN.out, HOQ.out]; rfl)
              simp only [Bool.not_true]
              go_wp2_with fail
              go_roundg (s.cs.length + 1 - (q + 1))
              case measure => omega
              case rel => exact ⟨q + 1, by omega, rfl, rfl, by rw [HNO.out], K2⟩
            | false =>
              have HNO := Lib.hid (show cnt (opener s.cs) (q + 1) = cnt (opener s.cs) q + 1 by
                rw [HCN.out, HOQ.out]; rfl)
              have hcw : IntKind.i64.wrap (((cnt (opener s.cs) q : Nat) : Int) + 1) = ((cnt (opener s.cs) q : Nat) : Int) + 1 := IntWalk.i64_in _ (by have := HCQ.out; have := HL.out; omega)
              have hcb : ((cnt (opener s.cs) q : Nat) : Int) < 100000000 := by have := HCQ.out; have := HL.out; omega
              simp only [Bool.not_false]
              go_wp2_with fail
              go_roundg (s.cs.length + 1 - (q + 1))
              case measure => omega
              case rel => exact ⟨q + 1, by omega, rfl, rfl, by rw [HNO.out]; rfl, K2⟩
      · obtain rfl : q = s.cs.length := by omega
        have hn0 : ¬ (s.cs.length : Int) < (s.cs.length : Int) := by omega
        have X4 := Lib.hid (blk X3.out HK.out)
        have I4 := Lib.hid (I3.out.below HK.out)
        have K4 := kept_hid K3 HK.out
        clear hlt HK X3 I3 K3 HNX ew
        generalize hN : cnt (opener s.cs) s.cs.length = N at HCQ
        replace hN := Lib.hid hN
        have Q1 := Lib.hid fun W (hb : Below wr.heap.size wr W) => fnext_any s ad k x W (I4.out.below hb) HSD.out HZ.out HLT.out HXL.out
        by_cases hN0 : N = 0
        · subst hN0
          have hno := cnt_zero hN.out
          have Q2 := Lib.hid fun W (hb : Below wr.heap.size wr W) => fprev_any s ad k x W (I4.out.below hb) HSD.out HZ.out HLT.out HXL.out
          rw [show next s.cs x = -1 by
            rcases next_cases (cs := s.cs) HXL.out with ⟨h1, _⟩ | ⟨_, o, _, _, _, hol, hop, _⟩
            · exact h1
            · rw [hno o hol] at hop; cases hop] at Q1
          rw [show prev s.cs x = -1 by
            rcases prev_cases (cs := s.cs) HXL.out with ⟨h1, _⟩ | ⟨_, o, _, _, _, hol, hop, _⟩
            · exact h1
            · rw [hno o hol] at hop; cases hop] at Q2
          clear hno hN
          go_wp2_with fail
          with_reducible refine (Q1.out _ (Below.refl _ _)).mono ?_
          rintro e w5 ⟨rfl, hb⟩
          clear c0 c1 c2 c3 c4 c5
          have K5 := Lib.hid hb
          obtain ⟨c0, c1, c2, c3, c4, c5⟩ := cells6 (blk X4.out hb)
          clear hb
          go_wp2_with fail
          with_reducible refine (Q2.out _ K5.out).mono ?_
          rintro e w6 ⟨rfl, hb⟩
          have KF := kept_hid K4 (kept_trans K5.out hb)
          clear hb
          go_wp2_with fail
          go_ret
          exact ⟨rfl, KF.out⟩
        · have hNb : ((N : Int) == 0) = false := by simp; omega
          obtain ⟨i0, hi0, hopi⟩ := cnt_pos (q := opener s.cs) (z := s.cs.length) (by rw [hN.out]; omega)
          obtain ⟨o, hol, hop, hnx⟩ : ∃ o, o < s.cs.length ∧ opener s.cs o = true ∧ next s.cs x = ((on s.cs.length (o : Int) 1 : Nat) : Int) := by
            rcases next_cases (cs := s.cs) HXL.out with ⟨_, hno⟩ | ⟨_, o, _, _, _, hol, hop, _, hn⟩
            · rw [hno i0 hi0] at hopi; cases hopi
            · exact ⟨o, hol, hop, hn⟩
          rw [hnx] at Q1
          have HOL := Lib.hid hol
          have HOP := Lib.hid hop
          have HNP := Lib.hid (show 0 < N by omega)
          clear hi0 hopi hol hop hnx hN0
          go_wp2_with (at_make; refine wpList_mark ?_)
          clear c0 c1 c2 c3 c4 c5
          refine Lib.hid ?_
          obtain ⟨i1, hi, hz0, hz1, hz2⟩ := info_parts infoB
          refine wpList_make_full _ rfl _ _ 42 rfl wr.heap.size 4 i1 _ 1 Try.underlying42 hi hz0 hz1 .i64 .i64 _ _ s.cs.length rfl rfl rfl rfl ?_ ?_ ?_ ?_
          · rw [hz2]; have := HL.out; omega
          · have := HL.out; unfold maxLen; omega
          · exact Nat.le_refl _
          intro w5 hown hgr
          rw [made_bools] at hown
          have K5 := Lib.hid (show Below wr.heap.size wr w5 from belowg hgr)
          have S5 := Lib.hid (show OwnBools w5 wr.heap.size (.slice (some ⟨wr.heap.size, 0, none⟩) s.cs.length s.cs.length) (List.replicate s.cs.length false) from by
            unfold OwnBools; rw [List.length_replicate]; exact hown)
          clear hown hgr hi hz0 hz1 hz2
          obtain ⟨c0, c1, c2, c3, c4, c5⟩ := cells6 (blk X4.out K5.out)
          go_wp2_with fail
          with_reducible refine (Q1.out _ K5.out).mono ?_
          rintro e w6 ⟨rfl, hb⟩
          have K6 := kept_hid K5 hb
          have S6 := Lib.hid (OwnBools.below S5.out hb)
          have ST := Lib.hid (stand_first (N := N) HOL.out HOP.out HNP.out (bs := List.replicate s.cs.length false) (fun c => by
            rw [List.getD_eq_getElem?_getD, List.getElem?_replicate]; split <;> rfl))
          clear hb K5 S5 Q1 c0 c1 c2 c3 c4 c5
          generalize hfr : on s.cs.length (o : Int) 1 = fr at ST
          replace hfr := Lib.hid hfr
          go_wp2_with fail
          obtain ⟨wo, hwo⟩ : ∃ wo : World, wo = wr := ⟨_, rfl⟩
          subst hwo
          go_loopg [9, 11] (N + 1) (fun m v i wr => ∃ q : Nat, q ≤ N ∧ m = N + 1 - q ∧ i = .int .i64 q ∧ (∃ at_ : Nat, v = .int .i64 (at_ : Int) ∧ Hid (Below wo.heap.size wo wr) ∧ ∃ bs : List Bool, bs.length = s.cs.length ∧ Hid (OwnBools wr wo.heap.size (.slice (some ⟨wo.heap.size, 0, none⟩) s.cs.length s.cs.length) bs) ∧ Hid (Stand s.cs o N q at_ bs)))
          case atStart => exact ⟨0, Nat.zero_le _, rfl, rfl, fr, rfl, K6, _, List.length_replicate .., S6, ST⟩
          case round =>
            obtain ⟨q, hq, rfl, rfl, at_, rfl, HK2, bs, hbs, HS, HT⟩ := hrel
            have ew : IntKind.i64.wrap ((q : Int) + 1) = (q : Int) + 1 := by
              have := HL.out; have := HCQ.out
              rw [IntWalk.i64_in] <;> omega
            have hat0 : decide ((at_ : Int) < 0) = false := by simp
            by_cases hlt : q < N
            · obtain ⟨hal, hnew⟩ := stand_new HOL.out HT.out hlt
              obtain ⟨at2, hn2, hst⟩ := stand_step HOL.out HOP.out hN.out hbs HT.out hlt
              have HST := Lib.hid hst
              have HLB := Lib.hid (show (bs.set at_ true).length = s.cs.length by rw [List.length_set]; exact hbs)
              obtain ⟨db, fb⟩ := OwnBools.cell HS.out (i := at_) (by omega)
              rw [hnew] at db
              have SS := OwnBools.set HS.out at_ true
              have S2 := Lib.hid SS.1
              have K2 := Lib.hid (HK2.out.grown SS.2 HK2.out.size (by intro k hk; injection hk with hk; omega))
              have HQN := Lib.hid fun W (hb : Below wo.heap.size wo W) => fnext_any s ad k at_ W (I4.out.below hb) HSD.out HZ.out HLT.out hal
              rw [hn2] at HQN
              have hx0 : (0 : Int) ≤ (at_ : Int) := by omega
              have hx1 : (at_ : Int) < (s.cs.length : Int) := by omega
              clear SS HS HK2 HT hst hn2 hnew hbs hal
              generalize bs.set at_ true = bs2 at *
              go_upto_region 21 with (fail)
              clear db fb
              generalize wr.setCell _ _ = wt at *
              obtain ⟨c0, c1, c2, c3, c4, c5⟩ := cells6 (blk X4.out K2.out)
              go_wp2_with fail
              with_reducible refine (HQN.out _ K2.out).mono ?_
              rintro e w7 ⟨rfl, hb⟩
              have K3' := kept_hid K2 hb
              have S3 := Lib.hid (OwnBools.below S2.out hb)
              clear hb K2 S2 HQN c0 c1 c2 c3 c4 c5
              go_wp2_with fail
              go_roundg (N + 1 - (q + 1))
              case measure => omega
              case rel => exact ⟨q + 1, by omega, rfl, rfl, at2, rfl, K3', _, HLB.out, S3, HST⟩
            · obtain rfl : q = N := by omega
              have hn0 : ¬ (q : Int) < (q : Int) := by omega
              have hlast := stand_last HT.out
              rw [hfr.out] at hlast
              subst hlast
              have heq : ((at_ : Int) == (at_ : Int)) = true := by simp
              have KF := kept_hid K4 HK2.out
              clear hlt HS HT HK2
              go_wp2_with fail
              go_ret
              exact ⟨rfl, KF.out⟩
end Fld
end Go.Proofs.Ytoacookbfpcncaa
