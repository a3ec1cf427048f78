/- Right of package grid. -/
import Derived.Test.YtilabepmmebkcaaDoorGrdLeaf
import Derived.Test.YtilabepmmebkcaaDoorGrdBox
import Derived.Deep.LoopGhost
import Derived.Deep.RegionHeld3
import Derived.Deep.RegionWith
namespace Go.Proofs.YtilabepmmebkcaaDoor
open Go.RowKit Sha Six Cut Err Att
set_option linter.unusedVariables false
namespace Grd
/-- Cells whose characters are bytes. -/
def Sound (cs : List C) : Prop := ∀ o ∈ cs, o.c < 256
theorem sound_at {cs : List C} (h : Sound cs) (i : Nat) : (cs.getD i noC).c < 256 := by
  rcases Nat.lt_or_ge i cs.length with hi | hi
  · rw [List.getD_eq_getElem?_getD, List.getElem?_eq_getElem hi]; exact h _ (List.getElem_mem hi)
  · rw [List.getD_eq_getElem?_getD, List.getElem?_eq_none hi]; simp [noC]
theorem all_at {cs : List C} (h : ∀ i, i < cs.length → cright (cs.getD i noC) = true) : cs.all cright = true := by
  rw [List.all_eq_true]
  intro o ho
  obtain ⟨i, hi, rfl⟩ := List.getElem_of_mem ho
  have := h i hi
  rwa [List.getD_eq_getElem?_getD, List.getElem?_eq_getElem hi] at this
theorem not_all {cs : List C} {i : Nat} (hi : i < cs.length) (h : cright (cs.getD i noC) = false) : cs.all cright = false := by
  cases hA : cs.all cright with
  | false => rfl
  | true =>
    rw [List.all_eq_true] at hA
    rw [List.getD_eq_getElem?_getD, List.getElem?_eq_getElem hi] at h
    have := hA _ (List.getElem_mem hi)
    rw [show (some cs[i]).getD noC = cs[i] from rfl] at h
    rw [h] at this; cases this
set_option maxRecDepth 100000 in
set_option maxHeartbeats 8000000 in
/-- Behind the first test: the cells. -/
theorem right_any (s : S) (ad : Option Addr) (k : Nat) (w : World) (h : CelsIn w (.slice ad s.cs.length k) s.cs) (h8 : Sound s.cs) (hl : s.cs.length < 1000000000) (hq : sized s.rows s.cols = true → (s.cs.length : Int) = s.rows * s.cols) :
    Calls Tryd.prog 18 #[.agg #[.int .i64 s.rows, .int .i64 s.cols, .slice ad s.cs.length k, .int .i64 s.cur, .bool s.lk, .bool s.ins]] w fun e w' => e = .returned (.bool (sright s)) ∧ Below w.heap.size w w' := by
  obtain ⟨r, c, cs, cur, lk, ins⟩ := s
  simp only at h h8 hl hq ⊢
  have HF := Lib.hid fun W => fits_any r c W
  have HS := Lib.hid fun W => size_any r c ad cs.length k cur lk ins W
  have HH := Lib.hid fun W => has_any r c ad cs.length k cur lk ins cur W
  have HI := Lib.hid h
  have H8 := Lib.hid h8
  have HL := Lib.hid hl
  have hA := heap_alloc_new w (.cells #[.int .i64 r, .int .i64 c, .slice ad cs.length k, .int .i64 cur, .bool lk, .bool ins] 24)
  have HB := Lib.hid (al_any w (.cells #[.int .i64 r, .int .i64 c, .slice ad cs.length k, .int .i64 cur, .bool lk, .bool ins] 24))
  have HA := Lib.hid hA
  clear h h8 hl hA
  cases hz : sized r c with
  | false =>
    have HE := Lib.hid (show sright ⟨r, c, cs, cur, lk, ins⟩ = false by simp [sright, hz])
    generalize sright _ = res at HE ⊢
    rw [hz] at HF
    go_enter Tryd.func18, Tryd.ntmps18
    go_wp2_with fail
    go_quiet ((go_at_call 14; with_reducible exact quiet_same (HF.out _)))
    go_wp2_with fail
    go_ret
    exact ⟨by rw [HE.out]; rfl, kept_trans (al_any w _) (below_drewN _ _ _)⟩
  | true =>
    rw [hz] at HF
    obtain ⟨z1, z2, z3, z4, z5⟩ := sized_le hz
    have hw : wrap64 (r * c) = r * c := by
      have : 0 ≤ r * c := Int.mul_nonneg (by omega) (by omega)
      unfold wrap64; omega
    have hw2 : IntKind.i64.wrap (r * c) = r * c := by
      have : 0 ≤ r * c := Int.mul_nonneg (by omega) (by omega)
      exact IntWalk.i64_in _ (by omega)
    clear z1 z2 z3 z4 z5
    replace hq := hq hz
    by_cases hcur : 0 ≤ cur ∧ cur < (cs.length : Int)
    · have HE := Lib.hid (show sright ⟨r, c, cs, cur, lk, ins⟩ = cs.all cright by simp [sright, hz, hq, hcur.1]; intro; have := hcur.2; omega)
      have hqb : ((cs.length : Int) != r * c) = false := by simp [hq]
      rw [show (decide (0 ≤ cur) && decide (cur < (cs.length : Int))) = true by simp [hcur.1, hcur.2]] at HH
      replace HH := Lib.hid HH.out
      clear hq hcur
      generalize sright _ = res at HE ⊢
      go_enter Tryd.func18, Tryd.ntmps18
      go_wp2_with fail
      generalize w.alloc _ = w1 at *
      first
        | go_region_held3 (fun W' => Below w1.heap.size w1 W' ∧ W'.cell? ⟨w.heap.size, 0, none⟩ = some (.int .i64 r) ∧ W'.cell? ⟨w.heap.size, 1, none⟩ = some (.int .i64 c) ∧ W'.cell? ⟨w.heap.size, 2, none⟩ = some (.slice ad cs.length k) ∧ W'.cell? ⟨w.heap.size, 3, none⟩ = some (.int .i64 cur) ∧ W'.cell? ⟨w.heap.size, 4, none⟩ = some (.bool lk) ∧ W'.cell? ⟨w.heap.size, 5, none⟩ = some (.bool ins))
            (first | with_reducible exact below6 HA.out _ (Below.refl _ _).drew | with_reducible exact below6 HA.out _ (Below.refl _ _) | with_reducible exact below6 HA.out _ (And.left (by assumption)) | with_reducible exact below6 HA.out _ (kept_trans (And.left (by assumption)) hb))
            (first
              | (go_at_call 14; with_reducible refine (HF.out _).mono ?_; rintro e wa ⟨rfl, rfl⟩)
              | (go_at_call 15; with_reducible refine (HS.out _).mono ?_; rintro e wb ⟨rfl, hb⟩)
              | (go_at_call 23; with_reducible refine (HH.out _).mono ?_; rintro e wc ⟨rfl, hb⟩))
        | fail "no"
      have hS := And.left (by assumption : Below w1.heap.size w1 wc ∧ _)
      obtain ⟨c0, c1, c2, c3, c4, c5⟩ := cells6 (blk HA.out hS)
      have HK := kept_hid HB hS
      clear hS HF HS HH hb hw hw2 hqb
      go_wp2_with fail
      clear c0 c1 c2 c3 c4 c5
      replace HI := Lib.hid (HI.out.below HK.out)
      go_loopg [31] (cs.length + 1) (fun m i wr => ∃ q : Nat, q ≤ cs.length ∧ m = cs.length + 1 - q ∧ i = .int .i64 q ∧ Hid (Below wc.heap.size wc wr) ∧ Hid (∀ j, j < q → cright (cs.getD j noC) = true))
      case atStart => exact ⟨0, Nat.zero_le _, rfl, rfl, Lib.hid (Below.refl _ _), Lib.hid nofun⟩
      case round =>
        obtain ⟨q, hq, rfl, rfl, HR, HC⟩ := hrel
        have ew : IntKind.i64.wrap ((q : Int) + 1) = (q : Int) + 1 := by
          have := HL.out
          rw [IntWalk.i64_in] <;> omega
        by_cases hlt : q < cs.length
        · obtain ⟨xf, xp, xn, xs, xm, xc, ex⟩ := c_eta (cs.getD q noC)
          obtain ⟨b1, o1, rfl, g0, g1, g2, g3, g4, g5⟩ := (HI.out.below HR.out).cells hlt ex
          have lb1 := cell_lt g0
          have hi0 : (0 : Int) ≤ (q : Int) := by omega
          have hi1 : (q : Int) < (cs.length : Int) := by omega
          have h8q := sound_at H8.out q
          rw [ex] at h8q
          have HCC := Lib.hid fun W => checkCell_any xf xp xn xs xm xc W h8q
          clear h8q
          go_wp2_with fail
          have HW := kept_hid (kept_alloc HR (.cells #[.bool xf, .bool xp, .bool xn, .int .i64 xs, .bool xm, .int .u8 (xc : Int)] 36)) (Below.refl _ _)
          clear g0 g1 g2 g3 g4 g5 lb1
          cases hcc : cright ⟨xf, xp, xn, xs, xm, xc⟩ with
          | true =>
            rw [cellv_yes hcc] at HCC
            with_reducible refine (HCC.out _).mono ?_
            rintro e w2 ⟨rfl, hb⟩
            have HW2 := kept_hid HW hb
            clear hb HCC HW
            go_wp2_with fail
            go_roundg (cs.length + 1 - (q + 1))
            case measure => omega
            case rel =>
              refine ⟨q + 1, by omega, rfl, rfl, HW2, Lib.hid fun j hj => ?_⟩
              by_cases hjk : j = q
              · subst hjk; rw [ex]; exact hcc
              · exact HC.out j (by omega)
          | false =>
            rw [cellv_no hcc] at HCC
            have HN := Lib.hid (show cs.all cright = false from not_all hlt (by rw [ex]; exact hcc))
            with_reducible refine (HCC.out _).mono ?_
            rintro e w2 ⟨rfl, hb⟩
            have HW2 := kept_hid HW hb
            clear hb HCC HW
            go_wp2_with fail
            go_ret
            exact ⟨by rw [HE.out, HN.out]; rfl, kept_trans HK.out HW2.out⟩
        · obtain rfl : q = cs.length := by omega
          have HT := Lib.hid (show cs.all cright = true from all_at HC.out)
          clear hlt
          have hn0 : ¬ (cs.length : Int) < (cs.length : Int) := by omega
          go_wp2_with fail
          go_ret
          exact ⟨by rw [HE.out, HT.out]; rfl, kept_trans HK.out HR.out⟩
    · have hd : (decide (0 ≤ cur) && decide (cur < (cs.length : Int))) = false := by
        rw [Bool.and_eq_false_iff, decide_eq_false_iff_not, decide_eq_false_iff_not]; omega
      have HE := Lib.hid (show sright ⟨r, c, cs, cur, lk, ins⟩ = false by
        unfold sright; rw [show ∀ x y z : Bool, (x && (y && z)) = ((x && y) && z) from by decide]; simp only; rw [hz]; simp only [Bool.true_and]; rw [show ∀ x y z v : Bool, (x && (y && (z && v))) = (x && ((y && z) && v)) from by decide, hd]; simp)
      have hqb : ((cs.length : Int) != r * c) = false := by simp [hq]
      rw [hd] at HH
      replace HH := Lib.hid HH.out
      clear hq hcur hd
      generalize sright _ = res at HE ⊢
      go_enter Tryd.func18, Tryd.ntmps18
      go_wp2_with fail
      generalize w.alloc _ = w1 at *
      first
        | go_region_held3 (fun W' => Below w1.heap.size w1 W' ∧ W'.cell? ⟨w.heap.size, 0, none⟩ = some (.int .i64 r) ∧ W'.cell? ⟨w.heap.size, 1, none⟩ = some (.int .i64 c) ∧ W'.cell? ⟨w.heap.size, 2, none⟩ = some (.slice ad cs.length k) ∧ W'.cell? ⟨w.heap.size, 3, none⟩ = some (.int .i64 cur) ∧ W'.cell? ⟨w.heap.size, 4, none⟩ = some (.bool lk) ∧ W'.cell? ⟨w.heap.size, 5, none⟩ = some (.bool ins))
            (first | with_reducible exact below6 HA.out _ (Below.refl _ _).drew | with_reducible exact below6 HA.out _ (Below.refl _ _) | with_reducible exact below6 HA.out _ (And.left (by assumption)) | with_reducible exact below6 HA.out _ (kept_trans (And.left (by assumption)) hb))
            (first
              | (go_at_call 14; with_reducible refine (HF.out _).mono ?_; rintro e wa ⟨rfl, rfl⟩)
              | (go_at_call 15; with_reducible refine (HS.out _).mono ?_; rintro e wb ⟨rfl, hb⟩)
              | (go_at_call 23; with_reducible refine (HH.out _).mono ?_; rintro e wc ⟨rfl, hb⟩))
        | fail "no"
      have hS := And.left (by assumption : Below w1.heap.size w1 wc ∧ _)
      have HK := kept_hid HB hS
      clear hS HF HS HH hb hw hw2 hqb
      go_wp2_with fail
      go_ret
      exact ⟨by rw [HE.out]; rfl, HK.out⟩
end Grd
end Go.Proofs.YtilabepmmebkcaaDoor
