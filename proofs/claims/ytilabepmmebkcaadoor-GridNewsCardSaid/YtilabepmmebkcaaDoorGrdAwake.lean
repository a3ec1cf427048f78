/- awake of the laws of grid. -/
import Derived.Test.YtilabepmmebkcaaDoorGrdNew
import Derived.Test.YtilabepmmebkcaaDoorGrdRight
import Derived.Test.YtilabepmmebkcaaDoorGrdSpan
import Derived.Test.YtilabepmmebkcaaDoorGrdCopy
import Derived.Test.YtilabepmmebkcaaDoorGrdSame
import Derived.Deep.RegionHeld3
import Derived.Deep.Cut
namespace Go.Proofs.YtilabepmmebkcaaDoor
open Go.RowKit Sha Six Apd Cut Err Att
set_option linter.unusedVariables false
namespace Grd
theorem sound_zero (n : Nat) : Sound (List.replicate n noC) := by
  intro o ho
  obtain ⟨_, rfl⟩ := List.mem_replicate.1 ho
  decide
set_option maxRecDepth 100000 in
set_option maxHeartbeats 8000000 in
theorem awake_any (w : World) : Calls Tryd.prog 6 #[] w fun e w' => e = .returned (.bool true) ∧ Below w.heap.size w w' := by
  have HN := Lib.hid (new_yes 2 3 6 w (by decide) (by decide))
  go_enter Tryd.func6, Tryd.ntmps6
  go_wp2_with fail
  with_reducible refine HN.out.mono ?_
  rintro e w1 ⟨g, rfl, ho, hb⟩
  have HA := al_any w1 (.cells #[.int .i64 2, .int .i64 3, .slice (some ⟨g, 0, none⟩) 6 6, .int .i64 0, .bool false, .bool false] 24)
  have HX := Lib.hid (heap_alloc_new w1 (.cells #[.int .i64 2, .int .i64 3, .slice (some ⟨g, 0, none⟩) 6 6, .int .i64 0, .bool false, .bool false] 24))
  have K2 := Lib.hid (kept_trans hb HA)
  have O2 := Lib.hid (OwnCels.below ho HA)
  clear HA ho hb HN
  go_upto_region 2 with (fail)
  generalize w1.heap.size = L at *
  generalize w1.alloc _ = w2 at *
  have HC := Lib.hid (O2.out.to)
  have HS := Lib.hid fun W => size_any 2 3 (some ⟨g, 0, none⟩) 6 6 0 false false W
  have h1 : on 6 5 1 = 0 := by decide
  have h2 : on 6 0 (-1) = 5 := by decide
  have h3 : (span 6 4 1).length = 3 := by decide
  have h4 : sright ⟨2, 3, List.replicate 6 noC, 0, false, false⟩ = true := by kernel_rfl
  have HO1 := fun W => on_any 2 3 (some ⟨g, 0, none⟩) 6 6 0 false false 5 1 W (by decide) (by decide) (IntWalk.i64_in _ (by decide)) (IntWalk.i64_in _ (by decide))
  have HO2 := fun W => on_any 2 3 (some ⟨g, 0, none⟩) 6 6 0 false false 0 (-1) W (by decide) (by decide) (IntWalk.i64_in _ (by decide)) (IntWalk.i64_in _ (by decide))
  rw [h1] at HO1
  rw [h2] at HO2
  have HP := fun W => span_any 2 3 (some ⟨g, 0, none⟩) 6 6 0 false false 4 1 W (by decide) (by decide) (by decide)
  have HR := fun W hb => right_any ⟨2, 3, List.replicate 6 noC, 0, false, false⟩ (some ⟨g, 0, none⟩) 6 W (HC.out.below hb) (sound_zero 6) (by decide) (by decide)
  rw [h4] at HR
  have HY := fun W hb => copy_any ⟨2, 3, List.replicate 6 noC, 0, false, false⟩ (some ⟨g, 0, none⟩) 6 W (HC.out.below hb) (by decide)
  have HM := fun va vc W hb (h : CelsIn W (.slice va 6 vc) (List.replicate 6 noC)) => same_any 2 3 0 false false (some ⟨g, 0, none⟩) 6 6 va 6 vc _ _ W (HC.out.below hb) h (by decide)
  simp only [decide_true] at HM
  simp only [List.length_replicate, Copied, show ((0 : Nat) : Int) = 0 from rfl, show ((5 : Nat) : Int) = 5 from rfl, show ((4 : Nat) : Int) = 4 from rfl, show ((1 : Nat) : Int) = 1 from rfl] at HO1 HO2 HP HR HY
  replace HO1 := Lib.hid HO1
  replace HO2 := Lib.hid HO2
  replace HP := Lib.hid HP
  replace HR := Lib.hid HR
  replace HY := Lib.hid HY
  replace HM := Lib.hid HM
  replace h3 := Lib.hid h3
  clear h1 h2 h4
  first
    | go_region_held3 (fun W' => Below w2.heap.size w2 W' ∧ W'.cell? ⟨L, 0, none⟩ = some (.int .i64 2) ∧ W'.cell? ⟨L, 1, none⟩ = some (.int .i64 3) ∧ W'.cell? ⟨L, 2, none⟩ = some (.slice (some ⟨g, 0, none⟩) 6 6) ∧ W'.cell? ⟨L, 3, none⟩ = some (.int .i64 0) ∧ W'.cell? ⟨L, 4, none⟩ = some (.bool false) ∧ W'.cell? ⟨L, 5, none⟩ = some (.bool false))
        (first | with_reducible exact below6 HX.out _ (Below.refl _ _).drew | with_reducible exact below6 HX.out _ (Below.refl _ _) | with_reducible exact below6 HX.out _ (And.left (by assumption)) | with_reducible exact below6 HX.out _ (kept_trans (And.left (by assumption)) hb))
        (first
          | (go_at_call 15; with_reducible refine (HS.out _).mono ?_; rintro e wa ⟨rfl, hb⟩)
          | (go_at_call 16; with_reducible refine (HO1.out _).mono ?_; rintro e wb ⟨rfl, hb⟩)
          | (go_at_call 16; with_reducible refine (HO2.out _).mono ?_; rintro e wc ⟨rfl, hb⟩)
          | (go_at_call 17; with_reducible refine (HP.out _).mono ?_; rintro e wd ⟨v, rfl, hv, hb⟩; obtain ⟨va, vc, rfl⟩ := hv.form; rw [h3.out]; clear hv)
          | (go_at_call 18; with_reducible refine (HR.out _ (And.left (by assumption))).mono ?_; rintro e we ⟨rfl, hb⟩)
          | (go_at_call 20; with_reducible refine (HY.out _ (And.left (by assumption))).mono ?_; rintro e wf ⟨va, vc, rfl, hcp, hb⟩)
          | (go_at_call 19; with_reducible refine (HM.out _ _ _ (And.left (by assumption)) ?_).mono ?_; (first | exact hcp.to | exact hcp.to.below (Below.refl _ _).drew | exact hcp.to.below (Below.refl _ _).drew.drew); rintro e wg ⟨rfl, hb⟩))
    | fail "no"
  have hS := And.left (by assumption : Below w2.heap.size w2 wg ∧ _)
  have K3 := kept_hid K2 hS
  clear hS HX HC O2 HS HO1 HO2 HP HR HY HM
  go_wp2_with fail
  go_ret
  exact ⟨rfl, K3.out⟩
end Grd
end Go.Proofs.YtilabepmmebkcaaDoor
