/- New of package grid. -/
import Derived.Test.YtilabepmmebkcaaDoorGrdLeaf
import Derived.Test.YtilabepmmebkcaaDoorGrdBox
import Derived.Deep.Cut
namespace Go.Proofs.YtilabepmmebkcaaDoor
open Go.RowKit Sha Six Apd Cut Err Att
set_option linter.unusedVariables false
namespace Grd
set_option maxRecDepth 100000 in
set_option maxHeartbeats 4000000 in
theorem new_no (r c : Int) (w : World) (h : sized r c = false) :
    Calls Tryd.prog 5 #[.int .i64 r, .int .i64 c] w fun e w' => e = .returned (.tuple #[.agg #[.int .i64 0, .int .i64 0, .slice none 0 0, .int .i64 0, .bool false, .bool false], .iface 42 (.int .i64 1)]) ∧ Below w.heap.size w w' := by
  have HF := Lib.hid fun W => fits_any r c W
  rw [h] at HF
  clear h
  have HB := Lib.hid (al_any w (.cells #[.int .i64 0, .int .i64 0, .slice none 0 0, .int .i64 0, .bool false, .bool false] 24))
  have HX := Lib.hid (heap_alloc_new w (.cells #[.int .i64 0, .int .i64 0, .slice none 0 0, .int .i64 0, .bool false, .bool false] 24))
  go_enter Tryd.func5, Tryd.ntmps5
  go_upto_region 1 with (fail)
  generalize w.alloc _ = w1 at *
  go_wp2_with fail
  with_reducible refine (HF.out _).mono ?_
  rintro e w2 ⟨rfl, rfl⟩
  obtain ⟨c0, c1, c2, c3, c4, c5⟩ := cells6 HX.out
  obtain ⟨f0, f1, f2, f3, f4, f5⟩ := free6 HX.out
  have SF := Lib.hid (over6 w1 w.heap.size _ _ _ _ _ _ _ (.int .i64 0) (.int .i64 0) (.slice none 0 0) (.int .i64 0) (.bool false) (.bool false) HX.out)
  go_wp2_with fail
  clear c0 c1 c2 c3 c4 c5 f0 f1 f2 f3 f4 f5
  generalize (((((w1.setCell _ _).setCell _ _).setCell _ _).setCell _ _).setCell _ _).setCell _ _ = w4 at *
  exact bodyPost_ret (v := .tuple #[.agg #[.int .i64 0, .int .i64 0, .slice none 0 0, .int .i64 0, .bool false, .bool false], .iface 42 (.int .i64 1)]) (results_cell_row_tmp rfl _ _ _ w.heap.size _ rfl (run_loadVar_row _ w.heap.size 24 24 _ (0, 0) _ SF.out.1 Tryd.underlying24 rfl (by kernel_rfl)) (.iface 42 (.int .i64 1)) rfl) rfl ⟨rfl, below_grown HB.out SF.out.2 (Nat.le_refl _)⟩
set_option maxRecDepth 100000 in
set_option maxHeartbeats 4000000 in
theorem new_yes (r c : Int) (N : Nat) (w : World) (h : sized r c = true) (hN : r * c = (N : Int)) :
    Calls Tryd.prog 5 #[.int .i64 r, .int .i64 c] w fun e w' => ∃ g, e = .returned (.tuple #[.agg #[.int .i64 r, .int .i64 c, .slice (some ⟨g, 0, none⟩) N N, .int .i64 0, .bool false, .bool false], .nilIface]) ∧ OwnCels w' w.heap.size (.slice (some ⟨g, 0, none⟩) N N) (List.replicate N noC) ∧ Below w.heap.size w w' := by
  have HF := Lib.hid fun W => fits_any r c W
  rw [h] at HF
  obtain ⟨z1, z2, z3, z4, z5⟩ := sized_le h
  have hw : wrap64 (r * c) = r * c := by
    have : 0 ≤ r * c := Int.mul_nonneg (by omega) (by omega)
    unfold wrap64; omega
  rw [hN] at z3
  have HN := Lib.hid (show N ≤ 16383 by omega)
  have HNE := Lib.hid (hw.trans hN)
  clear h z1 z2 z3 z4 z5 hN
  have HB := Lib.hid (al_any w (.cells #[.int .i64 0, .int .i64 0, .slice none 0 0, .int .i64 0, .bool false, .bool false] 24))
  have HX := Lib.hid (heap_alloc_new w (.cells #[.int .i64 0, .int .i64 0, .slice none 0 0, .int .i64 0, .bool false, .bool false] 24))
  go_enter Tryd.func5, Tryd.ntmps5
  go_upto_region 1 with (fail)
  generalize w.alloc _ = w1 at *
  go_wp2_with fail
  with_reducible refine (HF.out _).mono ?_
  rintro e w2 ⟨rfl, rfl⟩
  go_wp2_with (at_make; refine wpList_mark ?_)
  refine Lib.hid ?_
  obtain ⟨i0, hi, hz0, hz1, hz2⟩ := info_parts infoC
  refine wpList_make_full _ rfl _ _ 22 rfl w.heap.size 36 i0 _ 6 Tryd.underlying22 hi hz0 hz1 .i64 .i64 _ _ N rfl rfl HNE.out HNE.out ?_ ?_ ?_ ?_
  · rw [hz2]; have := HN.out; omega
  · have := HN.out; unfold maxLen; omega
  · exact HB.out.size
  intro w4 hown hgr
  rw [made_cells] at hown
  have K4 := kept_hid HB (belowg hgr)
  have X4 := Lib.hid (blk HX.out (belowg hgr))
  have O4 := Lib.hid (show OwnCels w4 w.heap.size (.slice (some ⟨w1.heap.size, 0, none⟩) N N) (List.replicate N noC) from by
    unfold OwnCels; rw [List.length_replicate]; exact hown)
  have HG := Lib.hid (there_lt HX.out)
  generalize w1.heap.size = g at *
  clear hown hgr HX hi hz0 hz1 hz2 HB
  obtain ⟨c0, c1, c2, c3, c4, c5⟩ := cells6 X4.out
  obtain ⟨f0, f1, f2, f3, f4, f5⟩ := free6 X4.out
  have SF := Lib.hid (over6 w4 w.heap.size _ _ _ _ _ _ _ (.int .i64 r) (.int .i64 c) (.slice (some ⟨g, 0, none⟩) N N) (.int .i64 0) (.bool false) (.bool false) X4.out)
  go_wp2_with fail
  clear c0 c1 c2 c3 c4 c5 f0 f1 f2 f3 f4 f5
  generalize (((((w4.setCell _ _).setCell _ _).setCell _ _).setCell _ _).setCell _ _).setCell _ _ = w5 at *
  exact bodyPost_ret (v := .tuple #[.agg #[.int .i64 r, .int .i64 c, .slice (some ⟨g, 0, none⟩) N N, .int .i64 0, .bool false, .bool false], .nilIface]) (results_cell_row_tmp rfl _ _ _ w.heap.size _ rfl (run_loadVar_row _ w.heap.size 24 24 _ (0, 0) _ SF.out.1 Tryd.underlying24 rfl (by kernel_rfl)) .nilIface rfl) rfl ⟨g, rfl, O4.out.kept SF.out.2 (.inr (by simp [Value.ownBlock]; have := HG.out; omega)), below_grown K4.out SF.out.2 (Nat.le_refl _)⟩
end Grd
end Go.Proofs.YtilabepmmebkcaaDoor
