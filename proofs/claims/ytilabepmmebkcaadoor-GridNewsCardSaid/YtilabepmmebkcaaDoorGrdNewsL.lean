/- The law GridNews. -/
import Derived.Test.YtilabepmmebkcaaDoorGrdAwake
import Derived.Test.YtilabepmmebkcaaDoorGrdFew
import Derived.Test.YtilabepmmebkcaaDoorGrdRsame
import Derived.Test.YtilabepmmebkcaaDoorBunErr
namespace Go.Proofs.YtilabepmmebkcaaDoor
open Go.RowKit Sha Six Apd Cut Err Att
set_option linter.unusedVariables false
namespace Grd
set_option maxRecDepth 100000 in
set_option maxHeartbeats 8000000 in
theorem news_any (r c : Int) (w : World) (wr : (Lit.int .i64 r).wf = true) (wc : (Lit.int .i64 c).wf = true) (hg : Handle w) :
    Calls Tryd.prog 3 #[.int .i64 r, .int .i64 c] w fun e w' => e = .returned (.bool true) ∧ Below w.heap.size w w' := by
  have HAW := Lib.hid fun W => awake_any W
  have HZ := Lib.hid fun W => rsized_any r c W
  have HH := Lib.hid hg
  clear hg wr wc
  cases hz : sized r c with
  | false =>
    rw [hz] at HZ
    have HN := Lib.hid (new_no r c w hz)
    have HS := Lib.hid fun W => rsame_any 0 0 0 false false none 0 0 none 0 0 [] [] W ⟨none, 0, rfl, Nat.le_refl _, fun _ => ⟨rfl, rfl⟩, .inl rfl⟩ ⟨none, 0, rfl, Nat.le_refl _, fun _ => ⟨rfl, rfl⟩, .inl rfl⟩ (by decide)
    clear hz
    go_enter Tryd.func3, Tryd.ntmps3
    go_wp2_with fail
    with_reducible refine HN.out.mono ?_
    rintro e w1 ⟨rfl, hb⟩
    have HA := al_any w1 (.cells #[.int .i64 0, .int .i64 0, .slice none 0 0, .int .i64 0, .bool false, .bool false] 24)
    have HX := Lib.hid (heap_alloc_new w1 (.cells #[.int .i64 0, .int .i64 0, .slice none 0 0, .int .i64 0, .bool false, .bool false] 24))
    have K2 := Lib.hid (kept_trans hb HA)
    clear hb HA HN
    go_upto_region 2 with (fail)
    generalize w1.heap.size = L at *
    generalize w1.alloc _ = w2 at *
    go_wp2_with fail
    with_reducible refine (HAW.out _).mono ?_
    rintro e w3 ⟨rfl, hb⟩
    have K3 := kept_hid K2 hb
    have X3 := Lib.hid (blk HX.out hb)
    clear hb K2 HX
    go_wp2_with fail
    with_reducible refine (HZ.out _).mono ?_
    rintro e w4 ⟨rfl, rfl⟩
    have H4 := Lib.hid (hand_of HH.out K3.out)
    go_wp2_with fail
    with_reducible refine (code_errno 1 _ H4.out).mono ?_
    rintro e w5 ⟨rfl, hb⟩
    have K5 := kept_hid K3 hb
    obtain ⟨c0, c1, c2, c3, c4, c5⟩ := cells6 (blk X3.out hb)
    clear hb K3 H4
    go_wp2_with fail
    with_reducible refine (HS.out _).mono ?_
    rintro e w6 ⟨rfl, hb⟩
    have K6 := kept_hid K5 hb
    clear hb K5 c0 c1 c2 c3 c4 c5
    go_wp2_with fail
    go_ret
    exact ⟨rfl, K6.out⟩
  | true =>
    rw [hz] at HZ
    obtain ⟨z1, z2, z3, z4, z5⟩ := sized_le hz
    have hm : 0 ≤ r * c := Int.mul_nonneg (by omega) (by omega)
    obtain ⟨N, hN⟩ := Int.eq_ofNat_of_zero_le hm
    have hw : wrap64 (r * c) = (N : Int) := by
      unfold wrap64; omega
    have HNL := Lib.hid (show N ≤ 16383 by omega)
    have HN := Lib.hid (new_yes r c N w hz hN)
    have e0 : (r != r) = false := by simp
    have e1 : (c != c) = false := by simp
    have e2 : ((N : Int) != (N : Int)) = false := by simp
    clear hz z1 z2 z3 z4 z5 hm hN
    go_enter Tryd.func3, Tryd.ntmps3
    go_wp2_with fail
    with_reducible refine HN.out.mono ?_
    rintro e w1 ⟨g, rfl, ho, hb⟩
    have HA := al_any w1 (.cells #[.int .i64 r, .int .i64 c, .slice (some ⟨g, 0, none⟩) N N, .int .i64 0, .bool false, .bool false] 24)
    have HX := Lib.hid (heap_alloc_new w1 (.cells #[.int .i64 r, .int .i64 c, .slice (some ⟨g, 0, none⟩) N N, .int .i64 0, .bool false, .bool false] 24))
    have K2 := Lib.hid (kept_trans hb HA)
    have C2 := Lib.hid (ho.to.below HA)
    clear hb HA HN ho
    go_upto_region 2 with (fail)
    generalize w1.heap.size = L at *
    generalize w1.alloc _ = w2 at *
    go_wp2_with fail
    with_reducible refine (HAW.out _).mono ?_
    rintro e w3 ⟨rfl, hb⟩
    have K3 := kept_hid K2 hb
    have X3 := Lib.hid (blk HX.out hb)
    have C3 := Lib.hid (C2.out.below hb)
    clear hb K2 HX C2
    go_wp2_with fail
    with_reducible refine (HZ.out _).mono ?_
    rintro e w4 ⟨rfl, rfl⟩
    obtain ⟨c0, c1, c2, c3, c4, c5⟩ := cells6 X3.out
    go_wp2_with fail
    clear e0 e1 e2 hw
    go_loopg [7] (N + 1) (fun m i wz => ∃ q : Nat, q ≤ N ∧ m = N + 1 - q ∧ i = .int .i64 q ∧ wz = w3)
    case atStart => exact ⟨0, Nat.zero_le _, rfl, rfl, rfl⟩
    case round =>
      obtain ⟨q, hq, rfl, rfl, rfl⟩ := hrel
      have ew : IntKind.i64.wrap ((q : Int) + 1) = (q : Int) + 1 := by
        have := HNL.out
        rw [IntWalk.i64_in] <;> omega
      by_cases hlt : q < N
      · have ho : (List.replicate N noC).getD q noC = ⟨false, false, false, 0, false, 0⟩ := by
          rw [List.getD_eq_getElem?_getD, List.getElem?_replicate, if_pos hlt]; rfl
        obtain ⟨b1, o1, hbo, g0, g1, g2, g3, g4, g5⟩ := C3.out.cells (by rw [List.length_replicate]; exact hlt) ho
        injection hbo with hbo
        injection hbo with hb1 hb2
        subst hb1
        subst hb2
        rw [Nat.zero_add] at g0 g1 g2 g3 g4 g5
        rw [show ((0 : Nat) : Int) = 0 from rfl] at g5
        have hi0 : (0 : Int) ≤ (q : Int) := by omega
        have hi1 : (q : Int) < (N : Int) := by omega
        go_wp2_with fail
        go_roundg (N + 1 - (q + 1))
        case measure => omega
        case rel => exact ⟨q + 1, by omega, rfl, rfl, rfl⟩
      · obtain rfl : q = N := by omega
        have hn0 : ¬ (q : Int) < (q : Int) := by omega
        clear hlt
        go_wp2_with fail
        go_ret
        exact ⟨rfl, K3.out⟩
end Grd
end Go.Proofs.YtilabepmmebkcaaDoor
