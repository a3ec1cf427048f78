/- The law AttrPuts returns true. -/
import Derived.Test.YteckncagccfioaaDoorAttrAwake
import Derived.Test.YteckncagccfioaaDoorAttrRef
import Derived.Test.YteckncagccfioaaDoorCode
import Derived.Test.YteckncagccfioaaDoorKept
import Derived.Deep.RegionHeld3
namespace Go.Proofs.YteckncagccfioaaDoor
open Go.RowKit Six Err
namespace Att
set_option maxHeartbeats 4000000 in
theorem puts_in (p n m : Bool) (s : Nat) (a u r : Bool) (w : World) (hs : s < 4) (hg : Handle w) :
    Calls Tryd.prog 3 #[.agg #[.bool p, .bool n, .int .i64 (s : Int), .bool m], .agg #[.bool a, .bool u, .bool r]] w fun e w' => e = .returned (.bool true) ∧ Below w.heap.size w w' := by
  have HP := Lib.hid fun W => put_ok p n m s W hs
  have HR := Lib.hid fun W => rput5 p n m (s : Int) W (by omega) (by omega)
  rw [Int.toNat_natCast] at HR
  have HW := Lib.hid fun W => putWcc_any a u r W
  have HV := Lib.hid fun W => rputWcc a u r W
  generalize put (num p n m s) = x at *
  generalize put (wnum a u r) = y at *
  go_enter Tryd.func3, Tryd.ntmps3
  go_wp2_with fail
  with_reducible refine (HP.out _).mono ?_
  rintro e w1 ⟨rfl, hb1⟩
  have hA : Below w.heap.size w ((w.alloc (.cells #[.bool p, .bool n, .int .i64 (s : Int), .bool m] 23)).alloc (.cells #[.bool a, .bool u, .bool r] 25)) := ((Below.refl _ _).alloc (Nat.le_refl _) _).alloc (by simp) _
  have H1 := Lib.hid (hA.trans (hb1.mono (by simp; omega)))
  have g0 : w1.heap[w.heap.size]? = some (.cells #[.bool p, .bool n, .int .i64 (s : Int), .bool m] 23 (0, 0)) := (hb1.block _ (by simp; omega)).trans ((Below.heap_alloc _ _ _ (by simp)).trans (heap_alloc_new w _))
  have g1 : w1.heap[w.heap.size + 1]? = some (.cells #[.bool a, .bool u, .bool r] 25 (0, 0)) := by
    have := heap_alloc_new (w.alloc (.cells #[.bool p, .bool n, .int .i64 (s : Int), .bool m] 23)) (.cells #[.bool a, .bool u, .bool r] 25)
    simp only [World.size_alloc] at this
    exact (hb1.block _ (by simp)).trans this
  have G0 := Lib.hid g0
  have G1 := Lib.hid g1
  have hg1 : Handle w1 := hand_of hg H1.out
  clear hA hb1 g0 g1 hg
  go_wp2_with fail
  go_region_held3 (fun w' => Below w1.heap.size w1 w' ∧ w'.cell? ⟨w.heap.size + 1, 0, none⟩ = some (.bool a) ∧ w'.cell? ⟨w.heap.size + 1, 1, none⟩ = some (.bool u) ∧ w'.cell? ⟨w.heap.size + 1, 2, none⟩ = some (.bool r))
    (first | exact held3 G1.out (Below.refl _ _).drew | exact held3 G1.out (Below.refl _ _) | exact held3 G1.out (kept_trans (And.left (by assumption)) hb))
    (first
      | (go_at_call 6; refine (awake_any _).mono ?_; rintro e wa ⟨rfl, hb⟩)
      | (go_at_call 7; refine (HW.out _).mono ?_; rintro e wb ⟨rfl, hb⟩)
      | (go_at_call 8; refine (HV.out _).mono ?_; rintro e wc ⟨rfl, hb⟩))
  have hS := And.left (by assumption : Below w1.heap.size w1 _ ∧ _)
  obtain ⟨_, c0, c1, c2, c3⟩ := held4 G0.out hS
  have H2 := kept_hid H1 hS
  go_wp2_with fail
  with_reducible refine (HR.out _).mono ?_
  rintro e w5 ⟨rfl, hb5⟩
  have H5 := kept_hid H2 hb5
  clear hb5 c0 c1 c2 c3 hS
  go_wp2_with fail
  go_ret
  exact ⟨rfl, H5.out⟩
set_option maxHeartbeats 4000000 in
theorem puts_out (p n m : Bool) (s : Int) (a u r : Bool) (w : World) (hs : s < 0 ∨ 4 ≤ s) (hg : Handle w) :
    Calls Tryd.prog 3 #[.agg #[.bool p, .bool n, .int .i64 s, .bool m], .agg #[.bool a, .bool u, .bool r]] w fun e w' => e = .returned (.bool true) ∧ Below w.heap.size w w' := by
  have HP := Lib.hid fun W => put_bad p n m s W hs
  have HW := Lib.hid fun W => putWcc_any a u r W
  have HV := Lib.hid fun W => rputWcc a u r W
  generalize put (wnum a u r) = y at *
  rcases hs with h | h
  · go_enter Tryd.func3, Tryd.ntmps3
    go_wp2_with fail
    with_reducible refine (HP.out _).mono ?_
    rintro e w1 ⟨rfl, hb1⟩
    have hA : Below w.heap.size w ((w.alloc (.cells #[.bool p, .bool n, .int .i64 s, .bool m] 23)).alloc (.cells #[.bool a, .bool u, .bool r] 25)) := ((Below.refl _ _).alloc (Nat.le_refl _) _).alloc (by simp) _
    have H1 := Lib.hid (hA.trans (hb1.mono (by simp; omega)))
    have g0 : w1.heap[w.heap.size]? = some (.cells #[.bool p, .bool n, .int .i64 s, .bool m] 23 (0, 0)) := (hb1.block _ (by simp; omega)).trans ((Below.heap_alloc _ _ _ (by simp)).trans (heap_alloc_new w _))
    have g1 : w1.heap[w.heap.size + 1]? = some (.cells #[.bool a, .bool u, .bool r] 25 (0, 0)) := by
      have := heap_alloc_new (w.alloc (.cells #[.bool p, .bool n, .int .i64 s, .bool m] 23)) (.cells #[.bool a, .bool u, .bool r] 25)
      simp only [World.size_alloc] at this
      exact (hb1.block _ (by simp)).trans this
    have G0 := Lib.hid g0
    have G1 := Lib.hid g1
    have hg1 : Handle w1 := hand_of hg H1.out
    clear hA hb1 g0 g1 hg
    go_wp2_with fail
    go_region_held3 (fun w' => Below w1.heap.size w1 w' ∧ w'.cell? ⟨w.heap.size + 1, 0, none⟩ = some (.bool a) ∧ w'.cell? ⟨w.heap.size + 1, 1, none⟩ = some (.bool u) ∧ w'.cell? ⟨w.heap.size + 1, 2, none⟩ = some (.bool r))
      (first | exact held3 G1.out (Below.refl _ _).drew | exact held3 G1.out (Below.refl _ _) | exact held3 G1.out (kept_trans (And.left (by assumption)) hb))
      (first
        | (go_at_call 6; refine (awake_any _).mono ?_; rintro e wa ⟨rfl, hb⟩)
        | (go_at_call 7; refine (HW.out _).mono ?_; rintro e wb ⟨rfl, hb⟩)
        | (go_at_call 8; refine (HV.out _).mono ?_; rintro e wc ⟨rfl, hb⟩))
    have hS := And.left (by assumption : Below w1.heap.size w1 _ ∧ _)
    obtain ⟨_, c0, c1, c2, c3⟩ := held4 G0.out hS
    have H2 := kept_hid H1 hS
    have hg2 := hand_of hg1 hS
    go_wp2_with fail
    with_reducible refine (code_errno 1 _ hg2).mono ?_
    rintro e w5 ⟨rfl, hb5⟩
    have H5 := kept_hid H2 hb5
    clear hb5 c0 c1 c2 c3 hS
    go_wp2_with fail
    go_ret
    exact ⟨rfl, H5.out⟩
  · have h0 : ¬ s < 0 := by omega
    go_enter Tryd.func3, Tryd.ntmps3
    go_wp2_with fail
    with_reducible refine (HP.out _).mono ?_
    rintro e w1 ⟨rfl, hb1⟩
    have hA : Below w.heap.size w ((w.alloc (.cells #[.bool p, .bool n, .int .i64 s, .bool m] 23)).alloc (.cells #[.bool a, .bool u, .bool r] 25)) := ((Below.refl _ _).alloc (Nat.le_refl _) _).alloc (by simp) _
    have H1 := Lib.hid (hA.trans (hb1.mono (by simp; omega)))
    have g0 : w1.heap[w.heap.size]? = some (.cells #[.bool p, .bool n, .int .i64 s, .bool m] 23 (0, 0)) := (hb1.block _ (by simp; omega)).trans ((Below.heap_alloc _ _ _ (by simp)).trans (heap_alloc_new w _))
    have g1 : w1.heap[w.heap.size + 1]? = some (.cells #[.bool a, .bool u, .bool r] 25 (0, 0)) := by
      have := heap_alloc_new (w.alloc (.cells #[.bool p, .bool n, .int .i64 s, .bool m] 23)) (.cells #[.bool a, .bool u, .bool r] 25)
      simp only [World.size_alloc] at this
      exact (hb1.block _ (by simp)).trans this
    have G0 := Lib.hid g0
    have G1 := Lib.hid g1
    have hg1 : Handle w1 := hand_of hg H1.out
    clear hA hb1 g0 g1 hg
    go_wp2_with fail
    go_region_held3 (fun w' => Below w1.heap.size w1 w' ∧ w'.cell? ⟨w.heap.size + 1, 0, none⟩ = some (.bool a) ∧ w'.cell? ⟨w.heap.size + 1, 1, none⟩ = some (.bool u) ∧ w'.cell? ⟨w.heap.size + 1, 2, none⟩ = some (.bool r))
      (first | exact held3 G1.out (Below.refl _ _).drew | exact held3 G1.out (Below.refl _ _) | exact held3 G1.out (kept_trans (And.left (by assumption)) hb))
      (first
        | (go_at_call 6; refine (awake_any _).mono ?_; rintro e wa ⟨rfl, hb⟩)
        | (go_at_call 7; refine (HW.out _).mono ?_; rintro e wb ⟨rfl, hb⟩)
        | (go_at_call 8; refine (HV.out _).mono ?_; rintro e wc ⟨rfl, hb⟩))
    have hS := And.left (by assumption : Below w1.heap.size w1 _ ∧ _)
    obtain ⟨_, c0, c1, c2, c3⟩ := held4 G0.out hS
    have H2 := kept_hid H1 hS
    have hg2 := hand_of hg1 hS
    go_wp2_with fail
    with_reducible refine (code_errno 1 _ hg2).mono ?_
    rintro e w5 ⟨rfl, hb5⟩
    have H5 := kept_hid H2 hb5
    clear hb5 c0 c1 c2 c3 hS
    go_wp2_with fail
    go_ret
    exact ⟨rfl, H5.out⟩
/-- AttrPuts returns true. -/
theorem puts_any (p n : Bool) (s : Int) (m a u r : Bool) (w : World) (hg : Handle w) :
    Calls Tryd.prog 3 #[.agg #[.bool p, .bool n, .int .i64 s, .bool m], .agg #[.bool a, .bool u, .bool r]] w fun e w' => e = .returned (.bool true) ∧ Below w.heap.size w w' := by
  rcases Int.lt_or_le s 0 with h | h
  · exact puts_out p n m s a u r w (.inl h) hg
  · rcases Int.lt_or_le s 4 with h2 | h2
    · obtain ⟨k, rfl⟩ := Int.eq_ofNat_of_zero_le h
      exact puts_in p n m k a u r w (by omega) hg
    · exact puts_out p n m s a u r w (.inr h2) hg
end Att
end Go.Proofs.YteckncagccfioaaDoor
