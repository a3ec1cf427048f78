/- Size, On, has, fits of package grid. -/
import Derived.Test.YtilabepmmebkcaaDoorGrdMem
import Derived.Test.YtilabepmmebkcaaDoorBunLow
namespace Go.Proofs.YtilabepmmebkcaaDoor
open Go.RowKit Sha Six Cut Err Att
set_option linter.unusedVariables false
namespace Grd
set_option maxHeartbeats 1000000 in
theorem size_any (r c : Int) (ad : Option Addr) (n k : Nat) (cur : Int) (lk ins : Bool) (w : World) :
    Calls Tryd.prog 15 #[.agg #[.int .i64 r, .int .i64 c, .slice ad n k, .int .i64 cur, .bool lk, .bool ins]] w fun e w' => e = .returned (.int .i64 (n : Int)) ∧ Below w.heap.size w w' := by
  go_enter Tryd.func15, Tryd.ntmps15
  go_wp2
  go_ret
  exact ⟨rfl, al_any _ _⟩
set_option maxHeartbeats 1000000 in
theorem has_any (r c : Int) (ad : Option Addr) (n k : Nat) (cur : Int) (lk ins : Bool) (a : Int) (w : World) :
    Calls Tryd.prog 23 #[.agg #[.int .i64 r, .int .i64 c, .slice ad n k, .int .i64 cur, .bool lk, .bool ins], .int .i64 a] w fun e w' => e = .returned (.bool (decide (0 ≤ a) && decide (a < (n : Int)))) ∧ Below w.heap.size w w' := by
  by_cases h0 : 0 ≤ a
  · have HS := Lib.hid fun W => size_any r c ad n k cur lk ins W
    have HE := Lib.hid (show (decide (0 ≤ a) && decide (a < (n : Int))) = decide (a < (n : Int)) by simp [h0])
    generalize (decide (0 ≤ a) && decide (a < (n : Int))) = res at HE ⊢
    go_enter Tryd.func23, Tryd.ntmps23
    go_wp2_with fail
    refine (HS.out _).mono ?_
    rintro e w1 ⟨rfl, hb⟩
    have HB := Lib.hid (kept_trans (al_any w _) hb)
    clear hb
    go_wp2_with fail
    go_ret
    exact ⟨by rw [HE.out]; rfl, HB.out⟩
  · have HE := Lib.hid (show (decide (0 ≤ a) && decide (a < (n : Int))) = false by simp [h0])
    generalize hgen : (decide (0 ≤ a) && decide (a < (n : Int))) = res at HE ⊢
    clear hgen
    go_enter Tryd.func23, Tryd.ntmps23
    go_wp2_with fail
    go_ret
    exact ⟨by rw [HE.out]; rfl, al_any _ _⟩
set_option maxHeartbeats 1000000 in
theorem on_any (r c : Int) (ad : Option Addr) (n k : Nat) (cur : Int) (lk ins : Bool) (a m : Int) (w : World) (hn : 0 < n) (hn2 : n < 1000000000) (ha : IntKind.i64.wrap a = a) (hm : IntKind.i64.wrap m = m) :
    Calls Tryd.prog 16 #[.agg #[.int .i64 r, .int .i64 c, .slice ad n k, .int .i64 cur, .bool lk, .bool ins], .int .i64 a, .int .i64 m] w fun e w' => e = .returned (.int .i64 ((on n a m : Nat) : Int)) ∧ Below w.heap.size w w' := by
  have HS := Lib.hid fun W => size_any r c ad n k cur lk ins W
  have HG := Lib.hid (on_go hn a m)
  have HR := Lib.hid (on_room hn hn2 a m)
  have hz : ((n : Int) == 0) = false := by simp; omega
  have hz0 : ¬ ((n : Int) = 0) := by omega
  generalize on n a m = res at HG ⊢
  go_enter Tryd.func16, Tryd.ntmps16
  go_wp2_with fail
  refine (HS.out _).mono ?_
  rintro e w1 ⟨rfl, hb⟩
  have HB := Lib.hid (kept_trans (al_any w _) hb)
  clear hb
  go_wp2_with fail
  go_quiet (fail)
  go_wp2_with fail
  go_ret
  refine ⟨ret_i64 ?_, kept_trans HB.out (below_drewN _ _ _)⟩
  have hr := HR.out
  have hg := HG.out
  generalize a.tmod (n : Int) = x at *
  generalize m.tmod (n : Int) = y at *
  have q1 : wrap64 (x + y) = x + y := by unfold wrap64; omega
  have q2 : wrap64 (x + y + 2 * (n : Int)) = x + y + 2 * (n : Int) := by unfold wrap64; omega
  rw [q1, q2, hg]
set_option maxHeartbeats 1000000 in
theorem fits_any (r c : Int) (w : World) :
    Calls Tryd.prog 14 #[.int .i64 r, .int .i64 c] w fun e w' => e = .returned (.bool (sized r c)) ∧ w = w' := by
  by_cases h1 : 1 ≤ r
  · by_cases h2 : 1 ≤ c
    · have HE := Lib.hid (show sized r c = decide (r ≤ Int.tdiv 16383 c) by
        unfold sized
        simp only [h1, h2, decide_true, Bool.true_and]
        rw [Int.tdiv_eq_ediv_of_nonneg (by decide), decide_eq_decide]
        exact (Int.le_ediv_iff_mul_le (by omega)).symm)
      have HQ := Lib.hid (IntWalk.i64_quo' 16383 c (by omega))
      have hz : ¬ c = 0 := by omega
      generalize sized r c = res at HE ⊢
      generalize hk : Int.tdiv 16383 c = q at HE HQ
      go_enter Tryd.func14, Tryd.ntmps14
      go_wp2_with fail
      go_ret
      refine ⟨ret_bool ?_, rfl⟩
      rw [HE.out, show wrap64 q = q by have := HQ.out; rw [IntKind.wrap_i64] at this; unfold wrap64; exact this]
    · have HE := Lib.hid (show sized r c = false by unfold sized; simp [h2])
      generalize sized r c = res at HE ⊢
      go_enter Tryd.func14, Tryd.ntmps14
      go_wp2_with fail
      go_ret
      exact ⟨by rw [HE.out]; rfl, rfl⟩
  · have HE := Lib.hid (show sized r c = false by unfold sized; simp [h1])
    generalize sized r c = res at HE ⊢
    go_enter Tryd.func14, Tryd.ntmps14
    go_wp2_with fail
    go_ret
    exact ⟨by rw [HE.out]; rfl, rfl⟩
/-- What checkCell tells. -/
def cellv (o : C) : Value := if cright o then .nilIface else .iface 42 (.int .i64 1)
theorem cellv_yes {o : C} (h : cright o = true) : cellv o = .nilIface := by unfold cellv; rw [if_pos h]
theorem cellv_no {o : C} (h : cright o = false) : cellv o = .iface 42 (.int .i64 1) := by unfold cellv; rw [h]; rfl
theorem ret_val {a b : Value} (h : a = b) : Ending.returned a = .returned b := by rw [h]
set_option maxRecDepth 100000 in
set_option maxHeartbeats 4000000 in
theorem checkCell_any (f p n : Bool) (s : Int) (m : Bool) (c : Nat) (w : World) (hc : c < 256) :
    Calls Tryd.prog 24 #[.agg #[.bool f, .bool p, .bool n, .int .i64 s, .bool m, .int .u8 (c : Int)]] w fun e w' => e = .returned (cellv ⟨f, p, n, s, m, c⟩) ∧ Below w.heap.size w w' := by
  cases f with
  | true =>
    by_cases h0 : c = 0
    · subst h0
      by_cases hs : 0 ≤ s ∧ s ≤ 3
      · obtain ⟨k, rfl⟩ := Int.eq_ofNat_of_zero_le hs.1
        have HE := Lib.hid (cellv_yes (o := ⟨true, p, n, (k : Int), m, 0⟩) (by simp [cright]; omega))
        have HP := Lib.hid fun W => put_ok p n m k W (by omega)
        generalize cellv _ = res at HE ⊢
        go_enter Tryd.func24, Tryd.ntmps24
        go_wp2_with fail
        refine (HP.out _).mono ?_
        rintro e w1 ⟨rfl, hb⟩
        have HB := Lib.hid (kept_trans (al_any w _) hb)
        clear hb
        go_wp2_with fail
        go_ret
        exact ⟨ret_val HE.out.symm, HB.out⟩
      · have HE := Lib.hid (cellv_no (o := ⟨true, p, n, s, m, 0⟩) (by simp [cright]; omega))
        have HP := Lib.hid fun W => put_bad p n m s W (by omega)
        generalize cellv _ = res at HE ⊢
        go_enter Tryd.func24, Tryd.ntmps24
        go_wp2_with fail
        refine (HP.out _).mono ?_
        rintro e w1 ⟨rfl, hb⟩
        have HB := Lib.hid (kept_trans (al_any w _) hb)
        clear hb
        go_wp2_with fail
        go_ret
        exact ⟨ret_val HE.out.symm, HB.out⟩
    · have HE := Lib.hid (cellv_no (o := ⟨true, p, n, s, m, c⟩) (by simp [cright, h0]))
      have hz : ((c : Int) == 0) = false := by simp; omega
      generalize cellv _ = res at HE ⊢
      go_enter Tryd.func24, Tryd.ntmps24
      go_wp2_with fail
      go_ret
      exact ⟨ret_val HE.out.symm, al_any _ _⟩
  | false =>
    by_cases ha : p = false ∧ n = false ∧ s = 0 ∧ m = false
    · obtain ⟨rfl, rfl, rfl, rfl⟩ := ha
      have HC := Lib.hid fun W => char_any c W hc
      have HE := Lib.hid (show cellv ⟨false, false, false, 0, false, c⟩ = if Att.char c then .nilIface else .iface 42 (.int .i64 1) by simp [cellv, cright])
      generalize cellv _ = res at HE ⊢
      generalize Att.char c = ch at HC HE
      cases ch
      all_goals
        go_enter Tryd.func24, Tryd.ntmps24
        go_wp2_with fail
        refine (HC.out _).mono ?_
        rintro e w1 ⟨rfl, rfl⟩
        go_wp2_with fail
        go_ret
        exact ⟨ret_val (by rw [HE.out]; rfl), al_any _ _⟩
    · have HE := Lib.hid (cellv_no (o := ⟨false, p, n, s, m, c⟩) (by
        simp [cright]; intro h1 h2 h3 h4; exact absurd ⟨h1, h2, h3, h4⟩ ha))
      generalize cellv _ = res at HE ⊢
      cases p <;> cases n <;> cases m <;> simp at ha
      all_goals
        go_enter Tryd.func24, Tryd.ntmps24
        go_wp2_with fail
        go_ret
        exact ⟨ret_val HE.out.symm, al_any _ _⟩
end Grd
end Go.Proofs.YtilabepmmebkcaaDoor
