/- Equal of package slices, of cells; Same of package grid, and the document's. -/
import Derived.Test.YtilabepmmebkcaaDoorGrdLeaf
import Derived.Test.YtilabepmmebkcaaDoorGrdBox
import Derived.Deep.LoopGhost
import Derived.Deep.RegionHeld3
namespace Go.Proofs.YtilabepmmebkcaaDoor
open Go.RowKit Sha Six Cut Err Att
set_option linter.unusedVariables false
namespace Grd
theorem c_ext {xs ys : List C} (hl : xs.length = ys.length) (h : ∀ i, i < xs.length → xs.getD i noC = ys.getD i noC) : xs = ys := by
  apply List.ext_getElem hl
  intro i h1 h2
  have := h i h1
  rwa [List.getD_eq_getElem?_getD, List.getD_eq_getElem?_getD, List.getElem?_eq_getElem h1, List.getElem?_eq_getElem h2] at this
/-- Two cells are alike, as the walk spells it. -/
theorem ceq (f p n : Bool) (s : Int) (m : Bool) (c : Nat) (f' p' n' : Bool) (s' : Int) (m' : Bool) (c' : Nat) :
    decide ((⟨f, p, n, s, m, c⟩ : C) = ⟨f', p', n', s', m', c'⟩) = ((f == f') && ((p == p') && ((n == n') && ((s == s') && (m == m')))) && ((c : Int) == (c' : Int))) := by
  rw [Bool.eq_iff_iff]
  simp only [decide_eq_true_eq, C.mk.injEq, Bool.and_eq_true, beq_iff_eq]
  constructor
  · rintro ⟨h1, h2, h3, h4, h5, h6⟩; exact ⟨⟨h1, h2, h3, h4, h5⟩, by omega⟩
  · rintro ⟨⟨h1, h2, h3, h4, h5⟩, h6⟩; exact ⟨h1, h2, h3, h4, h5, by omega⟩
set_option maxRecDepth 100000 in
set_option maxHeartbeats 2000000 in
theorem run_eqA (d : Nat) (p n : Bool) (s : Int) (m : Bool) (p' n' : Bool) (s' : Int) (m' : Bool) (w : World) :
    (Op.equalIn (d + 2) 34 (.agg #[.bool p, .bool n, .int .i64 s, .bool m]) (.agg #[.bool p', .bool n', .int .i64 s', .bool m'])).run Tryd.prog w = .ok ((p == p') && ((n == n') && ((s == s') && (m == m')))) w := by
  rw [run_equalIn_agg w (d + 1) 34 _ _ (by kernel_rfl) (by kernel_rfl)]
  cases e0 : p == p' <;> cases e1 : n == n' <;> cases e2 : s == s' <;> cases e3 : m == m'
  all_goals
    go_simp
set_option maxRecDepth 100000 in
set_option maxHeartbeats 2000000 in
theorem run_eqC (x y : C) (w : World) :
    (Op.equalIn 10000 36 (.agg #[.bool x.f, .bool x.p, .bool x.n, .int .i64 x.s, .bool x.m, .int .u8 (x.c : Int)]) (.agg #[.bool y.f, .bool y.p, .bool y.n, .int .i64 y.s, .bool y.m, .int .u8 (y.c : Int)])).run Tryd.prog w = .ok (decide (x = y)) w := by
  obtain ⟨xf, xp, xn, xs, xm, xc⟩ := x
  obtain ⟨yf, yp, yn, ys, ym, yc⟩ := y
  rw [ceq, run_equalIn_agg w 9999 36 _ _ (by kernel_rfl) (by kernel_rfl)]
  have hA := run_eqA 9997 xp xn xs xm yp yn ys ym
  generalize ((xp == yp) && ((xn == yn) && ((xs == ys) && (xm == ym)))) = ea at hA ⊢
  cases e0 : xf == yf <;> cases ea <;> cases e3 : (xc : Int) == (yc : Int)
  all_goals
    go_simp
theorem run_neqC (x y : C) (w : World) :
    (binOp BinOp.neq 36 (.agg #[.bool x.f, .bool x.p, .bool x.n, .int .i64 x.s, .bool x.m, .int .u8 (x.c : Int)]) (.agg #[.bool y.f, .bool y.p, .bool y.n, .int .i64 y.s, .bool y.m, .int .u8 (y.c : Int)])).run Tryd.prog w = .ok (.bool (!decide (x = y))) w := by
  rw [run_neq_struct, run_eqC]; rfl
set_option maxRecDepth 100000 in
set_option maxHeartbeats 8000000 in
theorem equalC_any (a1 : Option Addr) (n1 k1 : Nat) (a2 : Option Addr) (n2 k2 : Nat) (xs ys : List C) (w : World) (h1 : CelsIn w (.slice a1 n1 k1) xs) (h2 : CelsIn w (.slice a2 n2 k2) ys) (hl : xs.length < 1000000000) :
    Calls Tryd.prog 26 #[.slice a1 n1 k1, .slice a2 n2 k2] w fun e w' => e = .returned (.bool (decide (xs = ys))) ∧ ∃ m, w' = w.drewN m := by
  obtain rfl := h1.len
  obtain rfl := h2.len
  have H1 := Lib.hid h1
  have H2 := Lib.hid h2
  have HL := Lib.hid hl
  clear h1 h2 hl
  by_cases hlen : xs.length = ys.length
  · have hq : ((xs.length : Int) != (ys.length : Int)) = false := by simp [hlen]
    have HLEN := Lib.hid hlen
    clear hlen
    go_enter Tryd.func26, Tryd.ntmps26
    go_wp2_with fail
    go_loopg [13] (xs.length + 1) (fun m i wr => ∃ k : Nat, k ≤ xs.length ∧ m = xs.length + 1 - k ∧ i = .int .i64 k ∧ Hid (∀ j, j < k → xs.getD j noC = ys.getD j noC) ∧ ∃ n, wr = w.drewN n)
    case atStart => exact ⟨0, Nat.zero_le _, rfl, rfl, Lib.hid nofun, 0, rfl⟩
    case round =>
      obtain ⟨k, hk, rfl, rfl, HE, n, rfl⟩ := hrel
      have ew : IntKind.i64.wrap ((k : Int) + 1) = (k : Int) + 1 := by
        have := HL.out
        rw [IntWalk.i64_in] <;> omega
      by_cases hlt : k < xs.length
      · obtain ⟨xf, xp, xn, xs', xm, xc, ex⟩ := c_eta (xs.getD k noC)
        obtain ⟨yf, yp, yn, ys', ym, yc, ey⟩ := c_eta (ys.getD k noC)
        obtain ⟨b1, o1, rfl, g0, g1, g2, g3, g4, g5⟩ := H1.out.cells hlt ex
        obtain ⟨b2, o2, rfl, d0, d1, d2, d3, d4, d5⟩ := H2.out.cells (show k < ys.length by have := HLEN.out; omega) ey
        have hi0 : (0 : Int) ≤ (k : Int) := by omega
        have hi1 : (k : Int) < (xs.length : Int) := by omega
        have hi2 : (k : Int) < (ys.length : Int) := by have := HLEN.out; omega
        have HN := run_neqC ⟨xf, xp, xn, xs', xm, xc⟩ ⟨yf, yp, yn, ys', ym, yc⟩
        simp only at HN
        generalize hd : decide ((⟨xf, xp, xn, xs', xm, xc⟩ : C) = ⟨yf, yp, yn, ys', ym, yc⟩) = bd at HN
        cases bd with
        | true =>
          have HP := Lib.hid (show xs.getD k noC = ys.getD k noC by rw [ex, ey]; simpa using hd)
          clear hd
          go_wp2_with fail
          go_quiet (fail)
          go_wp2_with fail
          go_roundg (xs.length + 1 - (k + 1))
          case measure => omega
          case rel =>
            refine ⟨k + 1, by omega, rfl, by go_num, Lib.hid fun j hj => ?_, n + nq, by first | rfl | simp [World.drewN, Nat.add_assoc]⟩
            by_cases hjk : j = k
            · subst hjk; exact HP.out
            · exact HE.out j (by omega)
        | false =>
          have HF := Lib.hid (show decide (xs = ys) = false by
            simp only [decide_eq_false_iff_not] at hd ⊢
            intro e; apply hd; rw [← ex, ← ey, e])
          clear hd
          go_wp2_with fail
          go_quiet (fail)
          go_wp2_with fail
          go_ret
          refine ⟨?_, n + nq, by first | rfl | simp [World.drewN, Nat.add_assoc]⟩
          rw [HF.out]; rfl
      · obtain rfl : k = xs.length := by omega
        have HT := Lib.hid (show decide (xs = ys) = true by simp only [decide_eq_true_eq]; exact c_ext HLEN.out HE.out)
        clear hlt
        have hn0 : ¬ (xs.length : Int) < (xs.length : Int) := by omega
        go_wp2_with fail
        go_ret
        refine ⟨?_, n, rfl⟩
        rw [HT.out]; rfl
  · have hq : ((xs.length : Int) != (ys.length : Int)) = true := by simp; omega
    have HF := Lib.hid (show decide (xs = ys) = false by simp only [decide_eq_false_iff_not]; intro e; exact hlen (by rw [e]))
    clear hlen
    go_enter Tryd.func26, Tryd.ntmps26
    go_wp2_with fail
    go_ret
    refine ⟨?_, 0, rfl⟩
    rw [HF.out]; rfl
set_option maxRecDepth 100000 in
set_option maxHeartbeats 8000000 in
/-- Same, of screens that are alike but for their cells. -/
theorem same_any (r c cur : Int) (lk ins : Bool) (a1 : Option Addr) (n1 k1 : Nat) (a2 : Option Addr) (n2 k2 : Nat) (xs ys : List C) (w : World) (h1 : CelsIn w (.slice a1 n1 k1) xs) (h2 : CelsIn w (.slice a2 n2 k2) ys) (hl : xs.length < 1000000000) :
    Calls Tryd.prog 19 #[.agg #[.int .i64 r, .int .i64 c, .slice a1 n1 k1, .int .i64 cur, .bool lk, .bool ins], .agg #[.int .i64 r, .int .i64 c, .slice a2 n2 k2, .int .i64 cur, .bool lk, .bool ins]] w fun e w' => e = .returned (.bool (decide (xs = ys))) ∧ Below w.heap.size w w' := by
  have HB := Lib.hid (kept_trans (al_any w (.cells #[.int .i64 r, .int .i64 c, .slice a1 n1 k1, .int .i64 cur, .bool lk, .bool ins] 24)) (al_any _ (.cells #[.int .i64 r, .int .i64 c, .slice a2 n2 k2, .int .i64 cur, .bool lk, .bool ins] 24)))
  have HX := Lib.hid fun W hb => equalC_any a1 n1 k1 a2 n2 k2 xs ys W (h1.below hb) (h2.below hb) hl
  have e0 : ((r : Int) == r) = true := by simp
  have e1 : ((c : Int) == c) = true := by simp
  have e2 : ((cur : Int) == cur) = true := by simp
  have e3 : (lk == lk) = true := by simp
  have e4 : (ins == ins) = true := by simp
  clear h1 h2 hl
  generalize decide (xs = ys) = res at HX ⊢
  cases res with
  | true =>
    go_enter Tryd.func19, Tryd.ntmps19
    go_wp2_with fail
    with_reducible refine (HX.out _ HB.out).mono ?_
    rintro e w1 ⟨rfl, m, rfl⟩
    go_wp2_with fail
    go_ret
    exact ⟨rfl, kept_trans HB.out (below_drewN _ _ _)⟩
  | false =>
    go_enter Tryd.func19, Tryd.ntmps19
    go_wp2_with fail
    with_reducible refine (HX.out _ HB.out).mono ?_
    rintro e w1 ⟨rfl, m, rfl⟩
    go_wp2_with fail
    go_ret
    exact ⟨rfl, kept_trans HB.out (below_drewN _ _ _)⟩
end Grd
end Go.Proofs.YtilabepmmebkcaaDoor
