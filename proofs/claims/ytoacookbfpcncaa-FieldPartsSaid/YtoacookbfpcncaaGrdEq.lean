/- Two cells are alike: what the walk's own operation says. -/
import Derived.Test.YtoacookbfpcncaaGrdBox
namespace Go.Proofs.Ytoacookbfpcncaa
open Go.RowKit Sha Six Apd Cut Err Att
set_option linter.unusedVariables false
namespace Grd
theorem c_ext {xs ys : List C} (hl : xs.length = ys.length) (h : ∀ i, i < xs.length → xs.getD i noC = ys.getD i noC) : xs = ys := by
  apply List.ext_getElem hl
  intro i h1 h2
  have := h i h1
  rwa [List.getD_eq_getElem?_getD, List.getD_eq_getElem?_getD, List.getElem?_eq_getElem h1, List.getElem?_eq_getElem h2] at this
/-- Two cells are alike, as the walk spells it. -/
theorem ceq (f p n : Bool) (s : Int) (m : Bool) (c : Nat) (f' p' n' : Bool) (s' : Int) (m' : Bool) (c' : Nat) :
    decide ((⟨f, p, n, s, m, c⟩ : C) = ⟨f', p', n', s', m', c'⟩) = ((f == f') && ((p == p') && ((n == n') && ((s == s') && (m == m')))) && ((c : Int) == (c' : Int))) := by
  rw [Bool.eq_iff_iff]
  simp only [decide_eq_true_eq, C.mk.injEq, Bool.and_eq_true, beq_iff_eq]
  constructor
  · rintro ⟨h1, h2, h3, h4, h5, h6⟩; exact ⟨⟨h1, h2, h3, h4, h5⟩, by omega⟩
  · rintro ⟨⟨h1, h2, h3, h4, h5⟩, h6⟩; exact ⟨h1, h2, h3, h4, h5, by omega⟩
set_option maxRecDepth 100000 in
set_option maxHeartbeats 2000000 in
theorem run_eqA (d : Nat) (p n : Bool) (s : Int) (m : Bool) (p' n' : Bool) (s' : Int) (m' : Bool) (w : World) :
    (Op.equalIn (d + 2) 33 (.agg #[.bool p, .bool n, .int .i64 s, .bool m]) (.agg #[.bool p', .bool n', .int .i64 s', .bool m'])).run Try.prog w = .ok ((p == p') && ((n == n') && ((s == s') && (m == m')))) w := by
  rw [run_equalIn_agg w (d + 1) 33 _ _ (by kernel_rfl) (by kernel_rfl)]
  cases e0 : p == p' <;> cases e1 : n == n' <;> cases e2 : s == s' <;> cases e3 : m == m'
  all_goals
    go_simp
set_option maxRecDepth 100000 in
set_option maxHeartbeats 2000000 in
theorem run_eqC (x y : C) (w : World) :
    (Op.equalIn 10000 39 (.agg #[.bool x.f, .bool x.p, .bool x.n, .int .i64 x.s, .bool x.m, .int .u8 (x.c : Int)]) (.agg #[.bool y.f, .bool y.p, .bool y.n, .int .i64 y.s, .bool y.m, .int .u8 (y.c : Int)])).run Try.prog w = .ok (decide (x = y)) w := by
  obtain ⟨xf, xp, xn, xs, xm, xc⟩ := x
  obtain ⟨yf, yp, yn, ys, ym, yc⟩ := y
  rw [ceq, run_equalIn_agg w 9999 39 _ _ (by kernel_rfl) (by kernel_rfl)]
  have hA := run_eqA 9997 xp xn xs xm yp yn ys ym
  generalize ((xp == yp) && ((xn == yn) && ((xs == ys) && (xm == ym)))) = ea at hA ⊢
  cases e0 : xf == yf <;> cases ea <;> cases e3 : (xc : Int) == (yc : Int)
  all_goals
    go_simp
theorem run_neqC (x y : C) (w : World) :
    (binOp BinOp.neq 39 (.agg #[.bool x.f, .bool x.p, .bool x.n, .int .i64 x.s, .bool x.m, .int .u8 (x.c : Int)]) (.agg #[.bool y.f, .bool y.p, .bool y.n, .int .i64 y.s, .bool y.m, .int .u8 (y.c : Int)])).run Try.prog w = .ok (.bool (!decide (x = y))) w := by
  rw [run_neq_struct, run_eqC]; rfl
end Grd
end Go.Proofs.Ytoacookbfpcncaa
