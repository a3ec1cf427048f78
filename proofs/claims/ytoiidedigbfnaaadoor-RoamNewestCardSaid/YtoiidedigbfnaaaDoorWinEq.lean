/- '==' of windows; Code of an error. Written by tools/gen_win_laws.py. -/
import Derived.Test.YtoiidedigbfnaaaDoorBunWnp
import Derived.Test.YtoiidedigbfnaaaDoorBunErr
import Derived.Deep.QuietTactic
import Derived.BigQuiet
import Derived.Deep.Cut
import Derived.Deep.LoopGhost
import Derived.Deep.RegionLaw
import Derived.Deep.RegionHeld3
import Derived.IntWalk
import Derived.Lib.SmallJoins
namespace Go.Proofs.YtoiidedigbfnaaaDoor
open Go.RowKit Sha Six Apd Cut Err
set_option linter.unusedVariables false
set_option linter.unusedSimpArgs false
namespace Win
set_option maxRecDepth 100000 in
set_option maxHeartbeats 2000000 in
theorem run_eqS (x y : W) (w : World) : (Op.equalIn 10000 27 (.agg #[.int .i64 x.top, .int .u64 (x.bits : Int)]) (.agg #[.int .i64 y.top, .int .u64 (y.bits : Int)])).run Tryd.prog w = .ok ((x.top == y.top) && ((x.bits : Int) == (y.bits : Int))) w := by
  obtain ⟨a, b⟩ := x
  obtain ⟨c, d⟩ := y
  rw [run_equalIn_agg w 9999 27 _ _ (by kernel_rfl) (by kernel_rfl)]
  simp only
  cases e0 : a == c <;> cases e1 : (b : Int) == (d : Int)
  all_goals
    go_simp
theorem seq (x y : W) : ((x.top == y.top) && ((x.bits : Int) == (y.bits : Int))) = true ↔ x = y := by
  obtain ⟨a, b⟩ := x
  obtain ⟨c, d⟩ := y
  simp only [Bool.and_eq_true, beq_iff_eq, W.mk.injEq]
  constructor
  · rintro ⟨h1, h2⟩; exact ⟨h1, by omega⟩
  · rintro ⟨h1, h2⟩; exact ⟨h1, by omega⟩
theorem run_eqlS (x y : W) (w : World) : (binOp BinOp.eql 27 (.agg #[.int .i64 x.top, .int .u64 (x.bits : Int)]) (.agg #[.int .i64 y.top, .int .u64 (y.bits : Int)])).run Tryd.prog w = .ok (.bool ((x.top == y.top) && ((x.bits : Int) == (y.bits : Int)))) w := by
  rw [run_eql_struct, run_eqS]; rfl
theorem run_neqS (x y : W) (w : World) : (binOp BinOp.neq 27 (.agg #[.int .i64 x.top, .int .u64 (x.bits : Int)]) (.agg #[.int .i64 y.top, .int .u64 (y.bits : Int)])).run Tryd.prog w = .ok (.bool (!((x.top == y.top) && ((x.bits : Int) == (y.bits : Int))))) w := by
  rw [run_neq_struct, run_eqS]; rfl
theorem run_sameS (x : W) (w : World) : (binOp BinOp.eql 27 (.agg #[.int .i64 x.top, .int .u64 (x.bits : Int)]) (.agg #[.int .i64 x.top, .int .u64 (x.bits : Int)])).run Tryd.prog w = .ok (.bool true) w := by
  rw [run_eqlS, (seq x x).2 rfl]
theorem code_errn (n : Nat) (w : World) (hg : Handle w) :
    Calls Tryd.prog 12 #[errn n] w fun e w' => e = .returned (.int .i64 (n : Int)) ∧ Below w.heap.size w w' := by
  unfold errn
  split
  · rename_i h
    subst h
    exact code_nil w
  · exact code_errno (n : Int) w hg
end Win
end Go.Proofs.YtoiidedigbfnaaaDoor
