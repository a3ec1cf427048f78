/- The law WindowLets, of whatever arguments. Written by tools/gen_win_laws.py. -/
import Derived.Test.YteggdfkmncikpaaDoorWinLetsL
import Derived.Test.YteggdfkmncikpaaDoorWinWf
import Derived.Deep.QuietTactic
import Derived.BigQuiet
import Derived.Deep.Cut
import Derived.Deep.LoopGhost
import Derived.Deep.RegionLaw
import Derived.Deep.RegionHeld3
import Derived.IntWalk
import Derived.Lib.SmallJoins
namespace Go.Proofs.YteggdfkmncikpaaDoor
open Go.RowKit Sha Six Apd Cut Err
set_option linter.unusedVariables false
set_option linter.unusedSimpArgs false
namespace Win
theorem lets_any (t0 b0 : Int) (a1 : Int) (W : World) (wt0 : (Lit.int .i64 t0).wf = true) (wb0 : (Lit.int .u64 b0).wf = true) (w1 : (Lit.int .i64 a1).wf = true) (hg : Handle W) :
    Calls Tryd.prog 3 #[.agg #[.int .i64 t0, .int .u64 b0], .int .i64 a1] W fun e w' => e = .returned (.bool true) ∧ Below W.heap.size W w' := by
  obtain ⟨b, rfl, hb⟩ := wf_u64 wb0
  exact lets_core ⟨t0, b⟩ a1 W ⟨hb, wf_i64 wt0⟩ (wf_i64 w1) hg
end Win
end Go.Proofs.YteggdfkmncikpaaDoor
