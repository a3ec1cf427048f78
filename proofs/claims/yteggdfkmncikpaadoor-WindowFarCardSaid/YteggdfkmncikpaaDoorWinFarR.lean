/- The law WindowFar, of whatever arguments. Written by tools/gen_win_laws.py. -/
import Derived.Test.YteggdfkmncikpaaDoorWinFarL
import Derived.Test.YteggdfkmncikpaaDoorWinWf
import Derived.Deep.QuietTactic
import Derived.BigQuiet
import Derived.Deep.Cut
import Derived.Deep.LoopGhost
import Derived.Deep.RegionLaw
import Derived.Deep.RegionHeld3
import Derived.IntWalk
import Derived.Lib.SmallJoins
namespace Go.Proofs.YteggdfkmncikpaaDoor
open Go.RowKit Sha Six Apd Cut Err
set_option linter.unusedVariables false
set_option linter.unusedSimpArgs false
namespace Win
theorem far_any (t0 b0 : Int) (a1 a2 : Int) (W : World) (wt0 : (Lit.int .i64 t0).wf = true) (wb0 : (Lit.int .u64 b0).wf = true) (w1 : (Lit.int .u32 a1).wf = true) (w2 : (Lit.int .u8 a2).wf = true) (hg : Handle W) :
    Calls Tryd.prog 6 #[.agg #[.int .i64 t0, .int .u64 b0], .int .u32 a1, .int .u8 a2] W fun e w' => e = .returned (.bool true) ∧ Below W.heap.size W w' := by
  obtain ⟨b, rfl, hb⟩ := wf_u64 wb0
  obtain ⟨l, rfl, hl⟩ := wf_u32 w1
  obtain ⟨k, rfl, hk⟩ := wf_u8 w2
  exact far_core ⟨t0, b⟩ l k W ⟨hb, wf_i64 wt0⟩ hl hk hg
end Win
end Go.Proofs.YteggdfkmncikpaaDoor
