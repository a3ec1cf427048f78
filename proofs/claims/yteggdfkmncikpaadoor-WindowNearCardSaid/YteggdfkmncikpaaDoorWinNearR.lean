/- The law WindowNear, of whatever arguments. Written by tools/gen_win_laws.py. -/
import Derived.Test.YteggdfkmncikpaaDoorWinNearL
import Derived.Test.YteggdfkmncikpaaDoorWinWf
import Derived.Deep.QuietTactic
import Derived.BigQuiet
import Derived.Deep.Cut
import Derived.Deep.LoopGhost
import Derived.Deep.RegionLaw
import Derived.Deep.RegionHeld3
import Derived.IntWalk
import Derived.Lib.SmallJoins
namespace Go.Proofs.YteggdfkmncikpaaDoor
open Go.RowKit Sha Six Apd Cut Err
set_option linter.unusedVariables false
set_option linter.unusedSimpArgs false
namespace Win
theorem near_any (a0 : Option Addr) (len0 cap0 : Nat) (z0 : List Int) (W : World) (w0 : IsRow .u8 W a0 len0 cap0 z0) (hg : Handle W) :
    Calls Tryd.prog 5 #[.slice a0 len0 cap0] W fun e w' => e = .returned (.bool true) ∧ Below W.heap.size W w' := by
  obtain ⟨xs, rfl, h8, hB⟩ := isRow_bytes w0
  exact near_core xs a0 cap0 W hB h8 hg
end Win
end Go.Proofs.YteggdfkmncikpaaDoor
