/- The law RoamNewest, of whatever arguments. Written by tools/gen_rom.py. -/
import Derived.Test.YtoiidedigbfnaaaDoorRomNewL
import Derived.Deep.QuietTactic
import Derived.BigQuiet
import Derived.Deep.Cut
import Derived.Deep.LoopGhost
import Derived.Deep.RegionLaw
import Derived.Deep.RegionHeld3
import Derived.IntWalk
import Derived.Lib.SmallJoins
namespace Go.Proofs.YtoiidedigbfnaaaDoor
open Go.RowKit Sha Six Apd Cut Err Frm
set_option linter.unusedVariables false
set_option linter.unusedSimpArgs false
namespace Rom
theorem newest_any (a0 : Option Addr) (len0 cap0 : Nat) (z0 : List Int) (x1a : Option Addr) (x1cap : Nat) (x1l : List Ml) (W : World) (w0 : IsRow .u8 W a0 len0 cap0 z0) (f1m : Mails W x1a x1l) (f1n : x1l.length ≤ maxLen) (hg : Handle W) :
    Calls Tryd.prog 3 #[.slice a0 len0 cap0, .slice x1a x1l.length x1cap] W fun e w' => e = .returned (.bool true) ∧ Below W.heap.size W w' := by
  obtain ⟨s0, rfl, B0⟩ := byts_row w0
  exact newest_core s0 x1l a0 cap0 x1a x1cap W hg B0 f1m
end Rom
end Go.Proofs.YtoiidedigbfnaaaDoor
