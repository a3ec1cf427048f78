/- The law RoamKeeps, of whatever arguments. Written by tools/gen_rom.py. -/
import Derived.Test.YtoiidedigbfnaaaDoorRomKepL
import Derived.Deep.QuietTactic
import Derived.BigQuiet
import Derived.Deep.Cut
import Derived.Deep.LoopGhost
import Derived.Deep.RegionLaw
import Derived.Deep.RegionHeld3
import Derived.IntWalk
import Derived.Lib.SmallJoins
namespace Go.Proofs.YtoiidedigbfnaaaDoor
open Go.RowKit Sha Six Apd Cut Err Frm
set_option linter.unusedVariables false
set_option linter.unusedSimpArgs false
namespace Rom
theorem keeps_any (a0 : Option Addr) (len0 cap0 : Nat) (z0 : List Int) (a1 : Option Addr) (len1 cap1 : Nat) (z1 : List Int) (W : World) (w0 : IsRow .u8 W a0 len0 cap0 z0) (w1 : IsRow .u8 W a1 len1 cap1 z1) (hg : Handle W) :
    Calls Tryd.prog 4 #[.slice a0 len0 cap0, .slice a1 len1 cap1] W fun e w' => e = .returned (.bool true) ∧ Below W.heap.size W w' := by
  obtain ⟨s0, rfl, B0⟩ := byts_row w0
  obtain ⟨s1, rfl, B1⟩ := byts_row w1
  exact keeps_core s0 s1 a0 cap0 a1 cap1 W hg B0 B1
end Rom
end Go.Proofs.YtoiidedigbfnaaaDoor
