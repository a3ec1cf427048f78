/- The law RoamAgain, of whatever arguments. Written by tools/gen_rom.py. -/
import Derived.Test.YtoiidedigbfnaaaDoorRomAgaL
import Derived.Test.YtoiidedigbfnaaaDoorBunWnp
import Derived.Deep.QuietTactic
import Derived.BigQuiet
import Derived.Deep.Cut
import Derived.Deep.LoopGhost
import Derived.Deep.RegionLaw
import Derived.Deep.RegionHeld3
import Derived.IntWalk
import Derived.Lib.SmallJoins
namespace Go.Proofs.YtoiidedigbfnaaaDoor
open Go.RowKit Sha Six Apd Cut Err Frm
set_option linter.unusedVariables false
set_option linter.unusedSimpArgs false
namespace Rom
theorem again_any (a0 : Option Addr) (len0 cap0 : Nat) (z0 : List Int) (a1 : Int) (one two : ByteArray) (a4 : Option Addr) (len4 cap4 : Nat) (z4 : List Int) (W : World) (w0 : IsRow .u8 W a0 len0 cap0 z0) (w1 : (Lit.int .u32 a1).wf = true) (w4 : IsRow .u8 W a4 len4 cap4 z4) (hg : Handle W) :
    Calls Tryd.prog 5 #[.slice a0 len0 cap0, .int .u32 a1, .string one, .string two, .slice a4 len4 cap4] W fun e w' => e = .returned (.bool true) ∧ Below W.heap.size W w' := by
  obtain ⟨s0, rfl, B0⟩ := byts_row w0
  obtain ⟨s4, rfl, B4⟩ := byts_row w4
  obtain ⟨n, rfl, hn⟩ := Win.wf_u32 w1
  exact again_core s0 s4 n one two a0 cap0 a4 cap4 W hg B0 B4 hn
end Rom
end Go.Proofs.YtoiidedigbfnaaaDoor
