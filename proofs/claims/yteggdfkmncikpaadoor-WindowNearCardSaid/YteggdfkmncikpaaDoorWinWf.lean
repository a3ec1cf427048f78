/- Numbers that came in. Written by tools/gen_win_laws.py. -/
import Derived.Test.YteggdfkmncikpaaDoorWinU16
import Derived.Deep.QuietTactic
import Derived.BigQuiet
import Derived.Deep.Cut
import Derived.Deep.LoopGhost
import Derived.Deep.RegionLaw
import Derived.Deep.RegionHeld3
import Derived.IntWalk
import Derived.Lib.SmallJoins
namespace Go.Proofs.YteggdfkmncikpaaDoor
open Go.RowKit Sha Six Apd Cut Err
set_option linter.unusedVariables false
set_option linter.unusedSimpArgs false
namespace Win
theorem wf_i64 {c : Int} (h : (Lit.int .i64 c).wf = true) : IntKind.i64.wrap c = c := by
  simp [Lit.wf, IntKind.min, IntKind.max, IntKind.signed, IntKind.bits] at h
  rw [IntWalk.i64_in] <;> omega
theorem wf_u64 {c : Int} (h : (Lit.int .u64 c).wf = true) : ∃ b : Nat, c = (b : Int) ∧ b < 18446744073709551616 := by
  simp [Lit.wf, IntKind.min, IntKind.max, IntKind.signed, IntKind.bits] at h
  exact ⟨c.toNat, by omega, by omega⟩
theorem wf_u32 {c : Int} (h : (Lit.int .u32 c).wf = true) : ∃ b : Nat, c = (b : Int) ∧ b < 4294967296 := by
  simp [Lit.wf, IntKind.min, IntKind.max, IntKind.signed, IntKind.bits] at h
  exact ⟨c.toNat, by omega, by omega⟩
theorem wf_u8 {c : Int} (h : (Lit.int .u8 c).wf = true) : ∃ b : Nat, c = (b : Int) ∧ b < 256 := by
  simp [Lit.wf, IntKind.min, IntKind.max, IntKind.signed, IntKind.bits] at h
  exact ⟨c.toNat, by omega, by omega⟩
end Win
end Go.Proofs.YteggdfkmncikpaaDoor
