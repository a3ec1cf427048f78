/- The law FrameBack, of whatever arguments. Written by tools/gen_frm_laws.py. -/
import Derived.Test.YtdiidfkmmgcjmaaDoorFrmBacL
import Derived.Deep.Cut
import Derived.Deep.LoopGhost
import Derived.Deep.RegionLaw
import Derived.Deep.RegionHeld3
import Derived.IntWalk
import Derived.Lib.SlBytesConst
import Derived.Lib.SmallJoins
namespace Go.Proofs.YtdiidfkmmgcjmaaDoor
open Go.RowKit Sha Six Apd Cut Err
set_option linter.unusedVariables false
set_option linter.unusedSimpArgs false
namespace Frm
theorem wf_i64 {c : Int} (h : (Lit.int .i64 c).wf = true) : IntKind.i64.wrap c = c := by
  simp [Lit.wf, IntKind.min, IntKind.max, IntKind.signed, IntKind.bits] at h
  rw [IntWalk.i64_in] <;> omega
theorem back_any (a0 : Option Addr) (len0 cap0 : Nat) (z0 : List Int) (d1 q1 : Int) (a1 : Option Addr) (len1 cap1 : Nat) (z1 : List Int) (a2 : Option Addr) (len2 cap2 : Nat) (z2 : List Int) (n3 : Int) (W : World) (w0 : IsRow .u8 W a0 len0 cap0 z0) (w1 : IsRow .u8 W a1 len1 cap1 z1) (wd1 : (Lit.int .i64 d1).wf = true) (wq1 : (Lit.int .i64 q1).wf = true) (w2 : IsRow .u8 W a2 len2 cap2 z2) (w3 : (Lit.int .i64 n3).wf = true) (hg : Handle W) :
    Calls Tryd.prog 4 #[.slice a0 len0 cap0, .agg #[.int .i64 d1, .int .i64 q1, .slice a1 len1 cap1], .slice a2 len2 cap2, .int .i64 n3] W fun e w' => e = .returned (.bool true) ∧ Below W.heap.size W w' := by
  obtain ⟨s0, rfl, B0⟩ := byts_row w0
  obtain ⟨s1, rfl, B1⟩ := byts_row w1
  obtain ⟨s2, rfl, B2⟩ := byts_row w2
  exact back_core s0 s2 ⟨d1, q1, s1⟩ n3 a0 cap0 a1 cap1 a2 cap2 W hg B0 B1 B2 (wf_i64 w3)
end Frm
end Go.Proofs.YtdiidfkmmgcjmaaDoor
