/- The law FrameForged, of whatever arguments. Written by tools/gen_frm_laws.py. -/
import Derived.Test.YtdiidfkmmgcjmaaDoorFrmForL
import Derived.Deep.Cut
import Derived.Deep.LoopGhost
import Derived.Deep.RegionLaw
import Derived.Deep.RegionHeld3
import Derived.IntWalk
import Derived.Lib.SlBytesConst
import Derived.Lib.SmallJoins
namespace Go.Proofs.YtdiidfkmmgcjmaaDoor
open Go.RowKit Sha Six Apd Cut Err
set_option linter.unusedVariables false
set_option linter.unusedSimpArgs false
namespace Frm
theorem wf_i64 {c : Int} (h : (Lit.int .i64 c).wf = true) : IntKind.i64.wrap c = c := by
  simp [Lit.wf, IntKind.min, IntKind.max, IntKind.signed, IntKind.bits] at h
  rw [IntWalk.i64_in] <;> omega
theorem forged_any (a0 : Option Addr) (len0 cap0 : Nat) (z0 : List Int) (d1 q1 : Int) (a1 : Option Addr) (len1 cap1 : Nat) (z1 : List Int) (n2 : Int) (n3 : Int) (W : World) (w0 : IsRow .u8 W a0 len0 cap0 z0) (w1 : IsRow .u8 W a1 len1 cap1 z1) (wd1 : (Lit.int .i64 d1).wf = true) (wq1 : (Lit.int .i64 q1).wf = true) (w2 : (Lit.int .u16 n2).wf = true) (w3 : (Lit.int .u8 n3).wf = true) (hg : Handle W) :
    Calls Tryd.prog 5 #[.slice a0 len0 cap0, .agg #[.int .i64 d1, .int .i64 q1, .slice a1 len1 cap1], .int .u16 n2, .int .u8 n3] W fun e w' => e = .returned (.bool true) ∧ Below W.heap.size W w' := by
  obtain ⟨s0, rfl, B0⟩ := byts_row w0
  obtain ⟨s1, rfl, B1⟩ := byts_row w1
  obtain ⟨b2, e2⟩ := Ord.wf_u16 w2
  obtain ⟨n2, rfl⟩ := Int.eq_ofNat_of_zero_le b2
  obtain ⟨b3, e3⟩ := Ord.wf_u8 w3
  obtain ⟨n3, rfl⟩ := Int.eq_ofNat_of_zero_le b3
  exact forged_core s0 ⟨d1, q1, s1⟩ n2 n3 a0 cap0 a1 cap1 W hg B0 B1 (by omega) (by omega)
end Frm
end Go.Proofs.YtdiidfkmmgcjmaaDoor
