/- Wrong of the document. Written by tools/gen_frm_ref.py. -/
import Derived.Test.YtdiidfkmmgcjmaaDoorFrmMem
import Derived.Deep.Cut
import Derived.Deep.LoopGhost
import Derived.Deep.RegionHeld3
import Derived.IntWalk
namespace Go.Proofs.YtdiidfkmmgcjmaaDoor
open Go.RowKit Sha Six Apd Cut Err
set_option linter.unusedVariables false
namespace Frm
set_option maxRecDepth 100000 in
set_option maxHeartbeats 8000000 in
theorem rwrong_any (f : F) (ba : Option Addr) (bc : Nat) (w : World) :
    Calls Tryd.prog 10 #[.agg #[.int .i64 f.d, .int .i64 f.q, .slice ba f.b.length bc]] w fun e w' => e = .returned (.int .i64 (wrong f : Int)) ∧ Below w.heap.size w w' := by
  obtain ⟨d, q, b⟩ := f
  have HW := Lib.hid (show wrong ⟨d, q, b⟩ = if (((d != 0) && (d != 1)) || decide (q < 1)) || decide (4611686018427387904 < q) then 1 else if decide ((486 : Int) < (b.length : Int)) then 6 else 0 from by
    unfold wrong
    have e : ((d ≠ 0 ∧ d ≠ 1) ∨ q < 1 ∨ 4611686018427387904 < q) ↔ ((((d != 0) && (d != 1)) || decide (q < 1)) || decide (4611686018427387904 < q)) = true := by simp [or_assoc]
    simp only [e]
    split
    · rfl
    · have e2 : (486 < b.length) ↔ (decide ((486 : Int) < (b.length : Int)) = true) := by simp; omega
      simp only [e2])
  have HB := Lib.hid (al_any w (.cells #[.int .i64 d, .int .i64 q, .slice ba b.length bc] 24))
  have HX := Lib.hid (heap_alloc_new w (.cells #[.int .i64 d, .int .i64 q, .slice ba b.length bc] 24))
  generalize wrong ⟨d, q, b⟩ = r at *
  simp only
  go_enter Tryd.func10, Tryd.ntmps10
  go_upto_region 1 with (fail)
  generalize w.alloc _ = w1 at *
  obtain ⟨c0, c1, c2⟩ := cells3 HX.out
  generalize hd0 : (d != 0) = x0 at HW
  generalize hd1 : (d != 1) = x1 at HW
  generalize hq0 : decide (q < 1) = x2 at HW
  generalize hq1 : decide (4611686018427387904 < q) = x3 at HW
  generalize hbl : decide ((486 : Int) < (b.length : Int)) = x4 at HW
  go_wp2
  all_goals
    go_ret
    refine ⟨?_, HB.out⟩
    have hr := HW.out
    subst hd0 hd1 hq0 hq1 hbl
    clear HW c0 c1 c2 HX HB
    simp_all <;> (repeat' split) <;> omega
end Frm
end Go.Proofs.YtdiidfkmmgcjmaaDoor
