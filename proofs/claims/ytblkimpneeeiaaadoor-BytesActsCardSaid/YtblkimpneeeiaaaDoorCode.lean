/- What api.Code tells: 0 of no error, the number of an api.Errno. -/
import Derived.Test.YtblkimpneeeiaaaDoorErrAs
namespace Go.Proofs.YtblkimpneeeiaaaDoor
open Go.RowKit
namespace Err
theorem code_nil (w : World) :
    Calls Tryd.prog 20 #[.nilIface] w fun e w' => e = .returned (.int .i64 0) ∧ Below w.heap.size w w' := by
  go_enter Tryd.func20, Tryd.ntmps20
  go_wp2
  go_ret
  exact ⟨rfl, (Below.refl _ _).alloc (Nat.le_refl _) _⟩
set_option maxHeartbeats 1000000 in
theorem code_errno (k : Int) (w : World) (hg : Handle w) :
    Calls Tryd.prog 20 #[.iface 38 (.int .i64 k)] w fun e w' => e = .returned (.int .i64 k) ∧ Below w.heap.size w w' := by
  have hlt := hg.pos
  have hgA : Handle (w.alloc (.cells #[.int .i64 0] 38)) := hg.below hlt ((Below.refl _ _).alloc (Nat.le_refl _) _)
  clear hg
  go_enter Tryd.func20, Tryd.ntmps20
  go_wp2_with (go_at_call 29; refine (as_hit k _ (.int .i64 0) _ hgA ?_ ?_).mono ?_; simp; simp; rintro e w' ⟨rfl, rfl⟩)
  go_ret
  exact ⟨rfl, (((((Below.refl _ _).alloc (Nat.le_refl _) _).alloc (by simp) _).alloc (by simp <;> omega) _).alloc (by simp <;> omega) _).alloc (by simp <;> omega) _⟩
end Err
end Go.Proofs.YtblkimpneeeiaaaDoor
