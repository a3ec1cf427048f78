/- What api.Code tells: 0 of no error, the number of an api.Errno. -/
import Derived.Test.YtllpmgddcpgegaaDoorErrAs
namespace Go.Proofs.YtllpmgddcpgegaaDoor
open Go.RowKit
namespace Err
theorem code_nil (w : World) :
    Calls Tryd.prog 10 #[.nilIface] w fun e w' => e = .returned (.int .i64 0) ∧ Below w.heap.size w w' := by
  go_enter Tryd.func10, Tryd.ntmps10
  go_wp2
  go_ret
  exact ⟨rfl, (Below.refl _ _).alloc (Nat.le_refl _) _⟩
set_option maxHeartbeats 1000000 in
theorem code_errno (k : Int) (w : World) (hg : Handle w) :
    Calls Tryd.prog 10 #[.iface 57 (.int .i64 k)] w fun e w' => e = .returned (.int .i64 k) ∧ Below w.heap.size w w' := by
  have hlt := hg.pos
  have hgA : Handle (w.alloc (.cells #[.int .i64 0] 57)) := hg.below hlt ((Below.refl _ _).alloc (Nat.le_refl _) _)
  clear hg
  go_enter Tryd.func10, Tryd.ntmps10
  go_wp2_with (go_at_call 32; refine (as_hit k _ (.int .i64 0) _ hgA ?_ ?_).mono ?_; simp; simp; rintro e w' ⟨rfl, rfl⟩)
  go_ret
  exact ⟨rfl, (((((Below.refl _ _).alloc (Nat.le_refl _) _).alloc (by simp) _).alloc (by simp <;> omega) _).alloc (by simp <;> omega) _).alloc (by simp <;> omega) _⟩
end Err
end Go.Proofs.YtllpmgddcpgegaaDoor
