/- begins of package order. Written by tools/gen_ord_put.py. -/
import Derived.Test.YtllpmgddcpgegaaProg
import Derived.WalkKit
namespace Go.Proofs.Ytllpmgddcpgegaa
open Go.RowKit
namespace Ord
theorem begins_2 (w : World) : Calls Try.prog 18 #[.int .i64 2] w fun e w' => e = .returned (.int .u8 29) ∧ w = w' := by
  go_enter Try.func18, Try.ntmps18
  go_wp2
  go_ret
  exact ⟨rfl, rfl⟩
theorem begins_3 (w : World) : Calls Try.prog 18 #[.int .i64 3] w fun e w' => e = .returned (.int .u8 17) ∧ w = w' := by
  go_enter Try.func18, Try.ntmps18
  go_wp2
  go_ret
  exact ⟨rfl, rfl⟩
theorem begins_4 (w : World) : Calls Try.prog 18 #[.int .i64 4] w fun e w' => e = .returned (.int .u8 19) ∧ w = w' := by
  go_enter Try.func18, Try.ntmps18
  go_wp2
  go_ret
  exact ⟨rfl, rfl⟩
theorem begins_5 (w : World) : Calls Try.prog 18 #[.int .i64 5] w fun e w' => e = .returned (.int .u8 5) ∧ w = w' := by
  go_enter Try.func18, Try.ntmps18
  go_wp2
  go_ret
  exact ⟨rfl, rfl⟩
theorem begins_6 (w : World) : Calls Try.prog 18 #[.int .i64 6] w fun e w' => e = .returned (.int .u8 60) ∧ w = w' := by
  go_enter Try.func18, Try.ntmps18
  go_wp2
  go_ret
  exact ⟨rfl, rfl⟩
theorem begins_7 (w : World) : Calls Try.prog 18 #[.int .i64 7] w fun e w' => e = .returned (.int .u8 18) ∧ w = w' := by
  go_enter Try.func18, Try.ntmps18
  go_wp2
  go_ret
  exact ⟨rfl, rfl⟩
end Ord
end Go.Proofs.Ytllpmgddcpgegaa
