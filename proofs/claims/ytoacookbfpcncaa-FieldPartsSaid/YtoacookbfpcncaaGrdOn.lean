/- Size and On of package grid. -/
import Derived.Test.YtoacookbfpcncaaGrdBox
import Derived.Deep.QuietTactic
import Derived.BigQuiet
import Derived.IntWalk
namespace Go.Proofs.Ytoacookbfpcncaa
open Go.RowKit Sha Six Apd Cut Err Att
set_option linter.unusedVariables false
namespace Grd
set_option maxHeartbeats 1000000 in
theorem size_any (r c : Int) (ad : Option Addr) (n k : Nat) (cur : Int) (lk ins : Bool) (w : World) :
    Calls Try.prog 38 #[.agg #[.int .i64 r, .int .i64 c, .slice ad n k, .int .i64 cur, .bool lk, .bool ins]] w fun e w' => e = .returned (.int .i64 (n : Int)) ∧ Below w.heap.size w w' := by
  go_enter Try.func38, Try.ntmps38
  go_wp2
  go_ret
  exact ⟨rfl, al_any _ _⟩
set_option maxHeartbeats 1000000 in
theorem on_any (r c : Int) (ad : Option Addr) (n k : Nat) (cur : Int) (lk ins : Bool) (a m : Int) (w : World) (hn : 0 < n) (hn2 : n < 1000000000) (ha : IntKind.i64.wrap a = a) (hm : IntKind.i64.wrap m = m) :
    Calls Try.prog 39 #[.agg #[.int .i64 r, .int .i64 c, .slice ad n k, .int .i64 cur, .bool lk, .bool ins], .int .i64 a, .int .i64 m] w fun e w' => e = .returned (.int .i64 ((on n a m : Nat) : Int)) ∧ Below w.heap.size w w' := by
  have HS := Lib.hid fun W => size_any r c ad n k cur lk ins W
  have HG := Lib.hid (on_go hn a m)
  have HR := Lib.hid (on_room hn hn2 a m)
  have hz : ((n : Int) == 0) = false := by simp; omega
  have hz0 : ¬ ((n : Int) = 0) := by omega
  generalize on n a m = res at HG ⊢
  go_enter Try.func39, Try.ntmps39
  go_wp2_with fail
  refine (HS.out _).mono ?_
  rintro e w1 ⟨rfl, hb⟩
  have HB := Lib.hid (kept_trans (al_any w _) hb)
  clear hb
  go_wp2_with fail
  go_quiet (fail)
  go_wp2_with fail
  go_ret
  refine ⟨ret_i64 ?_, kept_trans HB.out (below_drewN _ _ _)⟩
  have hr := HR.out
  have hg := HG.out
  generalize a.tmod (n : Int) = x at *
  generalize m.tmod (n : Int) = y at *
  have q1 : wrap64 (x + y) = x + y := by unfold wrap64; omega
  have q2 : wrap64 (x + y + 2 * (n : Int)) = x + y + 2 * (n : Int) := by unfold wrap64; omega
  rw [q1, q2, hg]
end Grd
end Go.Proofs.Ytoacookbfpcncaa
