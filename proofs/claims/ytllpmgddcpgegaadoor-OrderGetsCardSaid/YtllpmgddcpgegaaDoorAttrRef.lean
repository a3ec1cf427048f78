/- The document's Put of layer 5 returns what the plain functions say. -/
import Derived.Test.YtllpmgddcpgegaaDoorAttrGet
import Derived.Test.YtllpmgddcpgegaaDoorSixRput
namespace Go.Proofs.YtllpmgddcpgegaaDoor
open Go.RowKit Six Err
namespace Att
theorem rputi (n : Int) (w : World) (h0 : 0 ≤ n) (h : n < 64) :
    Calls Tryd.prog 56 #[.int .i64 n] w fun e w' => e = .returned (.int .u8 (put n.toNat : Nat)) ∧ ∃ m, w' = w.drewN m := by
  obtain ⟨k, rfl⟩ := Int.eq_ofNat_of_zero_le h0
  rw [Int.toNat_natCast]
  exact rput_any k w (by omega)
set_option maxHeartbeats 4000000 in
theorem rput5 (p n m : Bool) (s : Int) (w : World) (h0 : 0 ≤ s) (hs : s < 4) :
    Calls Tryd.prog 33 #[.agg #[.bool p, .bool n, .int .i64 s, .bool m]] w fun e w' => e = .returned (.int .u8 (put (num p n m s.toNat) : Nat)) ∧ Below w.heap.size w w' := by
  cases p <;> cases n <;> cases m
  all_goals
    go_enter Tryd.func33, Tryd.ntmps33
    go_wp2_with fail
    refine (rputi _ _ (by omega) (by omega)).mono ?_
    rintro e w1 ⟨rfl, k, rfl⟩
    go_wp2_with fail
    go_ret
    exact ⟨ret_p8 (by unfold num bit; simp; try omega), ((Below.refl _ _).alloc (Nat.le_refl _) _).trans (below_drewN _ _ _)⟩
end Att
end Go.Proofs.YtllpmgddcpgegaaDoor
