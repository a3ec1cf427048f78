/- '==' of two arrays of two bytes. -/
import Derived.Test.YtdpipjcihnghpaaDoorAddrRef
namespace Go.Proofs.YtdpipjcihnghpaaDoor
open Go.RowKit
namespace Adr
theorem eql_two (a b c d : Int) (w : World) :
    (Op.equalIn 10000 33 (.agg #[.int .u8 a, .int .u8 b]) (.agg #[.int .u8 c, .int .u8 d])).run Tryd.prog w = .ok (a == c && b == d) w := by
  have hs : ((sizeOf 5).run Tryd.prog w) = .ok 1 w := by kernel_rfl
  have hi : ((isAgg 5).run Tryd.prog w) = .ok false w := by kernel_rfl
  have p0 : ∀ x y : Int, (part 5 #[.int .u8 x, .int .u8 y] 0).run Tryd.prog w = .ok (.int .u8 x) w := by
    intro x y
    unfold part
    rw [Sem.run_bind, hi]
    rfl
  have p1 : ∀ x y : Int, (part 5 #[.int .u8 x, .int .u8 y] 1).run Tryd.prog w = .ok (.int .u8 y) w := by
    intro x y
    unfold part
    rw [Sem.run_bind, hi]
    rfl
  rw [show (10000 : Nat) = 9998 + 1 + 1 from rfl]
  unfold Op.equalIn
  simp only [Sem.run_bind, run_underlying Tryd.underlying33, Result.andThen_ok, hs]
  rw [Std.Legacy.Range.forIn_eq_forIn_range']
  have hr : List.range' ([0:2] : Std.Legacy.Range).start ([0:2] : Std.Legacy.Range).size ([0:2] : Std.Legacy.Range).step = [0, 1] := by decide
  rw [hr]
  simp only [List.forIn_cons, List.forIn_nil, Sem.run_bind, Nat.zero_mul, Nat.one_mul, p0, Result.andThen_ok, run_equalIn_int (P := Tryd.prog) w _ _ _ _ _ _ Tryd.underlying5]
  have he : ∀ x y : Int, (Op.equalIn 9999 5 (.int .u8 x) (.int .u8 y)).run Tryd.prog w = .ok (x == y) w := fun x y => run_equalIn_int (P := Tryd.prog) w _ _ _ _ _ _ Tryd.underlying5
  by_cases h1 : a = c
  · by_cases h2 : b = d
    · simp [h1, h2, Result.andThen, p1, he]
    · simp [h1, h2, Result.andThen, p1, he]
  · simp [h1, Result.andThen]
end Adr
end Go.Proofs.YtdpipjcihnghpaaDoor
