/- Two digests that are the same list are equal as Go arrays. -/
import Derived.Test.YtmfecicapaiaeaaShaAwake
namespace Go.Proofs.Ytmfecicapaiaeaa
open Go.RowKit
namespace Sha
theorem forIn_yield {β : Type} (f : Nat → β → Sem (ForInStep β)) (b : β) (w : World) : ∀ (l : List Nat), (∀ i ∈ l, (f i b).run Try.prog w = .ok (.yield b) w) → (forIn l b f : Sem β).run Try.prog w = .ok b w
  | [], _ => by simp
  | i :: l, h => by
    rw [List.forIn_cons, Sem.run_bind, h i (by simp)]
    exact forIn_yield f b w l (fun j hj => h j (by simp [hj]))
theorem eql_refl (d : List Nat) (hd : d.length = 32) (w : World) :
    (Op.equalIn 10000 25 (.agg (u8s d).toArray) (.agg (u8s d).toArray)).run Try.prog w = .ok true w := by
  have hs : ((sizeOf 5).run Try.prog w) = .ok 1 w := by kernel_rfl
  have hi : ((isAgg 5).run Try.prog w) = .ok false w := by kernel_rfl
  rw [show (10000 : Nat) = 9998 + 1 + 1 from rfl]
  unfold Op.equalIn
  simp only [Sem.run_bind, run_underlying Try.underlying25, Result.andThen_ok, hs]
  rw [Std.Legacy.Range.forIn_eq_forIn_range', forIn_yield]
  · simp
  · intro i hi2
    have hlt : i < d.length := by simp [Std.Legacy.Range.size] at hi2; omega
    have hp : (part 5 (u8s d).toArray (i * 1)).run Try.prog w = .ok (.int .u8 ((d.getD i 0 : Nat) : Int)) w := by
      unfold part
      rw [Sem.run_bind, hi]
      simp only [Result.andThen_ok, Bool.false_eq_true, if_false, Nat.mul_one]
      have := u8s_at hlt
      rw [this]; rfl
    simp only [Sem.run_bind, hp, Result.andThen_ok, run_equalIn_int (P := Try.prog) w _ _ _ _ _ _ Try.underlying5]
    simp
end Sha
end Go.Proofs.Ytmfecicapaiaeaa
