/- Bytes of a frame's number. Written by tools/gen_frm_ref.py. -/
import Derived.Test.YtdiidfkmmgcjmaaDoorFrmSpec
import Derived.Test.YtdiidfkmmgcjmaaDoorBunBase
import Derived.Deep.Cut
import Derived.Deep.LoopGhost
import Derived.Deep.RegionHeld3
import Derived.IntWalk
namespace Go.Proofs.YtdiidfkmmgcjmaaDoor
open Go.RowKit Sha Six Apd Cut Err
set_option linter.unusedVariables false
namespace Frm
theorem be8_at (n : Nat) : ∀ k, k < 8 → (be8 n).getD (7 - k) 0 = n / 2 ^ (8 * k) % 256
  | 0, _ => by simp [be8] | 1, _ => rfl | 2, _ => rfl | 3, _ => rfl | 4, _ => rfl | 5, _ => rfl | 6, _ => rfl | 7, _ => rfl
  | k + 8, h => by omega
theorem be8_take (n : Nat) {k : Nat} (hk : k < 8) : (be8 n).take (8 - k) = (be8 n).take (8 - (k + 1)) ++ [n / 2 ^ (8 * k) % 256] := by
  have h : 8 - (k + 1) < (be8 n).length := by rw [be8_len]; omega
  have e : 8 - k = (8 - (k + 1)) + 1 := by omega
  rw [e, List.take_add_one, List.getElem?_eq_getElem h]
  have h2 := be8_at n k hk
  rw [show 7 - k = 8 - (k + 1) by omega, List.getD_eq_getElem?_getD, List.getElem?_eq_getElem h] at h2
  simp only [Option.getD_some] at h2
  rw [h2]
  rfl
end Frm
end Go.Proofs.YtdiidfkmmgcjmaaDoor
