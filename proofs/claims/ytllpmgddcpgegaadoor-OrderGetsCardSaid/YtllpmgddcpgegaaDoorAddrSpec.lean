/- Plain: what two bytes are as an address. -/
import Derived.Test.YtllpmgddcpgegaaDoorSixSpec
namespace Go.Proofs.YtllpmgddcpgegaaDoor
namespace Adr
open Six
/-- The address, what is wrong (0: nothing), where (-1: at no place). -/
def aspec (ys : List Nat) (n : Int) : Nat × Nat × Int :=
  if n < 1 ∨ 16383 < n then (0, 1, -1)
  else if ys.length < 2 then (0, 2, -1)
  else if n ≤ 4096 then
    if isGraphic (ys.getD 0 0) = false then (0, 3, 0)
    else if isGraphic (ys.getD 1 0) = false then (0, 3, 1)
    else if n ≤ ((64 * (ys.getD 0 0 % 64) + ys.getD 1 0 % 64 : Nat) : Int) then (0, 4, -1)
    else (64 * (ys.getD 0 0 % 64) + ys.getD 1 0 % 64, 0, -1)
  else if 64 ≤ ys.getD 0 0 then (0, 3, 0)
  else if n ≤ ((256 * ys.getD 0 0 + ys.getD 1 0 : Nat) : Int) then (0, 4, -1)
  else (256 * ys.getD 0 0 + ys.getD 1 0, 0, -1)
end Adr
end Go.Proofs.YtllpmgddcpgegaaDoor
