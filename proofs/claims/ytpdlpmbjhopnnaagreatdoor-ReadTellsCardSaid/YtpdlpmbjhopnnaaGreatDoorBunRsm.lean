/- OrdAl2 in one text (by tools/bundle.py). -/
import Derived.Test.YtpdlpmbjhopnnaaGreatDoorBunBase
/- Two new blocks. -/
namespace Go.Proofs.YtpdlpmbjhopnnaaGreatDoor
open Go.RowKit Sha Cut Err Six
namespace Ord
theorem al2 (w : World) (x y : Obj) : Below w.heap.size w ((w.alloc x).alloc y) := ((Below.refl _ _).alloc (Nat.le_refl _) _).alloc (by simp) _
end Ord
end Go.Proofs.YtpdlpmbjhopnnaaGreatDoor
