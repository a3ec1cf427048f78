/- Steps of a law's walk: the handle of the type error lies behind a call. (Stage 4 on; SixLaws has its own.) -/
import Derived.Test.YtllpmgddcpgegaaDoorKeep
import Derived.Test.YtllpmgddcpgegaaDoorErrAs
namespace Go.Proofs.YtllpmgddcpgegaaDoor
open Go.RowKit
namespace Err
theorem hand_of {a b : World} (hg : Handle a) (h : Below a.heap.size a b) : Handle b := hg.below hg.pos h
theorem hand_alloc {a : World} (hg : Handle a) (o : Obj) : Handle (a.alloc o) := hg.below hg.pos ((Below.refl _ _).alloc (Nat.le_refl _) _)
end Err
end Go.Proofs.YtllpmgddcpgegaaDoor
