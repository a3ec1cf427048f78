/- The handle of the type error behind a call, for tools/walkgen.py's walks. -/
import Derived.Test.YteckncagccfioaaDoorKp
import Derived.Test.YteckncagccfioaaDoorKept
namespace Go.Proofs.YteckncagccfioaaDoor
open Go.RowKit Err
namespace Kp
theorem hg {a b : World} (h : Handle a) (hb : Below a.heap.size a b) : Handle b := hand_of h hb
theorem hg1 {a b : World} {o : Obj} (h : Handle a) (hb : Below (a.alloc o).heap.size (a.alloc o) b) : Handle b := hand_of h (be1 hb)
theorem hg2 {a b : World} {o p : Obj} (h : Handle a) (hb : Below ((a.alloc o).alloc p).heap.size ((a.alloc o).alloc p) b) : Handle b := hand_of h (be2 hb)
theorem hg3 {a b : World} {o p q : Obj} (h : Handle a) (hb : Below (((a.alloc o).alloc p).alloc q).heap.size (((a.alloc o).alloc p).alloc q) b) : Handle b := hand_of h (be3 hb)
end Kp
end Go.Proofs.YteckncagccfioaaDoor
