/- Steps of a law's walk: what lay before lies behind a call (no handle: serves the plain seats too). -/
import Derived.Test.YtllpmgddcpgegaaDoorSixLeaf
namespace Go.Proofs.YtllpmgddcpgegaaDoor
open Go.RowKit
namespace Err
theorem kept_trans {a b c : World} (h : Below a.heap.size a b) (k : Below b.heap.size b c) : Below a.heap.size a c := h.trans (k.mono h.size)
theorem kept_hid {a b c : World} (h : Hid (Below a.heap.size a b)) (k : Below b.heap.size b c) : Hid (Below a.heap.size a c) := kept_trans h k
theorem kept_draw {a b : World} (h : Hid (Below a.heap.size a b)) (m : Nat) : Hid (Below a.heap.size a (b.drewN m)) := kept_trans h (Six.below_drewN _ _ _)
theorem kept_alloc {a b : World} (h : Hid (Below a.heap.size a b)) (o : Obj) : Hid (Below a.heap.size a (b.alloc o)) := kept_trans h ((Below.refl _ _).alloc (Nat.le_refl _) _)
end Err
end Go.Proofs.YtllpmgddcpgegaaDoor
