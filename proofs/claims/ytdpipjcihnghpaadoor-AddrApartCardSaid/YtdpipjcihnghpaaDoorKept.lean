/- Steps of a law's walk: what lay before lies behind a call, and the handle of the type error with it. (Stage 4 on; SixLaws has its own.) -/
import Derived.Test.YtdpipjcihnghpaaDoorSixLeaf
namespace Go.Proofs.YtdpipjcihnghpaaDoor
open Go.RowKit
namespace Err
theorem kept_trans {a b c : World} (h : Below a.heap.size a b) (k : Below b.heap.size b c) : Below a.heap.size a c := h.trans (k.mono h.size)
theorem kept_hid {a b c : World} (h : Hid (Below a.heap.size a b)) (k : Below b.heap.size b c) : Hid (Below a.heap.size a c) := kept_trans h k
theorem kept_draw {a b : World} (h : Hid (Below a.heap.size a b)) (m : Nat) : Hid (Below a.heap.size a (b.drewN m)) := kept_trans h (Six.below_drewN _ _ _)
theorem kept_alloc {a b : World} (h : Hid (Below a.heap.size a b)) (o : Obj) : Hid (Below a.heap.size a (b.alloc o)) := kept_trans h ((Below.refl _ _).alloc (Nat.le_refl _) _)
theorem hand_of {a b : World} (hg : Handle a) (h : Below a.heap.size a b) : Handle b := hg.below hg.pos h
theorem hand_alloc {a : World} (hg : Handle a) (o : Obj) : Handle (a.alloc o) := hg.below hg.pos ((Below.refl _ _).alloc (Nat.le_refl _) _)
end Err
end Go.Proofs.YtdpipjcihnghpaaDoor
