/- Steps of a walk that tools/walkgen.py writes: what lay before lies behind a call, blocks that are known whole with it. -/
import Derived.Test.YteckncagccfioaaKeep
import Derived.Test.YteckncagccfioaaCells
namespace Go.Proofs.Yteckncagccfioaa
open Go.RowKit Err
namespace Kp
theorem al {a : World} (o : Obj) : Below a.heap.size a (a.alloc o) := (Below.refl _ _).alloc (Nat.le_refl _) _
theorem be {a b : World} (hb : Below a.heap.size a b) : Hid (Below a.heap.size a b) := hb
theorem be1 {a b : World} {o : Obj} (hb : Below (a.alloc o).heap.size (a.alloc o) b) : Hid (Below a.heap.size a b) := kept_trans (al o) hb
theorem be2 {a b : World} {o p : Obj} (hb : Below ((a.alloc o).alloc p).heap.size ((a.alloc o).alloc p) b) : Hid (Below a.heap.size a b) := kept_trans (kept_trans (al o) (al p)) hb
theorem be3 {a b : World} {o p q : Obj} (hb : Below (((a.alloc o).alloc p).alloc q).heap.size (((a.alloc o).alloc p).alloc q) b) : Hid (Below a.heap.size a b) := kept_trans (kept_trans (kept_trans (al o) (al p)) (al q)) hb
theorem st {w a b : World} (h : Hid (Below w.heap.size w a)) (hb : Below a.heap.size a b) : Hid (Below w.heap.size w b) := kept_trans h hb
theorem st1 {w a b : World} {o : Obj} (h : Hid (Below w.heap.size w a)) (hb : Below (a.alloc o).heap.size (a.alloc o) b) : Hid (Below w.heap.size w b) := kept_trans h (be1 hb)
theorem st2 {w a b : World} {o p : Obj} (h : Hid (Below w.heap.size w a)) (hb : Below ((a.alloc o).alloc p).heap.size ((a.alloc o).alloc p) b) : Hid (Below w.heap.size w b) := kept_trans h (be2 hb)
theorem st3 {w a b : World} {o p q : Obj} (h : Hid (Below w.heap.size w a)) (hb : Below (((a.alloc o).alloc p).alloc q).heap.size (((a.alloc o).alloc p).alloc q) b) : Hid (Below w.heap.size w b) := kept_trans h (be3 hb)
theorem lt {a : World} {B : Nat} {x : Obj} (g : Hid (a.heap[B]? = some x)) : B < a.heap.size := by
  have g' : a.heap[B]? = some x := g
  rcases Nat.lt_or_ge B a.heap.size with h0 | h0
  · exact h0
  · simp [Array.getElem?_eq_none h0] at g'
theorem gk {a b : World} {B : Nat} {x : Obj} (g : Hid (a.heap[B]? = some x)) (hb : Below a.heap.size a b) : Hid (b.heap[B]? = some x) := by
  have g' : a.heap[B]? = some x := g
  have hB : B < a.heap.size := by
    rcases Nat.lt_or_ge B a.heap.size with h0 | h0
    · exact h0
    · simp [Array.getElem?_eq_none h0] at g'
  exact (hb.block B hB).trans g'
theorem gk1 {a b : World} {B : Nat} {x o : Obj} (g : Hid (a.heap[B]? = some x)) (hb : Below (a.alloc o).heap.size (a.alloc o) b) : Hid (b.heap[B]? = some x) := gk g (be1 hb)
theorem gk2 {a b : World} {B : Nat} {x o p : Obj} (g : Hid (a.heap[B]? = some x)) (hb : Below ((a.alloc o).alloc p).heap.size ((a.alloc o).alloc p) b) : Hid (b.heap[B]? = some x) := gk g (be2 hb)
theorem gk3 {a b : World} {B : Nat} {x o p q : Obj} (g : Hid (a.heap[B]? = some x)) (hb : Below (((a.alloc o).alloc p).alloc q).heap.size (((a.alloc o).alloc p).alloc q) b) : Hid (b.heap[B]? = some x) := gk g (be3 hb)
theorem nw (a : World) (o : Obj) : Hid ((a.alloc o).heap[a.heap.size]? = some o) := heap_alloc_new a o
theorem gn1a {a b : World} {o : Obj} (hb : Below (a.alloc o).heap.size (a.alloc o) b) : Hid (b.heap[a.heap.size]? = some o) := gk (nw a o) hb
theorem gn2a {a b : World} {o p : Obj} (hb : Below ((a.alloc o).alloc p).heap.size ((a.alloc o).alloc p) b) : Hid (b.heap[a.heap.size]? = some o) := gk1 (nw a o) hb
theorem gn2b {a b : World} {o p : Obj} (hb : Below ((a.alloc o).alloc p).heap.size ((a.alloc o).alloc p) b) : Hid (b.heap[a.heap.size + 1]? = some p) := by
  have h := gk (nw (a.alloc o) p) hb
  rwa [World.size_alloc] at h
theorem gn3a {a b : World} {o p q : Obj} (hb : Below (((a.alloc o).alloc p).alloc q).heap.size (((a.alloc o).alloc p).alloc q) b) : Hid (b.heap[a.heap.size]? = some o) := gk2 (nw a o) hb
theorem gn3b {a b : World} {o p q : Obj} (hb : Below (((a.alloc o).alloc p).alloc q).heap.size (((a.alloc o).alloc p).alloc q) b) : Hid (b.heap[a.heap.size + 1]? = some p) := by
  have h := gk1 (nw (a.alloc o) p) hb
  rwa [World.size_alloc] at h
theorem gn3c {a b : World} {o p q : Obj} (hb : Below (((a.alloc o).alloc p).alloc q).heap.size (((a.alloc o).alloc p).alloc q) b) : Hid (b.heap[a.heap.size + 2]? = some q) := by
  have h := gk (nw ((a.alloc o).alloc p) q) hb
  rwa [World.size_alloc, World.size_alloc] at h
end Kp
end Go.Proofs.Yteckncagccfioaa
