/- A cursor of package bytes in memory. -/
import Derived.Test.YtllpmgddcpgegaaDoorCutB
import Derived.Test.YtllpmgddcpgegaaDoorCells
import Derived.Test.YtllpmgddcpgegaaDoorErrForm
namespace Go.Proofs.YtllpmgddcpgegaaDoor
open Go.RowKit Sha Cut Err
namespace Byt
/-- Block C holds a cursor over the bytes xs, which lie in block g, at a place, with an error (nil: none). -/
structure Cur (w : World) (C g : Nat) (xs : List Nat) (at_ : Nat) (ev : Value) : Prop where
  hold : ∃ ad cap, w.heap[C]? = some (.cells #[.slice ad xs.length cap, .int .i64 (at_ : Int), ev] 67 (0, 0)) ∧ xs.length ≤ cap ∧ (ad = none → cap = 0) ∧
    (xs = [] ∨ (g ≠ C ∧ ad = some ⟨g, 0, none⟩ ∧ ∀ j, j < xs.length → w.cell? ⟨g, j, none⟩ = some (.int .u8 ((xs.getD j 0 : Nat) : Int))))
  le : at_ ≤ xs.length
  glt : g < w.heap.size
theorem lt_heap {w : World} {b : Nat} {x : Obj} (h : w.heap[b]? = some x) : b < w.heap.size := by
  rcases Nat.lt_or_ge b w.heap.size with h0 | h0
  · exact h0
  · simp [Array.getElem?_eq_none h0] at h
theorem Cur.clt {w : World} {C g at_ : Nat} {xs : List Nat} {ev : Value} (h : Cur w C g xs at_ ev) : C < w.heap.size := by
  obtain ⟨_, _, h, _⟩ := h.hold
  exact lt_heap h
/-- What lies in the cursor's three cells. -/
theorem Cur.cells {w : World} {C g at_ : Nat} {xs : List Nat} {ev : Value} (h : Cur w C g xs at_ ev) :
    ∃ ad cap, w.cell? ⟨C, 0, none⟩ = some (.slice ad xs.length cap) ∧ w.cell? ⟨C, 1, none⟩ = some (.int .i64 (at_ : Int)) ∧ w.cell? ⟨C, 2, none⟩ = some ev ∧
      w.frozen? ⟨C, 1, none⟩ = false ∧ w.frozen? ⟨C, 2, none⟩ = false ∧ BytesIn w (.slice ad xs.length cap) xs ∧ xs.length ≤ cap ∧ (ad = none → cap = 0) := by
  obtain ⟨ad, cap, h, hc, hn, hr⟩ := h.hold
  obtain ⟨c0, c1, c2⟩ := cells3 h
  obtain ⟨_, f1, f2⟩ := free3 h
  refine ⟨ad, cap, c0, c1, c2, f1, f2, ⟨ad, cap, rfl, hc, ?_⟩, hc, hn⟩
  rcases hr with h0 | ⟨_, rfl, hj⟩
  · exact .inl h0
  · exact .inr ⟨g, 0, rfl, fun j h => by rw [Nat.zero_add]; exact hj j h⟩
theorem Cur.other {w w1 : World} {C g at_ r : Nat} {xs : List Nat} {ev : Value} (h : Cur w C g xs at_ ev) (hg : w.grownBy w1 (some r)) (hC : C ≠ r) (hr : g ≠ r) : Cur w1 C g xs at_ ev := by
  have hc := h.clt
  obtain ⟨ad, cap, hh, hl, hn, hx⟩ := h.hold
  refine ⟨⟨ad, cap, (hg.block C hc (by simpa using hC)).trans hh, hl, hn, ?_⟩, h.le, Nat.lt_of_lt_of_le h.glt hg.size⟩
  rcases hx with h0 | ⟨h1, h2, h3⟩
  · exact .inl h0
  · exact .inr ⟨h1, h2, fun j hj => hg.cell (h3 j hj) (by simpa using hr)⟩
theorem Cur.below {w w1 : World} {C g at_ : Nat} {xs : List Nat} {ev : Value} (h : Cur w C g xs at_ ev) (hb : Below w.heap.size w w1) : Cur w1 C g xs at_ ev := by
  have hc := h.clt
  obtain ⟨ad, cap, hh, hl, hn, hx⟩ := h.hold
  refine ⟨⟨ad, cap, (hb.block C hc).trans hh, hl, hn, ?_⟩, h.le, Nat.lt_of_lt_of_le h.glt hb.size⟩
  rcases hx with h0 | ⟨h1, h2, h3⟩
  · exact .inl h0
  · exact .inr ⟨h1, h2, fun j hj => (hb.cell (p := ⟨g, j, none⟩) h.glt).trans (h3 j hj)⟩
theorem Cur.drewN {w : World} {C g at_ : Nat} {xs : List Nat} {ev : Value} (h : Cur w C g xs at_ ev) (m : Nat) : Cur (w.drewN m) C g xs at_ ev := h.below (drewN_below _ _ _)
theorem grown_set (w : World) (C i : Nat) (v : Value) : w.grownBy (w.setCell ⟨C, i, none⟩ v) (some C) := gsetCell w C i v
/-- The cursor's place is set. -/
theorem Cur.moved {w : World} {C g at_ : Nat} {xs : List Nat} {ev : Value} (h : Cur w C g xs at_ ev) (n : Nat) (hn : at_ + n ≤ xs.length) :
    Cur (w.setCell ⟨C, 1, none⟩ (.int .i64 ((at_ : Int) + (n : Int)))) C g xs (at_ + n) ev := by
  obtain ⟨ad, cap, hh, hl, ha, hx⟩ := h.hold
  have hs := heap_setCell_same w C 1 _ 67 (.int .i64 ((at_ : Int) + (n : Int))) hh
  refine ⟨⟨ad, cap, by rw [hs]; rfl, hl, ha, ?_⟩, hn, Nat.lt_of_lt_of_le h.glt (gsetCell w C 1 _).size⟩
  rcases hx with h0 | ⟨h1, h2, h3⟩
  · exact .inl h0
  · exact .inr ⟨h1, h2, fun j hj => (gsetCell w C 1 _).cell (h3 j hj) (by simpa using h1)⟩
/-- The cursor's error is set. -/
theorem Cur.failed {w : World} {C g at_ : Nat} {xs : List Nat} {ev : Value} (h : Cur w C g xs at_ ev) (u : Value) :
    Cur (w.setCell ⟨C, 2, none⟩ u) C g xs at_ u := by
  obtain ⟨ad, cap, hh, hl, ha, hx⟩ := h.hold
  have hs := heap_setCell_same w C 2 _ 67 u hh
  refine ⟨⟨ad, cap, by rw [hs]; rfl, hl, ha, ?_⟩, h.le, Nat.lt_of_lt_of_le h.glt (gsetCell w C 2 _).size⟩
  rcases hx with h0 | ⟨h1, h2, h3⟩
  · exact .inl h0
  · exact .inr ⟨h1, h2, fun j hj => (gsetCell w C 2 _).cell (h3 j hj) (by simpa using h1)⟩
/-- A cursor that is laid into a new block. -/
theorem cur_new {w w1 : World} {v : Value} {xs : List Nat} (hb : Below w.heap.size w w1) (ho : w1.ownsRow w.heap.size 5 1 v xs.length (u8s xs)) :
    ∃ g, w.heap.size ≤ g ∧ Cur (w1.alloc (.cells #[v, .int .i64 0, .nilIface] 67)) w1.heap.size g xs 0 .nilIface := by
  have hn := heap_alloc_new w1 (.cells #[v, .int .i64 0, .nilIface] 67)
  obtain ⟨ad, c, rfl, hnn, hs⟩ := own_spot ho
  obtain ⟨ad', c', hv, hlc, hr⟩ := own_bytes ho
  injection hv with e1 e2 e3
  subst e1 e3
  rcases hr with h0 | ⟨g, off, rfl, hc⟩
  · exact ⟨w1.heap.size, hb.size, ⟨ad, c, hn, hlc, fun h => (hnn h).2, .inl h0⟩, Nat.zero_le _, by simp⟩
  · obtain ⟨h1, h2, h3⟩ := hs _ rfl
    injection h1 with _ e2
    subst e2
    refine ⟨g, h2, ⟨_, c, hn, hlc, nofun, .inr ⟨Nat.ne_of_lt h3, rfl, fun j hj => ?_⟩⟩, Nat.zero_le _, by simp; have : g < w1.heap.size := h3; omega⟩
    have := hc j hj
    rw [Nat.zero_add] at this
    rw [World.cell?_alloc_lt _ _ ⟨g, j, none⟩ h3]
    exact this
/-- An error that a cursor has met. -/
def Met (w : World) (ev : Value) (code : Int) (wh : Nat) : Prop := ∃ b, ev = .iface 78 (.pointer (some ⟨b, 0, none⟩)) ∧ Err.Told w ev code (wh : Int)
theorem Met.told {w : World} {ev : Value} {c : Int} {n : Nat} (h : Met w ev c n) : Err.Told w ev c n := by obtain ⟨_, _, h⟩ := h; exact h
theorem Met.below {w w' : World} {ev : Value} {c : Int} {n : Nat} (h : Met w ev c n) (hb : Below w.heap.size w w') : Met w' ev c n := by
  obtain ⟨b, h1, h2⟩ := h; exact ⟨b, h1, h2.below hb⟩
/-- The cursor meets an error: a new Spot wraps it. -/
theorem Cur.meets {w : World} {C g at_ d : Nat} {xs : List Nat} {ev e : Value} {k : Int} (h : Cur w C g xs at_ ev) (he : Chain w k d e) :
    ∃ u, u = .iface 78 (.pointer (some ⟨w.heap.size, 0, none⟩)) ∧
      Cur ((w.alloc (.cells #[.int .i64 (at_ : Int), e] 81)).setCell ⟨C, 2, none⟩ u) C g xs at_ u ∧
      Met ((w.alloc (.cells #[.int .i64 (at_ : Int), e] 81)).setCell ⟨C, 2, none⟩ u) u k at_ ∧
      w.grownBy ((w.alloc (.cells #[.int .i64 (at_ : Int), e] 81)).setCell ⟨C, 2, none⟩ u) (some C) := by
  have hb : Below w.heap.size w (w.alloc (.cells #[.int .i64 (at_ : Int), e] 81)) := (Below.refl _ _).alloc (Nat.le_refl _) _
  have hn := heap_alloc_new w (.cells #[.int .i64 (at_ : Int), e] 81)
  have hC := h.clt
  have hg := gsetCell (w.alloc (.cells #[.int .i64 (at_ : Int), e] 81)) C 2 (.iface 78 (.pointer (some ⟨w.heap.size, 0, none⟩)))
  obtain ⟨_, _, hc0, _⟩ := (h.below hb).cells
  have k0 : w.heap.size ≠ C := by omega
  have hk : ∀ b o v, w.cell? ⟨b, o, none⟩ = some v → b ≠ C → ((w.alloc (.cells #[.int .i64 (at_ : Int), e] 81)).setCell ⟨C, 2, none⟩ (.iface 78 (.pointer (some ⟨w.heap.size, 0, none⟩)))).cell? ⟨b, o, none⟩ = some v :=
    fun b o v hv hbC => hg.cell ((hb.cell (p := ⟨b, o, none⟩) (block_lt hv)).trans hv) (by simpa using hbC)
  obtain ⟨_, _, hw0, _⟩ := h.cells
  have hch : ∀ (d : Nat) (v : Value), Chain w k d v → Chain ((w.alloc (.cells #[.int .i64 (at_ : Int), e] 81)).setCell ⟨C, 2, none⟩ (.iface 78 (.pointer (some ⟨w.heap.size, 0, none⟩)))) k d v := by
    intro d
    induction d with
    | zero => exact fun _ h => h
    | succ d ih =>
      rintro v ⟨b, n, u, h1, h2, h3, h4⟩
      have hbC : b ≠ C := by rintro rfl; rw [hw0] at h2; cases h2
      exact ⟨b, n, u, h1, hk _ _ _ h2 hbC, hk _ _ _ h3 hbC, ih _ h4⟩
  have s0 := hg.cell (cell_of_row _ _ 0 _ _ _ hn : World.cell? _ ⟨w.heap.size, 0, none⟩ = some (.int .i64 (at_ : Int))) (by simpa using k0)
  have s1 := hg.cell (cell_of_row _ _ 1 _ _ _ hn : World.cell? _ ⟨w.heap.size, 1, none⟩ = some e) (by simpa using k0)
  refine ⟨_, rfl, (h.below hb).failed _, ⟨w.heap.size, rfl, .inr (.inr ⟨d, w.heap.size, rfl, s0, w.heap.size, at_, e, rfl, s0, s1, hch d e he⟩)⟩, ?_⟩
  exact gtrans (gbelow hb (some C)) hg
end Byt
end Go.Proofs.YtllpmgddcpgegaaDoor
