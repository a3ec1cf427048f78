/- BytCur, BytGrow, BytLeaf, BytStep, BytByte, BytChars in one text (by tools/bundle.py). -/
import Derived.Test.YtpdlpmbjhopnnaaGreatDoorBunBase
import Derived.Test.YtpdlpmbjhopnnaaGreatDoorBunLow
import Derived.Deep.RegionHeld3
import Derived.Deep.LoopGhost
/- A cursor of package bytes in memory. -/
namespace Go.Proofs.YtpdlpmbjhopnnaaGreatDoor
open Go.RowKit Sha Cut Err
namespace Byt
/-- Block C holds a cursor over the bytes xs, which lie in block g, at a place, with an error (nil: none). -/
structure Cur (w : World) (C g : Nat) (xs : List Nat) (at_ : Nat) (ev : Value) : Prop where
  hold : ∃ ad cap, w.heap[C]? = some (.cells #[.slice ad xs.length cap, .int .i64 (at_ : Int), ev] 131 (0, 0)) ∧ xs.length ≤ cap ∧ (ad = none → cap = 0) ∧
    (xs = [] ∨ (g ≠ C ∧ ad = some ⟨g, 0, none⟩ ∧ ∀ j, j < xs.length → w.cell? ⟨g, j, none⟩ = some (.int .u8 ((xs.getD j 0 : Nat) : Int))))
  le : at_ ≤ xs.length
  glt : g < w.heap.size
theorem Cur.clt {w : World} {C g at_ : Nat} {xs : List Nat} {ev : Value} (h : Cur w C g xs at_ ev) : C < w.heap.size := by
  obtain ⟨_, _, h, _⟩ := h.hold
  exact lt_heap h
/-- What lies in the cursor's three cells. -/
theorem Cur.cells {w : World} {C g at_ : Nat} {xs : List Nat} {ev : Value} (h : Cur w C g xs at_ ev) :
    ∃ ad cap, w.cell? ⟨C, 0, none⟩ = some (.slice ad xs.length cap) ∧ w.cell? ⟨C, 1, none⟩ = some (.int .i64 (at_ : Int)) ∧ w.cell? ⟨C, 2, none⟩ = some ev ∧
      w.frozen? ⟨C, 1, none⟩ = false ∧ w.frozen? ⟨C, 2, none⟩ = false ∧ BytesIn w (.slice ad xs.length cap) xs ∧ xs.length ≤ cap ∧ (ad = none → cap = 0) := by
  obtain ⟨ad, cap, h, hc, hn, hr⟩ := h.hold
  obtain ⟨c0, c1, c2⟩ := cells3 h
  obtain ⟨_, f1, f2⟩ := free3 h
  refine ⟨ad, cap, c0, c1, c2, f1, f2, ⟨ad, cap, rfl, hc, ?_⟩, hc, hn⟩
  rcases hr with h0 | ⟨_, rfl, hj⟩
  · exact .inl h0
  · exact .inr ⟨g, 0, rfl, fun j h => by rw [Nat.zero_add]; exact hj j h⟩
theorem Cur.other {w w1 : World} {C g at_ r : Nat} {xs : List Nat} {ev : Value} (h : Cur w C g xs at_ ev) (hg : w.grownBy w1 (some r)) (hC : C ≠ r) (hr : g ≠ r) : Cur w1 C g xs at_ ev := by
  have hc := h.clt
  obtain ⟨ad, cap, hh, hl, hn, hx⟩ := h.hold
  refine ⟨⟨ad, cap, (hg.block C hc (by simpa using hC)).trans hh, hl, hn, ?_⟩, h.le, Nat.lt_of_lt_of_le h.glt hg.size⟩
  rcases hx with h0 | ⟨h1, h2, h3⟩
  · exact .inl h0
  · exact .inr ⟨h1, h2, fun j hj => hg.cell (h3 j hj) (by simpa using hr)⟩
theorem Cur.below {w w1 : World} {C g at_ : Nat} {xs : List Nat} {ev : Value} (h : Cur w C g xs at_ ev) (hb : Below w.heap.size w w1) : Cur w1 C g xs at_ ev := by
  have hc := h.clt
  obtain ⟨ad, cap, hh, hl, hn, hx⟩ := h.hold
  refine ⟨⟨ad, cap, (hb.block C hc).trans hh, hl, hn, ?_⟩, h.le, Nat.lt_of_lt_of_le h.glt hb.size⟩
  rcases hx with h0 | ⟨h1, h2, h3⟩
  · exact .inl h0
  · exact .inr ⟨h1, h2, fun j hj => (hb.cell (p := ⟨g, j, none⟩) h.glt).trans (h3 j hj)⟩
theorem Cur.drewN {w : World} {C g at_ : Nat} {xs : List Nat} {ev : Value} (h : Cur w C g xs at_ ev) (m : Nat) : Cur (w.drewN m) C g xs at_ ev := h.below (drewN_below _ _ _)
theorem grown_set (w : World) (C i : Nat) (v : Value) : w.grownBy (w.setCell ⟨C, i, none⟩ v) (some C) := gsetCell w C i v
/-- The cursor's place is set. -/
theorem Cur.moved {w : World} {C g at_ : Nat} {xs : List Nat} {ev : Value} (h : Cur w C g xs at_ ev) (n : Nat) (hn : at_ + n ≤ xs.length) :
    Cur (w.setCell ⟨C, 1, none⟩ (.int .i64 ((at_ : Int) + (n : Int)))) C g xs (at_ + n) ev := by
  obtain ⟨ad, cap, hh, hl, ha, hx⟩ := h.hold
  have hs := heap_setCell_same w C 1 _ 131 (.int .i64 ((at_ : Int) + (n : Int))) hh
  refine ⟨⟨ad, cap, by rw [hs]; rfl, hl, ha, ?_⟩, hn, Nat.lt_of_lt_of_le h.glt (gsetCell w C 1 _).size⟩
  rcases hx with h0 | ⟨h1, h2, h3⟩
  · exact .inl h0
  · exact .inr ⟨h1, h2, fun j hj => (gsetCell w C 1 _).cell (h3 j hj) (by simpa using h1)⟩
/-- The cursor's error is set. -/
theorem Cur.failed {w : World} {C g at_ : Nat} {xs : List Nat} {ev : Value} (h : Cur w C g xs at_ ev) (u : Value) :
    Cur (w.setCell ⟨C, 2, none⟩ u) C g xs at_ u := by
  obtain ⟨ad, cap, hh, hl, ha, hx⟩ := h.hold
  have hs := heap_setCell_same w C 2 _ 131 u hh
  refine ⟨⟨ad, cap, by rw [hs]; rfl, hl, ha, ?_⟩, h.le, Nat.lt_of_lt_of_le h.glt (gsetCell w C 2 _).size⟩
  rcases hx with h0 | ⟨h1, h2, h3⟩
  · exact .inl h0
  · exact .inr ⟨h1, h2, fun j hj => (gsetCell w C 2 _).cell (h3 j hj) (by simpa using h1)⟩
/-- A cursor that is laid into a new block. -/
theorem cur_new {w w1 : World} {v : Value} {xs : List Nat} (hb : Below w.heap.size w w1) (ho : w1.ownsRow w.heap.size 5 1 v xs.length (u8s xs)) :
    ∃ g, w.heap.size ≤ g ∧ Cur (w1.alloc (.cells #[v, .int .i64 0, .nilIface] 131)) w1.heap.size g xs 0 .nilIface := by
  have hn := heap_alloc_new w1 (.cells #[v, .int .i64 0, .nilIface] 131)
  obtain ⟨ad, c, rfl, hnn, hs⟩ := own_spot ho
  obtain ⟨ad', c', hv, hlc, hr⟩ := own_bytes ho
  injection hv with e1 e2 e3
  subst e1 e3
  rcases hr with h0 | ⟨g, off, rfl, hc⟩
  · exact ⟨w1.heap.size, hb.size, ⟨ad, c, hn, hlc, fun h => (hnn h).2, .inl h0⟩, Nat.zero_le _, by simp⟩
  · obtain ⟨h1, h2, h3⟩ := hs _ rfl
    injection h1 with _ e2
    subst e2
    refine ⟨g, h2, ⟨_, c, hn, hlc, nofun, .inr ⟨Nat.ne_of_lt h3, rfl, fun j hj => ?_⟩⟩, Nat.zero_le _, by simp; have : g < w1.heap.size := h3; omega⟩
    have := hc j hj
    rw [Nat.zero_add] at this
    rw [World.cell?_alloc_lt _ _ ⟨g, j, none⟩ h3]
    exact this
/-- An error that a cursor has met. -/
def Met (w : World) (ev : Value) (code : Int) (wh : Nat) : Prop := ∃ b, ev = .iface 84 (.pointer (some ⟨b, 0, none⟩)) ∧ Err.Told w ev code (wh : Int)
theorem Met.told {w : World} {ev : Value} {c : Int} {n : Nat} (h : Met w ev c n) : Err.Told w ev c n := by obtain ⟨_, _, h⟩ := h; exact h
theorem Met.below {w w' : World} {ev : Value} {c : Int} {n : Nat} (h : Met w ev c n) (hb : Below w.heap.size w w') : Met w' ev c n := by
  obtain ⟨b, h1, h2⟩ := h; exact ⟨b, h1, h2.below hb⟩
/-- The cursor meets an error: a new Spot wraps it. -/
theorem Cur.meets {w : World} {C g at_ d : Nat} {xs : List Nat} {ev e : Value} {k : Int} (h : Cur w C g xs at_ ev) (he : Chain w k d e) :
    ∃ u, u = .iface 84 (.pointer (some ⟨w.heap.size, 0, none⟩)) ∧
      Cur ((w.alloc (.cells #[.int .i64 (at_ : Int), e] 86)).setCell ⟨C, 2, none⟩ u) C g xs at_ u ∧
      Met ((w.alloc (.cells #[.int .i64 (at_ : Int), e] 86)).setCell ⟨C, 2, none⟩ u) u k at_ ∧
      w.grownBy ((w.alloc (.cells #[.int .i64 (at_ : Int), e] 86)).setCell ⟨C, 2, none⟩ u) (some C) := by
  have hb : Below w.heap.size w (w.alloc (.cells #[.int .i64 (at_ : Int), e] 86)) := (Below.refl _ _).alloc (Nat.le_refl _) _
  have hn := heap_alloc_new w (.cells #[.int .i64 (at_ : Int), e] 86)
  have hC := h.clt
  have hg := gsetCell (w.alloc (.cells #[.int .i64 (at_ : Int), e] 86)) C 2 (.iface 84 (.pointer (some ⟨w.heap.size, 0, none⟩)))
  obtain ⟨_, _, hc0, _⟩ := (h.below hb).cells
  have k0 : w.heap.size ≠ C := by omega
  have hk : ∀ b o v, w.cell? ⟨b, o, none⟩ = some v → b ≠ C → ((w.alloc (.cells #[.int .i64 (at_ : Int), e] 86)).setCell ⟨C, 2, none⟩ (.iface 84 (.pointer (some ⟨w.heap.size, 0, none⟩)))).cell? ⟨b, o, none⟩ = some v :=
    fun b o v hv hbC => hg.cell ((hb.cell (p := ⟨b, o, none⟩) (block_lt hv)).trans hv) (by simpa using hbC)
  obtain ⟨_, _, hw0, _⟩ := h.cells
  have hch : ∀ (d : Nat) (v : Value), Chain w k d v → Chain ((w.alloc (.cells #[.int .i64 (at_ : Int), e] 86)).setCell ⟨C, 2, none⟩ (.iface 84 (.pointer (some ⟨w.heap.size, 0, none⟩)))) k d v := by
    intro d
    induction d with
    | zero => exact fun _ h => h
    | succ d ih =>
      rintro v ⟨b, n, u, h1, h2, h3, h4⟩
      have hbC : b ≠ C := by rintro rfl; rw [hw0] at h2; cases h2
      exact ⟨b, n, u, h1, hk _ _ _ h2 hbC, hk _ _ _ h3 hbC, ih _ h4⟩
  have s0 := hg.cell (cell_of_row _ _ 0 _ _ _ hn : World.cell? _ ⟨w.heap.size, 0, none⟩ = some (.int .i64 (at_ : Int))) (by simpa using k0)
  have s1 := hg.cell (cell_of_row _ _ 1 _ _ _ hn : World.cell? _ ⟨w.heap.size, 1, none⟩ = some e) (by simpa using k0)
  refine ⟨_, rfl, (h.below hb).failed _, ⟨w.heap.size, rfl, .inr (.inr ⟨d, w.heap.size, rfl, s0, w.heap.size, at_, e, rfl, s0, s1, hch d e he⟩)⟩, ?_⟩
  exact gtrans (gbelow hb (some C)) hg
end Byt
end Go.Proofs.YtpdlpmbjhopnnaaGreatDoor
/- A cursor, and what it met, behind stores into a block of the call's own. -/
namespace Go.Proofs.YtpdlpmbjhopnnaaGreatDoor
open Go.RowKit Sha Cut Err
namespace Err
theorem Chain.iface {w : World} {k : Int} {d : Nat} {v : Value} (h : Chain w k d v) : ∃ t x, v = .iface t x := by
  rcases h.form with ⟨_, rfl⟩ | ⟨b, rfl⟩
  · exact ⟨_, _, rfl⟩
  · exact ⟨_, _, rfl⟩
theorem Chain.other {w w' : World} {k : Int} {B : Nat} (hg : w.grownBy w' (some B)) (hB : ∀ t x, w.cell? ⟨B, 1, none⟩ ≠ some (.iface t x)) : ∀ {d : Nat} {v : Value}, Chain w k d v → Chain w' k d v
  | 0, _, h => h
  | _ + 1, _, ⟨b, n, u, h1, h2, h3, h4⟩ => by
    have hb : b ≠ B := by
      rintro rfl
      obtain ⟨t, x, rfl⟩ := h4.iface
      exact hB _ _ h3
    exact ⟨b, n, u, h1, hg.cell h2 (by simpa using hb), hg.cell h3 (by simpa using hb), Chain.other hg hB h4⟩
theorem Told.other {w w' : World} {ev : Value} {c n : Int} {B : Nat} (h : Told w ev c n) (hg : w.grownBy w' (some B)) (hB : ∀ t x, w.cell? ⟨B, 1, none⟩ ≠ some (.iface t x)) : Told w' ev c n := by
  rcases h with h | h | ⟨d, b, rfl, h2, h3⟩
  · exact .inl h
  · exact .inr (.inl h)
  · have hb : b ≠ B := by
      rintro rfl
      obtain ⟨b', n', u, h4, h5, h6, h7⟩ := h3
      injection h4 with _ h4
      injection h4 with h4
      injection h4 with h4
      injection h4 with h4
      subst h4
      obtain ⟨t, x, rfl⟩ := h7.iface
      exact hB _ _ h6
    exact .inr (.inr ⟨d, b, rfl, hg.cell h2 (by simpa using hb), Chain.other hg hB h3⟩)
end Err
namespace Byt
theorem Met.other {w w' : World} {ev : Value} {c : Int} {n B : Nat} (h : Met w ev c n) (hg : w.grownBy w' (some B)) (hB : ∀ t x, w.cell? ⟨B, 1, none⟩ ≠ some (.iface t x)) : Met w' ev c n := by
  obtain ⟨b, h1, h2⟩ := h
  exact ⟨b, h1, h2.other hg hB⟩
/-- Four cells of a block of the call's own, stored one behind the other. -/
theorem set4g {w a : World} {B : Nat} {r : Option Nat} {t : TypeId} {a0 a1 a2 a3 : Value} (u0 u1 u2 u3 : Value) (h : a.heap[B]? = some (.cells #[a0, a1, a2, a3] t (0, 0))) (hg : w.grownBy a r) (hB : w.heap.size ≤ B) :
    ((((a.setCell ⟨B, 0, none⟩ u0).setCell ⟨B, 1, none⟩ u1).setCell ⟨B, 2, none⟩ u2).setCell ⟨B, 3, none⟩ u3).heap[B]? = some (.cells #[u0, u1, u2, u3] t (0, 0)) ∧
    a.grownBy ((((a.setCell ⟨B, 0, none⟩ u0).setCell ⟨B, 1, none⟩ u1).setCell ⟨B, 2, none⟩ u2).setCell ⟨B, 3, none⟩ u3) (some B) ∧
    w.grownBy ((((a.setCell ⟨B, 0, none⟩ u0).setCell ⟨B, 1, none⟩ u1).setCell ⟨B, 2, none⟩ u2).setCell ⟨B, 3, none⟩ u3) r := by
  have h := heap_setCell_same _ B 0 _ t u0 h
  have h := heap_setCell_same _ B 1 _ t u1 h
  have h := heap_setCell_same _ B 2 _ t u2 h
  have h := heap_setCell_same _ B 3 _ t u3 h
  have hs : a.grownBy ((((a.setCell ⟨B, 0, none⟩ u0).setCell ⟨B, 1, none⟩ u1).setCell ⟨B, 2, none⟩ u2).setCell ⟨B, 3, none⟩ u3) (some B) :=
    gtrans (gsetCell _ _ _ _) (gtrans (gsetCell _ _ _ _) (gtrans (gsetCell _ _ _ _) (gsetCell _ _ _ _)))
  exact ⟨h, hs, gnew hg hs hB⟩
end Byt
end Go.Proofs.YtpdlpmbjhopnnaaGreatDoor
/- The small functions of package bytes. -/
namespace Go.Proofs.YtpdlpmbjhopnnaaGreatDoor
open Go.RowKit Sha Cut Err Six Apd
namespace Byt
theorem new_any (ad : Option Addr) (len cap : Nat) (xs : List Nat) (w : World) (hB : BytesIn w (.slice ad len cap) xs) (hn : ad = none → len = 0 ∧ cap = 0) (hl : xs.length < 1000000000) :
    Calls Tryz.prog 41 #[.slice ad len cap] w fun e w' => ∃ C g, e = .returned (.pointer (some ⟨C, 0, none⟩)) ∧ Cur w' C g xs 0 .nilIface ∧ w.heap.size ≤ C ∧ w.heap.size ≤ g ∧ Below w.heap.size w w' := by
  have HC := Lib.hid (clone_any ad len cap xs w hB hn hl)
  clear hB hn hl
  go_enter Tryz.func41, Tryz.ntmps41
  go_wp2_with fail
  refine HC.out.mono ?_
  rintro e w1 ⟨v, rfl, ho, hb⟩
  obtain ⟨g, hg, hc⟩ := cur_new hb ho
  have HG := Lib.hid hg
  have HU := Lib.hid hc
  have HB := Lib.hid hb
  clear hb hc hg
  obtain ⟨va, vc, rfl⟩ := own_form ho
  clear ho HC
  go_wp2_with fail
  go_ret
  exact ⟨_, g, rfl, HU.out, HB.out.size, HG.out, HB.out.alloc HB.out.size _⟩
theorem err_any {C g at_ : Nat} {xs : List Nat} {ev : Value} (w : World) (h : Cur w C g xs at_ ev) :
    Calls Tryz.prog 43 #[.pointer (some ⟨C, 0, none⟩)] w fun e w' => e = .returned ev ∧ w = w' := by
  obtain ⟨ad, cap, c0, c1, c2, _⟩ := h.cells
  clear h
  go_enter Tryz.func43, Tryz.ntmps43
  go_wp2
  go_ret
  exact ⟨rfl, rfl⟩
theorem left_any {C g at_ : Nat} {xs : List Nat} {ev : Value} (w : World) (h : Cur w C g xs at_ ev) (hl : xs.length < 1000000000) :
    Calls Tryz.prog 81 #[.pointer (some ⟨C, 0, none⟩)] w fun e w' => e = .returned (.int .i64 ((xs.length - at_ : Nat) : Int)) ∧ ∃ m, w' = w.drewN m := by
  obtain ⟨ad, cap, c0, c1, c2, _⟩ := h.cells
  have hle := h.le
  have HE := Lib.hid (show ((xs.length : Int) - (at_ : Int)) = ((xs.length - at_ : Nat) : Int) by omega)
  clear h
  go_enter Tryz.func81, Tryz.ntmps81
  go_wp2_with fail
  go_quiet (fail)
  go_wp2_with fail
  go_ret
  refine ⟨?_, _, rfl⟩
  rw [← HE.out]; rfl
theorem left_b {C g at_ : Nat} {xs : List Nat} {ev : Value} (w : World) (h : Cur w C g xs at_ ev) (hl : xs.length < 1000000000) :
    Calls Tryz.prog 81 #[.pointer (some ⟨C, 0, none⟩)] w fun e w' => e = .returned (.int .i64 ((xs.length - at_ : Nat) : Int)) ∧ Below w.heap.size w w' :=
  (left_any w h hl).mono fun _ _ ⟨he, m, hw⟩ => ⟨he, by rw [hw]; exact drewN_below _ _ _⟩
theorem next_ok {C g at_ : Nat} {xs : List Nat} (w : World) (h : Cur w C g xs at_ .nilIface) :
    Calls Tryz.prog 125 #[.pointer (some ⟨C, 0, none⟩)] w fun e w' => ∃ ad cap, e = .returned (.slice ad (xs.length - at_) cap) ∧ BytesIn w (.slice ad (xs.length - at_) cap) (xs.drop at_) ∧ ∃ m, w' = w.drewN m := by
  obtain ⟨ad, cap, c0, c1, c2, _, _, hB, _⟩ := h.cells
  have hS := run_l ad xs.length cap at_ h.le
  have HB := Lib.hid (bytes_l hB h.le)
  clear h hB
  go_enter Tryz.func125, Tryz.ntmps125
  go_wp2_with fail
  go_quiet (fail)
  go_wp2_with fail
  go_ret
  exact ⟨_, _, rfl, HB.out, _, rfl⟩
theorem next_met {C g at_ b : Nat} {xs : List Nat} (w : World) (h : Cur w C g xs at_ (.iface 84 (.pointer (some ⟨b, 0, none⟩)))) :
    Calls Tryz.prog 125 #[.pointer (some ⟨C, 0, none⟩)] w fun e w' => e = .returned (.slice none 0 0) ∧ w = w' := by
  obtain ⟨ad, cap, c0, c1, c2, _⟩ := h.cells
  clear h
  go_enter Tryz.func125, Tryz.ntmps125
  go_wp2_with fail
  go_ret
  exact ⟨rfl, rfl⟩
/-- A cursor that has met an error meets no other. -/
theorem fail_met {C g at_ b : Nat} {xs : List Nat} (u : Value) (w : World) (h : Cur w C g xs at_ (.iface 84 (.pointer (some ⟨b, 0, none⟩)))) :
    Calls Tryz.prog 82 #[.pointer (some ⟨C, 0, none⟩), u] w fun e w' => e = .returned (.tuple #[]) ∧ w = w' := by
  obtain ⟨ad, cap, c0, c1, c2, _⟩ := h.cells
  clear h
  go_enter Tryz.func82, Tryz.ntmps82
  go_wp2_with fail
  exact bodyPost_ret (results_none rfl _ _ _) rfl ⟨rfl, rfl⟩
theorem fail_nil {C g at_ : Nat} {xs : List Nat} (w : World) (h : Cur w C g xs at_ .nilIface) :
    Calls Tryz.prog 82 #[.pointer (some ⟨C, 0, none⟩), .nilIface] w fun e w' => e = .returned (.tuple #[]) ∧ w = w' := by
  obtain ⟨ad, cap, c0, c1, c2, _⟩ := h.cells
  clear h
  go_enter Tryz.func82, Tryz.ntmps82
  go_wp2_with fail
  exact bodyPost_ret (results_none rfl _ _ _) rfl ⟨rfl, rfl⟩
theorem fail_new {C g at_ d : Nat} {xs : List Nat} (u : Value) (k : Int) (w : World) (h : Cur w C g xs at_ .nilIface) (hc : Chain w k d u) :
    Calls Tryz.prog 82 #[.pointer (some ⟨C, 0, none⟩), u] w fun e w' => e = .returned (.tuple #[]) ∧ ∃ ev, Cur w' C g xs at_ ev ∧ Met w' ev k at_ ∧ w.grownBy w' (some C) := by
  obtain ⟨ev, hev, hr⟩ := h.meets hc
  have HR := Lib.hid hr
  obtain ⟨ad, cap, c0, c1, c2, f1, f2, _⟩ := h.cells
  have hC := h.clt
  clear h hr
  rcases hc.form with ⟨_, rfl⟩ | ⟨b, rfl⟩
  · clear hc
    go_enter Tryz.func82, Tryz.ntmps82
    go_wp2_with fail
    go_end0
    rw [hev, World.setCell_alloc_past _ _ _ _ hC] at HR
    exact ⟨rfl, _, HR.out⟩
  · clear hc
    go_enter Tryz.func82, Tryz.ntmps82
    go_wp2_with fail
    go_end0
    rw [hev, World.setCell_alloc_past _ _ _ _ hC] at HR
    exact ⟨rfl, _, HR.out⟩
end Byt
end Go.Proofs.YtpdlpmbjhopnnaaGreatDoor
/- step, Take, Peek and Byte of a cursor. -/
namespace Go.Proofs.YtpdlpmbjhopnnaaGreatDoor
open Go.RowKit Sha Cut Err Six Apd
namespace Byt
theorem step_zero (C : Nat) (w : World) :
    Calls Tryz.prog 144 #[.pointer (some ⟨C, 0, none⟩), .int .i64 0] w fun e w' => e = .returned (.slice none 0 0) ∧ w = w' := by
  go_enter Tryz.func144, Tryz.ntmps144
  go_wp2
  go_ret
  exact ⟨rfl, rfl⟩
theorem step_held {w1 w' : World} {C : Nat} {a b : Value} (h0 : w1.cell? ⟨C, 0, none⟩ = some a) (h1 : w1.cell? ⟨C, 1, none⟩ = some b) (h : Below w1.heap.size w1 w') :
    Below w1.heap.size w1 w' ∧ w'.cell? ⟨C, 0, none⟩ = some a ∧ w'.cell? ⟨C, 1, none⟩ = some b :=
  ⟨h, (h.cell (p := ⟨C, 0, none⟩) (block_lt h0)).trans h0, (h.cell (p := ⟨C, 1, none⟩) (block_lt h1)).trans h1⟩
set_option maxHeartbeats 2000000 in
theorem step_some {C g at_ : Nat} {xs : List Nat} (n : Nat) (w : World) (h : Cur w C g xs at_ .nilIface) (hn : 0 < n) (hl : at_ + n ≤ xs.length) (hx : xs.length < 1000000000) :
    Calls Tryz.prog 144 #[.pointer (some ⟨C, 0, none⟩), .int .i64 (n : Int)] w fun e w' => ∃ v, e = .returned v ∧ w'.ownsRow w.heap.size 5 1 v n (u8s ((xs.drop at_).take n)) ∧ Cur w' C g xs (at_ + n) .nilIface ∧ w.grownBy w' (some C) := by
  obtain ⟨ad, cap, c0, c1, c2, f1, _, hB, hlc, hna⟩ := h.cells
  have hS := run_lh ad xs.length cap at_ n (by omega)
  have hC := h.clt
  have HU := Lib.hid h
  have HC0 := Lib.hid c0
  have HC1 := Lib.hid c1
  have HN := Lib.hid (show cutA ad at_ cap = none → n = 0 ∧ cap - at_ = 0 from fun hh => by have := hna (cutA_none hh); omega)
  have HLen := Lib.hid (show ((xs.drop at_).take n).length = n by rw [List.length_take, List.length_drop]; omega)
  have HB := Lib.hid (bytes_lh hB hl)
  have HX := Lib.hid hx
  have HL := Lib.hid hl
  have e0 : ((n : Int) == 0) = false := by simp; omega
  have ew : IntKind.i64.wrap ((at_ : Int) + (n : Int)) = (at_ : Int) + (n : Int) := by rw [IntWalk.i64_in] <;> omega
  clear h hB hna hx
  go_enter Tryz.func144, Tryz.ntmps144
  go_wp2_with fail
  go_region_held3 (fun w' => Below w.heap.size w w' ∧ w'.cell? ⟨C, 0, none⟩ = some (.slice ad xs.length cap) ∧ w'.cell? ⟨C, 1, none⟩ = some (.int .i64 (at_ : Int)))
    (first | exact step_held HC0.out HC1.out (Below.refl _ _).drew | exact step_held HC0.out HC1.out (Below.refl _ _) | exact step_held HC0.out HC1.out (kept_trans (And.left (by assumption)) hb))
    ((go_at_call 76; have hS := And.left (by assumption : Below w.heap.size w _ ∧ _); refine (clone_any _ _ _ _ _ (bytes_below HB.out hS) HN.out (by rw [HLen.out]; have := HL.out; have := HX.out; omega)).mono ?_; rintro e wb ⟨v, rfl, ho, hb⟩; rw [HLen.out] at ho))
  have hS2 := (by assumption : Below w.heap.size w _ ∧ _)
  obtain ⟨hW, d0, d1⟩ := hS2
  have hg1 := (hW.frozen (p := ⟨C, 1, none⟩) hC).trans f1
  have HO := Lib.hid (show wb.ownsRow w.heap.size 5 1 v n (u8s ((xs.drop at_).take n)) from ho)
  have HW := Lib.hid hW
  have HU2 := Lib.hid ((HU.out.below hW).moved n HL.out)
  clear hW ho hb hS HU
  obtain ⟨va, vc, rfl⟩ := own_form HO.out
  go_wp2_with fail
  go_ret
  exact ⟨_, rfl, own_other HO.out (gsetCell _ _ _ _) hC, HU2.out, gtrans (gbelow HW.out _) (gsetCell _ _ _ _)⟩
/-- What is taken: new memory; the place moves on. -/
theorem step_any {C g at_ : Nat} {xs : List Nat} (n : Nat) (w : World) (h : Cur w C g xs at_ .nilIface) (hl : at_ + n ≤ xs.length) (hx : xs.length < 1000000000) :
    Calls Tryz.prog 144 #[.pointer (some ⟨C, 0, none⟩), .int .i64 (n : Int)] w fun e w' => ∃ v, e = .returned v ∧ w'.ownsRow w.heap.size 5 1 v n (u8s ((xs.drop at_).take n)) ∧ Cur w' C g xs (at_ + n) .nilIface ∧ w.grownBy w' (some C) := by
  by_cases h0 : n = 0
  · subst h0
    refine (step_zero C w).mono ?_
    rintro e w' ⟨rfl, rfl⟩
    exact ⟨_, rfl, by simpa [u8s] using World.ownsRow_nil w w.heap.size 5 1, h, grefl _ _⟩
  · exact step_some n w h (by omega) hl hx
end Byt
end Go.Proofs.YtpdlpmbjhopnnaaGreatDoor
/- Peek, Byte and Addr of a cursor. -/
namespace Go.Proofs.YtpdlpmbjhopnnaaGreatDoor
open Go.RowKit Sha Cut Err Six Apd
namespace Byt
theorem drop_head (xs : List Nat) (k : Nat) : (xs.drop k).getD 0 0 = xs.getD k 0 ∧ (xs.drop k).length = xs.length - k := by
  refine ⟨?_, List.length_drop⟩
  simp [List.getD_eq_getElem?_getD]
set_option maxRecDepth 100000 in
set_option maxHeartbeats 1000000 in
theorem peek_ok {C g at_ : Nat} {xs : List Nat} (w : World) (h : Cur w C g xs at_ .nilIface) (hl : at_ < xs.length) :
    Calls Tryz.prog 112 #[.pointer (some ⟨C, 0, none⟩)] w fun e w' => e = .returned (.tuple #[.int .u8 ((xs.getD at_ 0 : Nat) : Int), .bool true]) ∧ ∃ m, w' = w.drewN m := by
  have HN := Lib.hid (next_ok w h)
  obtain ⟨h1, h2⟩ := drop_head xs at_
  have H1 := Lib.hid h1
  have H2 := Lib.hid h2
  have HK := Lib.hid (show 0 < xs.length - at_ by omega)
  clear h h1 h2 hl
  generalize xs.getD at_ 0 = x at H1 ⊢
  generalize xs.drop at_ = ys at HN H1 H2
  generalize xs.length - at_ = k at HN H2 HK
  have e0 : ((k : Int) == 0) = false := by have := HK.out; simp; omega
  have e1 : (0 : Int) < (k : Int) := by have := HK.out; omega
  go_enter Tryz.func112, Tryz.ntmps112
  go_wp2_with fail
  refine HN.out.mono ?_
  rintro e w1 ⟨ad, cap, rfl, hb, m, rfl⟩
  clear HN
  obtain ⟨g1, o, rfl, hc⟩ : ∃ g1 o, ad = some ⟨g1, o, none⟩ ∧ w.cell? ⟨g1, o, none⟩ = some (.int .u8 (x : Int)) := by
    obtain ⟨_, _, hv, _, hc⟩ := hb
    injection hv with hv1 _ _
    have h2 := H2.out
    have hk := HK.out
    rcases hc with h0 | ⟨g1, o, hg, hc⟩
    · rw [h0] at h2; simp at h2; omega
    · have := hc 0 (by omega)
      rw [H1.out] at this
      exact ⟨g1, o, hv1.trans hg, this⟩
  have c0 : (w.drewN m).cell? ⟨g1, o, none⟩ = _ := hc
  clear hc hb
  go_wp2_with fail
  go_ret2
  exact ⟨rfl, _, rfl⟩
set_option maxHeartbeats 1000000 in
theorem peek_none {C g at_ : Nat} {xs : List Nat} (w : World) (h : Cur w C g xs at_ .nilIface) (hl : xs.length ≤ at_) :
    Calls Tryz.prog 112 #[.pointer (some ⟨C, 0, none⟩)] w fun e w' => e = .returned (.tuple #[.int .u8 0, .bool false]) ∧ ∃ m, w' = w.drewN m := by
  have HN := next_ok w h
  rw [show xs.length - at_ = 0 by omega] at HN
  have HN := Lib.hid HN
  clear h hl
  go_enter Tryz.func112, Tryz.ntmps112
  go_wp2_with fail
  refine HN.out.mono ?_
  rintro e w1 ⟨ad, cap, rfl, _, m, rfl⟩
  clear HN
  go_wp2_with fail
  go_ret2
  exact ⟨rfl, _, rfl⟩
theorem peek_met {C g at_ b : Nat} {xs : List Nat} (w : World) (h : Cur w C g xs at_ (.iface 84 (.pointer (some ⟨b, 0, none⟩)))) :
    Calls Tryz.prog 112 #[.pointer (some ⟨C, 0, none⟩)] w fun e w' => e = .returned (.tuple #[.int .u8 0, .bool false]) ∧ w = w' := by
  have HN := Lib.hid (next_met w h)
  clear h
  go_enter Tryz.func112, Tryz.ntmps112
  go_wp2_with fail
  refine HN.out.mono ?_
  rintro e w1 ⟨rfl, rfl⟩
  clear HN
  go_wp2_with fail
  go_ret2
  exact ⟨rfl, rfl⟩
set_option maxHeartbeats 1000000 in
theorem byte_ok {C g at_ : Nat} {xs : List Nat} (w : World) (h : Cur w C g xs at_ .nilIface) (hl : at_ < xs.length) (hx : xs.length < 1000000000) :
    Calls Tryz.prog 113 #[.pointer (some ⟨C, 0, none⟩)] w fun e w' => e = .returned (.int .u8 ((xs.getD at_ 0 : Nat) : Int)) ∧ Cur w' C g xs (at_ + 1) .nilIface ∧ w.grownBy w' (some C) := by
  have HP := Lib.hid (peek_ok w h hl)
  have HU := Lib.hid (fun m => (h.drewN m).moved 1 hl)
  obtain ⟨ad, cap, c0, c1, c2, f1, _⟩ := h.cells
  have ew : IntKind.i64.wrap ((at_ : Int) + 1) = (at_ : Int) + 1 := by rw [IntWalk.i64_in] <;> omega
  clear h
  generalize xs.getD at_ 0 = x at HP ⊢
  go_enter Tryz.func113, Tryz.ntmps113
  go_wp2_with fail
  refine HP.out.mono ?_
  rintro e w1 ⟨rfl, m, rfl⟩
  clear HP
  go_wp2_with fail
  go_ret
  exact ⟨rfl, HU.out m, gtrans (gdrewN w m _) (gsetCell _ _ _ _)⟩
set_option maxHeartbeats 1000000 in
theorem byte_none {C g at_ : Nat} {xs : List Nat} (w : World) (h : Cur w C g xs at_ .nilIface) (hl : xs.length ≤ at_) :
    Calls Tryz.prog 113 #[.pointer (some ⟨C, 0, none⟩)] w fun e w' => e = .returned (.int .u8 0) ∧ ∃ ev, Cur w' C g xs at_ ev ∧ Met w' ev 2 at_ ∧ w.grownBy w' (some C) := by
  have HP := Lib.hid (peek_none w h hl)
  have HF := Lib.hid (fun m => fail_new (d := 0) (.iface 71 (.int .i64 2)) 2 (w.drewN m) (h.drewN m) rfl)
  clear h
  go_enter Tryz.func113, Tryz.ntmps113
  go_wp2_with fail
  refine HP.out.mono ?_
  rintro e w1 ⟨rfl, m, rfl⟩
  clear HP
  go_wp2_with fail
  refine (HF.out m).mono ?_
  rintro e w2 ⟨rfl, ev, h1, h2, h3⟩
  have HR := Lib.hid (show ∃ ev, Cur w2 C g xs at_ ev ∧ Met w2 ev 2 at_ ∧ w.grownBy w2 (some C) from ⟨ev, h1, h2, gtrans (gdrewN w m _) h3⟩)
  clear h1 h2 h3 HF
  go_wp2_with fail
  go_ret
  exact ⟨rfl, HR.out⟩
theorem byte_met {C g at_ b : Nat} {xs : List Nat} (w : World) (h : Cur w C g xs at_ (.iface 84 (.pointer (some ⟨b, 0, none⟩)))) :
    Calls Tryz.prog 113 #[.pointer (some ⟨C, 0, none⟩)] w fun e w' => e = .returned (.int .u8 0) ∧ w = w' := by
  have HP := Lib.hid (peek_met w h)
  have HF := Lib.hid (fail_met (.iface 71 (.int .i64 2)) w h)
  clear h
  go_enter Tryz.func113, Tryz.ntmps113
  go_wp2_with fail
  refine HP.out.mono ?_
  rintro e w1 ⟨rfl, rfl⟩
  clear HP
  go_wp2_with fail
  refine HF.out.mono ?_
  rintro e w2 ⟨rfl, rfl⟩
  clear HF
  go_wp2_with fail
  go_ret
  exact ⟨rfl, rfl⟩
set_option maxHeartbeats 1000000 in
theorem addr_ok {C g at_ : Nat} {xs : List Nat} (n : Int) (w : World) (h : Cur w C g xs at_ .nilIface) (h8 : ∀ x ∈ xs, x < 256) (hx : xs.length < 1000000000) (hw : (Adr.aspec (xs.drop at_) n).2.1 = 0) :
    Calls Tryz.prog 98 #[.pointer (some ⟨C, 0, none⟩), .int .i64 n] w fun e w' => e = .returned (.int .i64 ((Adr.aspec (xs.drop at_) n).1 : Int)) ∧ Cur w' C g xs (at_ + 2) .nilIface ∧ w.grownBy w' (some C) := by
  have hle : at_ + 2 ≤ xs.length := by
    have : ¬ (xs.drop at_).length < 2 := by
      intro hh
      unfold Adr.aspec at hw
      by_cases h1 : n < 1 ∨ 16383 < n
      · rw [if_pos h1] at hw; simp at hw
      · rw [if_neg h1, if_pos hh] at hw; simp at hw
    rw [List.length_drop] at this
    omega
  have HP := Lib.hid (next_ok w h)
  have HG := Lib.hid (fun ad len cap W hB => Adr.get_all ad len cap (xs.drop at_) n W hB (fun y hy => h8 y (List.mem_of_mem_drop hy)))
  obtain ⟨ad, cap, c0, c1, c2, f1, _⟩ := h.cells
  have hC := h.clt
  have HU := Lib.hid h
  have HW := Lib.hid hw
  have HL := Lib.hid hle
  have ew : IntKind.i64.wrap ((at_ : Int) + 2) = (at_ : Int) + 2 := by rw [IntWalk.i64_in] <;> omega
  have HC1 := Lib.hid c1
  have HF1 := Lib.hid f1
  clear h hw h8 hx hle c0 c1 c2 f1
  generalize (Adr.aspec (xs.drop at_) n).1 = a at HG ⊢
  generalize (Adr.aspec (xs.drop at_) n).2.1 = why at HG HW
  generalize (Adr.aspec (xs.drop at_) n).2.2 = wh at HG
  go_enter Tryz.func98, Tryz.ntmps98
  go_wp2_with fail
  refine HP.out.mono ?_
  rintro e w1 ⟨ad1, cap1, rfl, hB, m, rfl⟩
  clear HP
  have HB := Lib.hid (bytes_below hB (drewN_below _ m w))
  clear hB
  go_wp2_with fail
  refine (HG.out _ _ _ _ HB.out).mono ?_
  rintro e w2 ⟨ev, rfl, hb, _, hn⟩
  obtain rfl := hn HW.out
  have HB2 := Lib.hid (show Below w.heap.size w w2 from (drewN_below _ _ _).trans hb)
  have d1 := (HB2.out.cell (p := ⟨C, 1, none⟩) hC).trans HC1.out
  have g1 := (HB2.out.frozen (p := ⟨C, 1, none⟩) hC).trans HF1.out
  clear hb hn HG HB
  go_wp2_with fail
  go_ret
  exact ⟨rfl, (HU.out.below HB2.out).moved 2 HL.out, gtrans (gbelow HB2.out _) (gsetCell _ _ _ _)⟩
set_option maxHeartbeats 1000000 in
theorem addr_bad {C g at_ : Nat} {xs : List Nat} (n : Int) (w : World) (h : Cur w C g xs at_ .nilIface) (h8 : ∀ x ∈ xs, x < 256) (hw : (Adr.aspec (xs.drop at_) n).2.1 ≠ 0) :
    Calls Tryz.prog 98 #[.pointer (some ⟨C, 0, none⟩), .int .i64 n] w fun e w' => e = .returned (.int .i64 0) ∧ ∃ ev, Cur w' C g xs at_ ev ∧ Met w' ev ((Adr.aspec (xs.drop at_) n).2.1 : Int) at_ ∧ w.grownBy w' (some C) := by
  have HP := Lib.hid (next_ok w h)
  have HG := Lib.hid (fun ad len cap W hB => Adr.get_all ad len cap (xs.drop at_) n W hB (fun y hy => h8 y (List.mem_of_mem_drop hy)))
  have HU := Lib.hid h
  have HW := Lib.hid hw
  clear h hw h8
  generalize (Adr.aspec (xs.drop at_) n).1 = a at HG
  generalize (Adr.aspec (xs.drop at_) n).2.1 = why at HG HW ⊢
  generalize (Adr.aspec (xs.drop at_) n).2.2 = wh at HG
  go_enter Tryz.func98, Tryz.ntmps98
  go_wp2_with fail
  refine HP.out.mono ?_
  rintro e w1 ⟨ad1, cap1, rfl, hB, m, rfl⟩
  clear HP
  have HB := Lib.hid (bytes_below hB (drewN_below _ m w))
  clear hB
  go_wp2_with fail
  refine (HG.out _ _ _ _ HB.out).mono ?_
  rintro e w2 ⟨ev, rfl, hb, ht, _⟩
  obtain ⟨d, hch⟩ := Adr.told_cases ht (by have := HW.out; omega)
  have HB2 := Lib.hid (show Below w.heap.size w w2 from (drewN_below _ _ _).trans hb)
  have HF := Lib.hid (fail_new ev why w2 (HU.out.below HB2.out) hch)
  clear hb ht HG HB
  rcases hch.form with ⟨_, rfl⟩ | ⟨b, rfl⟩
  · clear hch
    go_wp2_with fail
    refine HF.out.mono ?_
    rintro e w3 ⟨rfl, u, h1, h2, h3⟩
    have HR := Lib.hid (show ∃ ev, Cur w3 C g xs at_ ev ∧ Met w3 ev why at_ ∧ w.grownBy w3 (some C) from ⟨u, h1, h2, gtrans (gbelow HB2.out _) h3⟩)
    clear h1 h2 h3 HF
    go_wp2_with fail
    go_ret
    exact ⟨rfl, HR.out⟩
  · clear hch
    go_wp2_with fail
    refine HF.out.mono ?_
    rintro e w3 ⟨rfl, u, h1, h2, h3⟩
    have HR := Lib.hid (show ∃ ev, Cur w3 C g xs at_ ev ∧ Met w3 ev why at_ ∧ w.grownBy w3 (some C) from ⟨u, h1, h2, gtrans (gbelow HB2.out _) h3⟩)
    clear h1 h2 h3 HF
    go_wp2_with fail
    go_ret
    exact ⟨rfl, HR.out⟩
set_option maxHeartbeats 1000000 in
theorem addr_met {C g at_ b : Nat} {xs : List Nat} (n : Int) (w : World) (h : Cur w C g xs at_ (.iface 84 (.pointer (some ⟨b, 0, none⟩)))) :
    Calls Tryz.prog 98 #[.pointer (some ⟨C, 0, none⟩), .int .i64 n] w fun e w' => e = .returned (.int .i64 0) ∧ Below w.heap.size w w' := by
  have HP := Lib.hid (next_met w h)
  have HG := Lib.hid (Adr.get_all none 0 0 [] n w ⟨none, 0, rfl, Nat.le_refl _, .inl rfl⟩ (by simp))
  have HW := Lib.hid (show ((Adr.aspec [] n).1 = 0 ∧ (Adr.aspec [] n).2.1 ≠ 0) from by unfold Adr.aspec; split <;> simp)
  have HU := Lib.hid h
  clear h
  generalize (Adr.aspec [] n).1 = a at HG HW
  generalize (Adr.aspec [] n).2.1 = why at HG HW
  generalize (Adr.aspec [] n).2.2 = wh at HG
  obtain ⟨h1, h2⟩ := HW.out
  subst h1
  have HW := Lib.hid h2
  clear h2
  go_enter Tryz.func98, Tryz.ntmps98
  go_wp2_with fail
  refine HP.out.mono ?_
  rintro e w1 ⟨rfl, rfl⟩
  clear HP
  go_wp2_with fail
  refine HG.out.mono ?_
  rintro e w2 ⟨ev, rfl, hb, ht, _⟩
  obtain ⟨d, hch⟩ := Adr.told_cases ht (by have := HW.out; omega)
  have HB2 := Lib.hid hb
  have HF := Lib.hid (fail_met ev w2 (HU.out.below HB2.out))
  clear hb ht HG HW HU
  rcases hch.form with ⟨_, rfl⟩ | ⟨b, rfl⟩
  · clear hch
    go_wp2_with fail
    refine HF.out.mono ?_
    rintro e w3 ⟨rfl, rfl⟩
    clear HF
    go_wp2_with fail
    go_ret
    exact ⟨rfl, HB2.out⟩
  · clear hch
    go_wp2_with fail
    refine HF.out.mono ?_
    rintro e w3 ⟨rfl, rfl⟩
    clear HF
    go_wp2_with fail
    go_ret
    exact ⟨rfl, HB2.out⟩
end Byt
end Go.Proofs.YtpdlpmbjhopnnaaGreatDoor
/- Chars of a cursor. -/
namespace Go.Proofs.YtpdlpmbjhopnnaaGreatDoor
open Go.RowKit Sha Cut Err Six Apd Att
namespace Byt
/-- How many characters stand at the head. -/
def crun (ys : List Nat) : Nat := (ys.takeWhile char).length
theorem crun_le (ys : List Nat) : crun ys ≤ ys.length := (List.takeWhile_sublist char).length_le
theorem crun_is : ∀ (ys : List Nat) (k : Nat), k ≤ ys.length → (∀ j, j < k → char (ys.getD j 0) = true) → (k < ys.length → char (ys.getD k 0) = false) → crun ys = k := by
  intro ys
  induction ys with
  | nil => intro k hk _ _; simp at hk; subst hk; rfl
  | cons y ys ih =>
    intro k hk ha hs
    cases k with
    | zero =>
      have := hs (by simp)
      simp at this
      simp [crun, List.takeWhile, this]
    | succ k =>
      have h0 := ha 0 (by omega)
      simp at h0
      have := ih k (by simp at hk; omega) (fun j hj => by have := ha (j + 1) (by omega); simpa using this) (fun h => by have := hs (by simp; omega); simpa using this)
      simp only [crun, List.takeWhile, h0] at this ⊢
      simp [this]
theorem crun_at (ys : List Nat) : (∀ j, j < crun ys → char (ys.getD j 0) = true) ∧ (crun ys < ys.length → char (ys.getD (crun ys) 0) = false) := by
  induction ys with
  | nil => exact ⟨fun j hj => by simp [crun] at hj, fun h => by simp [crun] at h⟩
  | cons y ys ih =>
    by_cases hy : char y = true
    · have e : crun (y :: ys) = crun ys + 1 := by simp [crun, List.takeWhile, hy]
      rw [e]
      refine ⟨fun j hj => ?_, fun h => ?_⟩
      · cases j with
        | zero => simpa using hy
        | succ j => have := ih.1 j (by omega); simpa using this
      · have := ih.2 (by simp at h; omega); simpa using this
    · have hf : char y = false := by simpa using hy
      have e : crun (y :: ys) = 0 := by simp [crun, List.takeWhile, hf]
      rw [e]
      exact ⟨fun j hj => by omega, fun _ => by simpa using hf⟩
set_option maxRecDepth 100000 in
set_option maxHeartbeats 2000000 in
theorem chars_ok {C g at_ : Nat} {xs : List Nat} (w : World) (h : Cur w C g xs at_ .nilIface) (h8 : ∀ x ∈ xs, x < 256) (hx : xs.length < 1000000000) :
    Calls Tryz.prog 132 #[.pointer (some ⟨C, 0, none⟩)] w fun e w' => ∃ v, e = .returned v ∧ w'.ownsRow w.heap.size 5 1 v (crun (xs.drop at_)) (u8s ((xs.drop at_).take (crun (xs.drop at_)))) ∧ Cur w' C g xs (at_ + crun (xs.drop at_)) .nilIface ∧ w.grownBy w' (some C) := by
  have HN := Lib.hid (next_ok w h)
  have HL := Lib.hid (show (xs.drop at_).length = xs.length - at_ from List.length_drop)
  have HS := Lib.hid (fun k m (hk : k ≤ xs.length - at_) => step_any k (w.drewN m) (h.drewN m) (by have := h.le; omega) hx)
  have HY8 := Lib.hid (fun (k : Nat) => byte_lt (l := xs.drop at_) (fun y hy => h8 y (List.mem_of_mem_drop hy)) (by decide) k)
  have HC := Lib.hid fun b W hb => char_any b W hb
  have HX := Lib.hid (show (xs.drop at_).length < 1000000000 by rw [List.length_drop]; omega)
  clear h h8 hx
  generalize xs.drop at_ = ys at *
  rw [← HL.out] at HN HS
  go_enter Tryz.func132, Tryz.ntmps132
  go_wp2_with fail
  refine HN.out.mono ?_
  rintro e w1 ⟨ad, cap, rfl, hB, m, rfl⟩
  have HB := Lib.hid hB
  clear HN hB
  go_wp2_with fail
  go_loopg [4] (ys.length + 1) (fun n i wr => ∃ k : Nat, k ≤ ys.length ∧ n = ys.length + 1 - k ∧ i = .int .i64 k ∧ wr = w.drewN m ∧ Hid (∀ j, j < k → char (ys.getD j 0) = true))
  case atStart => exact ⟨0, Nat.zero_le _, rfl, rfl, rfl, Lib.hid fun j hj => absurd hj (by omega)⟩
  case round =>
    obtain ⟨k, hk, rfl, rfl, rfl, hall⟩ := hrel
    by_cases hlt : k < ys.length
    · obtain ⟨g1, o, rfl, c0⟩ : ∃ g1 o, ad = some ⟨g1, o, none⟩ ∧ (w.drewN m).cell? ⟨g1, o + k, none⟩ = some (.int .u8 ((ys.getD k 0 : Nat) : Int)) := by
        obtain ⟨_, _, hv, _, hc⟩ := HB.out
        injection hv with hv1 _ _
        rcases hc with h0 | ⟨g1, o, hg, hc⟩
        · rw [h0] at hlt; simp at hlt
        · exact ⟨g1, o, hv1.trans hg, hc k hlt⟩
      have hb := HY8.out k
      have HCA := Lib.hid fun (h : char (ys.getD k 0) = true) => (show ∀ j, j < k + 1 → char (ys.getD j 0) = true from fun j hj => by
        rcases Nat.lt_or_ge j k with h' | h'
        · exact hall.out j h'
        · obtain rfl : j = k := by omega
          exact h)
      have HCE := Lib.hid fun (h : char (ys.getD k 0) = false) => crun_is ys k hk hall.out (fun _ => h)
      generalize ys.getD k 0 = b at c0 hb HCA HCE
      have hi0 : (0 : Int) ≤ (k : Int) := by omega
      have hi1 : (k : Int) < (ys.length : Int) := by omega
      have ew : IntKind.i64.wrap ((k : Int) + 1) = (k : Int) + 1 := by
        have := HX.out
        rw [IntWalk.i64_in] <;> omega
      go_wp2_with fail
      refine (HC.out b _ hb).mono ?_
      rintro e w' ⟨rfl, rfl⟩
      cases hcb : char b
      · have HE := Lib.hid (HCE.out hcb)
        have HSS := Lib.hid (HS.out k m hk)
        clear HCA HCE hcb HC
        go_wp2_with fail
        refine HSS.out.mono ?_
        rintro e w2 ⟨v, rfl, ho, hr⟩
        have HO := Lib.hid ho
        have HR := Lib.hid hr
        clear ho hr HSS HS
        obtain ⟨va, vc, rfl⟩ := own_form HO.out
        go_wp2_with fail
        go_ret
        rw [HE.out]
        exact ⟨_, rfl, HO.out, HR.out.1, gtrans (gdrewN w m _) HR.out.2⟩
      · have HA := Lib.hid (HCA.out hcb)
        clear HCA HCE hcb
        go_wp2_with fail
        go_roundg (ys.length + 1 - (k + 1))
        case measure => omega
        case rel => exact ⟨k + 1, by omega, rfl, by go_num, rfl, HA⟩
    · have HE := Lib.hid (crun_is ys k hk hall.out (fun h => absurd h hlt))
      have HSS := Lib.hid (HS.out k m hk)
      have hge : ys.length ≤ k := by omega
      clear hlt HC
      go_wp2_with fail
      refine HSS.out.mono ?_
      rintro e w2 ⟨v, rfl, ho, hr⟩
      have HO := Lib.hid ho
      have HR := Lib.hid hr
      clear ho hr HSS HS
      obtain ⟨va, vc, rfl⟩ := own_form HO.out
      go_wp2_with fail
      go_ret
      rw [HE.out]
      exact ⟨_, rfl, HO.out, HR.out.1, gtrans (gdrewN w m _) HR.out.2⟩
theorem chars_met {C g at_ b : Nat} {xs : List Nat} (w : World) (h : Cur w C g xs at_ (.iface 84 (.pointer (some ⟨b, 0, none⟩)))) :
    Calls Tryz.prog 132 #[.pointer (some ⟨C, 0, none⟩)] w fun e w' => e = .returned (.slice none 0 0) ∧ w = w' := by
  have HN := Lib.hid (next_met w h)
  have HS := Lib.hid (step_zero C w)
  clear h
  go_enter Tryz.func132, Tryz.ntmps132
  go_wp2_with fail
  refine HN.out.mono ?_
  rintro e w1 ⟨rfl, rfl⟩
  clear HN
  go_wp2_with fail
  refine wp_loop_rounds 1 ?_
  rw [rounds_succ]
  go_wp2_with fail
  refine HS.out.mono ?_
  rintro e w1 ⟨rfl, rfl⟩
  clear HS
  go_wp2_with fail
  go_ret
  exact ⟨rfl, rfl⟩
end Byt
end Go.Proofs.YtpdlpmbjhopnnaaGreatDoor
