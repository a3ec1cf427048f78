/- 'awake' of the statements about package addr answers true. -/
import Derived.Test.YtdpipjcihnghpaaDoorAddrEql
import Derived.Test.YtdpipjcihnghpaaDoorKept
namespace Go.Proofs.YtdpipjcihnghpaaDoor
open Go.RowKit Err Six
namespace Adr
/-- The two bytes of an address as it is written. -/
def first (a n : Nat) : Nat := if n ≤ 4096 then put (a / 64) else a / 256
def second (a n : Nat) : Nat := if n ≤ 4096 then put (a % 64) else a % 256
theorem put_all (a n : Nat) (w : World) (ha : a < n) (h2 : n ≤ 16383) :
    Calls Tryd.prog 12 #[.int .i64 (a : Int), .int .i64 (n : Int)] w fun e w' => e = .returned (.tuple #[.agg #[.int .u8 (first a n : Nat), .int .u8 (second a n : Nat)], .nilIface]) ∧ Below w.heap.size w w' := by
  unfold first second
  by_cases h : n ≤ 4096
  · rw [if_pos h, if_pos h]; exact put_short a n w ha h
  · rw [if_neg h, if_neg h]; exact put_long a n w ha (by omega) h2
/-- Two bytes lie in a block. -/
structure Two (w : World) (B : Nat) (x y : Int) : Prop where
  c0 : w.cell? ⟨B, 0, none⟩ = some (.int .u8 x)
  c1 : w.cell? ⟨B, 1, none⟩ = some (.int .u8 y)
theorem Two.pos {w : World} {B : Nat} {x y : Int} (h : Two w B x y) : B < w.heap.size := by
  rcases Nat.lt_or_ge B w.heap.size with h0 | h0
  · exact h0
  · have := h.c0; simp [World.cell?, Array.getElem?_eq_none h0] at this
theorem Two.below {w w' : World} {B : Nat} {x y : Int} (h : Two w B x y) (hb : Below w.heap.size w w') : Two w' B x y :=
  ⟨(hb.cell (p := ⟨B, 0, none⟩) h.pos).trans h.c0, (hb.cell (p := ⟨B, 1, none⟩) h.pos).trans h.c1⟩
theorem two_new (w : World) (t : TypeId) (x y : Int) : Two (w.alloc (.cells #[.int .u8 x, .int .u8 y] t)) w.heap.size x y ∧ Below w.heap.size w (w.alloc (.cells #[.int .u8 x, .int .u8 y] t)) := by
  have h := heap_alloc_new w (.cells #[.int .u8 x, .int .u8 y] t)
  exact ⟨⟨cell_of_row _ _ 0 _ _ _ h, cell_of_row _ _ 1 _ _ _ h⟩, (Below.refl _ _).alloc (Nat.le_refl _) _⟩
theorem put_80 (w : World) :
    Calls Tryd.prog 12 #[.int .i64 80, .int .i64 1920] w fun e w' => e = .returned (.tuple #[.agg #[.int .u8 193, .int .u8 80], .nilIface]) ∧ Below w.heap.size w w' := put_all 80 1920 w (by decide) (by decide)
theorem put_5000 (w : World) :
    Calls Tryd.prog 12 #[.int .i64 5000, .int .i64 8000] w fun e w' => e = .returned (.tuple #[.agg #[.int .u8 19, .int .u8 136], .nilIface]) ∧ Below w.heap.size w w' := put_all 5000 8000 w (by decide) (by decide)
theorem get_80 (B : Nat) (w : World) (h : Two w B 193 80) :
    Calls Tryd.prog 8 #[.slice (some ⟨B, 0, none⟩) 2 2, .int .i64 1920] w fun e w' => e = .returned (.tuple #[.int .i64 80, .nilIface]) ∧ Below w.heap.size w w' :=
  get_short_ok _ 2 2 1920 1 16 w (by decide) (by decide) (by decide) (by decide) (by decide) (by decide) (by decide) (getShort_ok B 0 2 2 193 80 w (by decide) (by decide) (by decide) h.c0 h.c1 (by decide) (by decide))
theorem get_nil (w : World) :
    Calls Tryd.prog 8 #[.slice none 0 0, .int .i64 1920] w fun e w' => e = .returned (.tuple #[.int .i64 0, .iface 40 (.int .i64 2)]) ∧ w = w' :=
  get_cut none 0 0 1920 w (by decide) (by decide) (by decide)
set_option maxRecDepth 100000 in
set_option maxHeartbeats 4000000 in
theorem awake_any (w : World) (hg : Handle w) :
    Calls Tryd.prog 7 #[] w fun e w' => e = .returned (.bool true) ∧ Below w.heap.size w w' := by
  go_enter Tryd.func7, Tryd.ntmps7
  go_wp2_with fail
  refine (put_80 _).mono ?_
  rintro e w1 ⟨rfl, hb1⟩
  obtain ⟨hT1, hA1⟩ := two_new w1 33 193 80
  have hg1 := hand_of (hand_of hg hb1) hA1
  have H1 := kept_hid (Lib.hid hb1) hA1
  clear hb1 hg hA1
  go_wp2_with fail
  generalize w1.alloc (.cells #[.int .u8 193, .int .u8 80] 33) = W1 at *
  generalize w1.heap.size = B1 at *
  refine (put_5000 _).mono ?_
  rintro e w2 ⟨rfl, hb2⟩
  obtain ⟨hT2, hA2⟩ := two_new w2 33 19 136
  have hg2 := hand_of (hand_of hg1 hb2) hA2
  have hT1 := (hT1.below hb2).below hA2
  have H2 := kept_hid (kept_hid H1 hb2) hA2
  clear hb2 hg1 hA2 H1
  have hs2 : (w2.alloc (.cells #[.int .u8 19, .int .u8 136] 33)).heap.size = w2.heap.size + 1 := by simp
  go_wp2_with fail
  rw [← hs2]
  clear hs2
  generalize w2.alloc (.cells #[.int .u8 19, .int .u8 136] 33) = W2 at *
  generalize w2.heap.size = B2 at *
  obtain ⟨hT3, hA3⟩ := two_new W2 5 193 80
  have hg3 := hand_of hg2 hA3
  have hT1 := hT1.below hA3
  have hT2 := hT2.below hA3
  have H3 := kept_hid H2 hA3
  clear hg2 hA3 H2
  generalize W2.alloc (.cells #[.int .u8 193, .int .u8 80] 5) = W3 at *
  generalize W2.heap.size = B3 at *
  refine (get_80 B3 _ hT3).mono ?_
  rintro e w4 ⟨rfl, hb4⟩
  have hg4 := hand_of hg3 hb4
  have hT1 := hT1.below hb4
  have hT2 := hT2.below hb4
  have H4 := kept_hid H3 hb4
  clear hb4 hT3 hg3 H3
  go_wp2_with fail
  refine (get_nil _).mono ?_
  rintro e w5 ⟨rfl, rfl⟩
  have a0 := hT1.c0
  have a1 := hT1.c1
  have b0 := hT2.c0
  have b1 := hT2.c1
  clear hT1 hT2
  have q1 := eql_two 193 80 193 80
  have q2 := eql_two 19 136 19 136
  rw [show ((193 : Int) == 193 && (80 : Int) == 80) = true from rfl] at q1
  rw [show ((19 : Int) == 19 && (136 : Int) == 136) = true from rfl] at q2
  go_wp2_with fail
  refine (code_errno 2 _ hg4).mono ?_
  rintro e w6 ⟨rfl, hb6⟩
  have H6 := kept_hid H4 hb6
  clear hb6 hg4 H4 a0 a1 b0 b1 q1 q2
  go_wp2_with fail
  go_ret
  exact ⟨rfl, H6.out⟩
end Adr
end Go.Proofs.YtdpipjcihnghpaaDoor
