/- SlEq, OrdOwn, OrdSame, OrdBegin, OrdText, OrdRight, OrdPut in one text (by tools/bundle.py). -/
import Derived.Test.YtpgbnnnfeaodmaaGreatDoorSBunBase
import Derived.Deep.LoopGhost
import Derived.Test.YtpgbnnnfeaodmaaGreatDoorSBunPlain
import Derived.Test.YtpgbnnnfeaodmaaGreatDoorProg
import Derived.WalkKit
import Derived.Test.YtpgbnnnfeaodmaaGreatDoorSBunLow
import Derived.Deep.RegionHeld3
/- Equal of package slices, of bytes. -/
namespace Go.Proofs.YtpgbnnnfeaodmaaGreatDoor
open Go.RowKit Sha Cut Err Six
namespace Ord
set_option maxRecDepth 100000 in
set_option maxHeartbeats 1000000 in
theorem equal_any (v1 v2 : Value) (xs ys : List Nat) (w : World) (h1 : BytesIn w v1 xs) (h2 : BytesIn w v2 ys) (hx8 : ∀ x ∈ xs, x < 256) (hy8 : ∀ x ∈ ys, x < 256) (hl : xs.length < 1000000) :
    Calls Tryz.prog 127 #[v1, v2] w fun e w' => e = .returned (.bool (decide (xs = ys))) ∧ ∃ k, w' = w.drewN k := by
  obtain ⟨ad1, c1, rfl, _, h1⟩ := h1
  obtain ⟨ad2, c2, rfl, _, h2⟩ := h2
  have H1 := Lib.hid h1
  have H2 := Lib.hid h2
  clear h1 h2
  by_cases hne : xs.length = ys.length
  · have HQ := Lib.hid (fun h => Sam.eq_of_getD (xs := xs) (ys := ys) hne h)
    have HL := Lib.hid hne
    rw [← hne]
    clear hne
    go_enter Tryz.func127, Tryz.ntmps127
    go_wp2_with fail
    go_loopg [13] (xs.length + 1) (fun n i wr => ∃ k : Nat, k ≤ xs.length ∧ n = xs.length + 1 - k ∧ i = .int .i64 k ∧ Hid (∀ i, i < k → xs.getD i 0 = ys.getD i 0) ∧ ∃ n, wr = w.drewN n)
    case atStart => exact ⟨0, Nat.zero_le _, rfl, rfl, Lib.hid fun i hi => absurd hi (by omega), 0, rfl⟩
    case round =>
      obtain ⟨k, hk, rfl, rfl, hall, n, rfl⟩ := hrel
      by_cases hlt : k < xs.length
      · rcases H1.out with h0 | ⟨g1, o1, rfl, hc1⟩
        · rw [h0] at hlt; simp at hlt
        rcases H2.out with h0 | ⟨g2, o2, rfl, hc2⟩
        · have := HL.out; rw [h0, List.length_nil] at this; omega
        have d1 := hc1 k hlt
        have d2 := hc2 k (by have := HL.out; omega)
        have hx := byte_lt hx8 (by decide) k
        have hy := byte_lt hy8 (by decide) k
        have HA := Lib.hid (show xs.getD k 0 = ys.getD k 0 → ∀ i, i < k + 1 → xs.getD i 0 = ys.getD i 0 from fun h i hi => by
          rcases Nat.lt_or_ge i k with h' | h'
          · exact hall.out i h'
          · obtain rfl : i = k := by omega
            exact h)
        have HF := Lib.hid (show xs.getD k 0 ≠ ys.getD k 0 → decide (xs = ys) = false from fun h => by
          simp only [decide_eq_false_iff_not]; intro e; exact h (by rw [e]))
        generalize xs.getD k 0 = x at d1 hx HA HF
        generalize ys.getD k 0 = y at d2 hy HA HF
        have hi0 : (0 : Int) ≤ (k : Int) := by omega
        have hi1 : (k : Int) < (xs.length : Int) := by omega
        have ew : IntKind.i64.wrap ((k : Int) + 1) = (k : Int) + 1 := by
          rw [IntWalk.i64_in] <;> omega
        clear hc1 hc2 hall
        by_cases hxy : x = y
        · subst hxy
          go_wp2_with fail
          go_quiet (fail)
          go_wp2_with fail
          go_roundg (xs.length + 1 - (k + 1))
          case measure => omega
          case rel => exact ⟨k + 1, by omega, rfl, by go_num, Lib.hid (HA.out (by first | trivial | rfl)), n + nq, by first | rfl | simp [World.drewN, Nat.add_assoc]⟩
        · have hb : ((x : Int) != (y : Int)) = true := by simp; omega
          have hb2 : ((x : Int) == (y : Int)) = false := by simp; omega
          have HFF := Lib.hid (HF.out hxy)
          clear hxy HF HA
          go_wp2_with fail
          go_quiet (fail)
          go_wp2_with fail
          go_ret
          refine ⟨?_, n + nq, by first | rfl | simp [World.drewN, Nat.add_assoc]⟩
          rw [HFF.out]; rfl
      · have hge : xs.length ≤ k := by omega
        have HE := Lib.hid (show decide (xs = ys) = true from by simp only [decide_eq_true_eq]; exact HQ.out fun i hi => hall.out i (by omega))
        clear hlt hall
        go_wp2_with fail
        go_ret
        refine ⟨?_, n, rfl⟩
        rw [HE.out]; rfl
  · have HNE := Lib.hid hne
    have hb : ((xs.length : Int) != (ys.length : Int)) = true := by simp; omega
    have HF := Lib.hid (show decide (xs = ys) = false by simp only [decide_eq_false_iff_not]; intro e; exact hne (by rw [e]))
    clear hne
    go_enter Tryz.func127, Tryz.ntmps127
    go_wp2_with fail
    go_ret
    refine ⟨?_, 0, rfl⟩
    rw [HF.out]; rfl
end Ord
end Go.Proofs.YtpgbnnnfeaodmaaGreatDoor
/- own and Same of package order; Equal of slices of bytes. Written by tools/gen_ord_own.py. -/
namespace Go.Proofs.YtpgbnnnfeaodmaaGreatDoor
open Go.RowKit Sha Cut Err Six
namespace Ord
theorem mid3 (w : World) (x y z : Array Value) (t : TypeId) : (((w.alloc (.cells x t)).alloc (.cells y t)).alloc (.cells z t)).heap[w.heap.size + 1]? = some (.cells y t (0, 0)) := by
  have h := heap_alloc_new (w.alloc (.cells x t)) (.cells y t)
  rw [World.size_alloc] at h
  exact (((Below.refl _ _).alloc (Nat.le_refl _) (.cells z t)).block _ (by simp)).trans h
theorem below3 (w : World) (x y z : Obj) : Below w.heap.size w (((w.alloc x).alloc y).alloc z) := (((Below.refl _ _).alloc (Nat.le_refl _) _).alloc (by simp) _).alloc (by simp <;> omega) _
set_option maxRecDepth 100000 in
set_option maxHeartbeats 2000000 in
theorem own_1 (ad : Option Addr) (len cap : Nat) (p n : Bool) (s : Int) (m : Bool) (a c : Int) (w : World) :
    Calls Tryz.prog 117 #[.agg #[.int .i64 1, .slice ad len cap, .bool p, .bool n, .int .i64 s, .bool m, .int .i64 a, .int .u8 c]] w fun e w' => e = .returned (.agg #[.int .i64 1, .slice ad len cap, .bool false, .bool false, .int .i64 0, .bool false, .int .i64 0, .int .u8 0]) ∧ Below w.heap.size w w' := by
  go_enter Tryz.func117, Tryz.ntmps117
  go_wp2
  exact bodyPost_ret (v := .agg #[.int .i64 1, .slice ad len cap, .bool false, .bool false, .int .i64 0, .bool false, .int .i64 0, .int .u8 0]) (results_cell_row rfl _ _ (w.heap.size + 1) 130 _ (0, 0) _ rfl (mid3 ..) Tryz.underlying130 rfl (by kernel_rfl)) rfl ⟨rfl, below3 ..⟩
set_option maxRecDepth 100000 in
set_option maxHeartbeats 2000000 in
theorem own_2 (ad : Option Addr) (len cap : Nat) (p n : Bool) (s : Int) (m : Bool) (a c : Int) (w : World) :
    Calls Tryz.prog 117 #[.agg #[.int .i64 2, .slice ad len cap, .bool p, .bool n, .int .i64 s, .bool m, .int .i64 a, .int .u8 c]] w fun e w' => e = .returned (.agg #[.int .i64 2, .slice none 0 0, .bool p, .bool n, .int .i64 s, .bool m, .int .i64 0, .int .u8 0]) ∧ Below w.heap.size w w' := by
  go_enter Tryz.func117, Tryz.ntmps117
  go_wp2
  exact bodyPost_ret (v := .agg #[.int .i64 2, .slice none 0 0, .bool p, .bool n, .int .i64 s, .bool m, .int .i64 0, .int .u8 0]) (results_cell_row rfl _ _ (w.heap.size + 1) 130 _ (0, 0) _ rfl (mid3 ..) Tryz.underlying130 rfl (by kernel_rfl)) rfl ⟨rfl, below3 ..⟩
set_option maxRecDepth 100000 in
set_option maxHeartbeats 2000000 in
theorem own_3 (ad : Option Addr) (len cap : Nat) (p n : Bool) (s : Int) (m : Bool) (a c : Int) (w : World) :
    Calls Tryz.prog 117 #[.agg #[.int .i64 3, .slice ad len cap, .bool p, .bool n, .int .i64 s, .bool m, .int .i64 a, .int .u8 c]] w fun e w' => e = .returned (.agg #[.int .i64 3, .slice none 0 0, .bool false, .bool false, .int .i64 0, .bool false, .int .i64 a, .int .u8 0]) ∧ Below w.heap.size w w' := by
  go_enter Tryz.func117, Tryz.ntmps117
  go_wp2
  exact bodyPost_ret (v := .agg #[.int .i64 3, .slice none 0 0, .bool false, .bool false, .int .i64 0, .bool false, .int .i64 a, .int .u8 0]) (results_cell_row rfl _ _ (w.heap.size + 1) 130 _ (0, 0) _ rfl (mid3 ..) Tryz.underlying130 rfl (by kernel_rfl)) rfl ⟨rfl, below3 ..⟩
set_option maxRecDepth 100000 in
set_option maxHeartbeats 2000000 in
theorem own_4 (ad : Option Addr) (len cap : Nat) (p n : Bool) (s : Int) (m : Bool) (a c : Int) (w : World) :
    Calls Tryz.prog 117 #[.agg #[.int .i64 4, .slice ad len cap, .bool p, .bool n, .int .i64 s, .bool m, .int .i64 a, .int .u8 c]] w fun e w' => e = .returned (.agg #[.int .i64 4, .slice none 0 0, .bool false, .bool false, .int .i64 0, .bool false, .int .i64 0, .int .u8 0]) ∧ Below w.heap.size w w' := by
  go_enter Tryz.func117, Tryz.ntmps117
  go_wp2
  exact bodyPost_ret (v := .agg #[.int .i64 4, .slice none 0 0, .bool false, .bool false, .int .i64 0, .bool false, .int .i64 0, .int .u8 0]) (results_cell_row rfl _ _ (w.heap.size + 1) 130 _ (0, 0) _ rfl (mid3 ..) Tryz.underlying130 rfl (by kernel_rfl)) rfl ⟨rfl, below3 ..⟩
set_option maxRecDepth 100000 in
set_option maxHeartbeats 2000000 in
theorem own_5 (ad : Option Addr) (len cap : Nat) (p n : Bool) (s : Int) (m : Bool) (a c : Int) (w : World) :
    Calls Tryz.prog 117 #[.agg #[.int .i64 5, .slice ad len cap, .bool p, .bool n, .int .i64 s, .bool m, .int .i64 a, .int .u8 c]] w fun e w' => e = .returned (.agg #[.int .i64 5, .slice none 0 0, .bool false, .bool false, .int .i64 0, .bool false, .int .i64 0, .int .u8 0]) ∧ Below w.heap.size w w' := by
  go_enter Tryz.func117, Tryz.ntmps117
  go_wp2
  exact bodyPost_ret (v := .agg #[.int .i64 5, .slice none 0 0, .bool false, .bool false, .int .i64 0, .bool false, .int .i64 0, .int .u8 0]) (results_cell_row rfl _ _ (w.heap.size + 1) 130 _ (0, 0) _ rfl (mid3 ..) Tryz.underlying130 rfl (by kernel_rfl)) rfl ⟨rfl, below3 ..⟩
set_option maxRecDepth 100000 in
set_option maxHeartbeats 2000000 in
theorem own_6 (ad : Option Addr) (len cap : Nat) (p n : Bool) (s : Int) (m : Bool) (a c : Int) (w : World) :
    Calls Tryz.prog 117 #[.agg #[.int .i64 6, .slice ad len cap, .bool p, .bool n, .int .i64 s, .bool m, .int .i64 a, .int .u8 c]] w fun e w' => e = .returned (.agg #[.int .i64 6, .slice none 0 0, .bool false, .bool false, .int .i64 0, .bool false, .int .i64 a, .int .u8 c]) ∧ Below w.heap.size w w' := by
  go_enter Tryz.func117, Tryz.ntmps117
  go_wp2
  exact bodyPost_ret (v := .agg #[.int .i64 6, .slice none 0 0, .bool false, .bool false, .int .i64 0, .bool false, .int .i64 a, .int .u8 c]) (results_cell_row rfl _ _ (w.heap.size + 1) 130 _ (0, 0) _ rfl (mid3 ..) Tryz.underlying130 rfl (by kernel_rfl)) rfl ⟨rfl, below3 ..⟩
set_option maxRecDepth 100000 in
set_option maxHeartbeats 2000000 in
theorem own_7 (ad : Option Addr) (len cap : Nat) (p n : Bool) (s : Int) (m : Bool) (a c : Int) (w : World) :
    Calls Tryz.prog 117 #[.agg #[.int .i64 7, .slice ad len cap, .bool p, .bool n, .int .i64 s, .bool m, .int .i64 a, .int .u8 c]] w fun e w' => e = .returned (.agg #[.int .i64 7, .slice none 0 0, .bool false, .bool false, .int .i64 0, .bool false, .int .i64 a, .int .u8 0]) ∧ Below w.heap.size w w' := by
  go_enter Tryz.func117, Tryz.ntmps117
  go_wp2
  exact bodyPost_ret (v := .agg #[.int .i64 7, .slice none 0 0, .bool false, .bool false, .int .i64 0, .bool false, .int .i64 a, .int .u8 0]) (results_cell_row rfl _ _ (w.heap.size + 1) 130 _ (0, 0) _ rfl (mid3 ..) Tryz.underlying130 rfl (by kernel_rfl)) rfl ⟨rfl, below3 ..⟩
end Ord
end Go.Proofs.YtpgbnnnfeaodmaaGreatDoor
/- Same of package order. -/
namespace Go.Proofs.YtpgbnnnfeaodmaaGreatDoor
open Go.RowKit Sha Cut Err Six
namespace Ord
theorem al2 (w : World) (x y : Obj) : Below w.heap.size w ((w.alloc x).alloc y) := ((Below.refl _ _).alloc (Nat.le_refl _) _).alloc (by simp) _
set_option maxRecDepth 100000 in
set_option maxHeartbeats 2000000 in
theorem same_any (x y : O) (a1 : Option Addr) (l1 c1 : Nat) (a2 : Option Addr) (l2 c2 : Nat) (w : World) (h1 : BytesIn w (.slice a1 l1 c1) x.t) (h2 : BytesIn w (.slice a2 l2 c2) y.t) (hx8 : ∀ b ∈ x.t, b < 256) (hy8 : ∀ b ∈ y.t, b < 256) (hl : x.t.length < 1000000) :
    Calls Tryz.prog 116 #[.agg #[.int .i64 x.k, .slice a1 l1 c1, .bool x.p, .bool x.n, .int .i64 x.s, .bool x.m, .int .i64 x.a, .int .u8 (x.c : Int)], .agg #[.int .i64 y.k, .slice a2 l2 c2, .bool y.p, .bool y.n, .int .i64 y.s, .bool y.m, .int .i64 y.a, .int .u8 (y.c : Int)]] w fun e w' => e = .returned (.bool (same x y)) ∧ Below w.heap.size w w' := by
  obtain ⟨xk, xt, xp, xn, xs, xm, xa, xc⟩ := x
  obtain ⟨yk, yt, yp, yn, ys, ym, ya, yc⟩ := y
  simp only at h1 h2 hx8 hy8 hl ⊢
  have HE := Lib.hid fun W hb => equal_any _ _ xt yt W (bytes_below h1 hb) (bytes_below h2 hb) hx8 hy8 hl
  have HS := Lib.hid (show same ⟨xk, xt, xp, xn, xs, xm, xa, xc⟩ ⟨yk, yt, yp, yn, ys, ym, ya, yc⟩ = ((xk == yk) && (decide (xt = yt) && ((xp == yp && (xn == yn && (xs == ys && xm == ym))) && ((xa == ya) && ((xc : Int) == (yc : Int)))))) by
    simp only [same]
    have e1 : decide (xk = yk) = (xk == yk) := by rw [Bool.eq_iff_iff]; simp
    have e2 : decide (xs = ys) = (xs == ys) := by rw [Bool.eq_iff_iff]; simp
    have e3 : decide (xa = ya) = (xa == ya) := by rw [Bool.eq_iff_iff]; simp
    have e4 : decide (xc = yc) = ((xc : Int) == (yc : Int)) := by rw [Bool.eq_iff_iff]; simp; omega
    rw [e1, e2, e3, e4])
  generalize same _ _ = r at HS ⊢
  generalize decide (xt = yt) = bt at HE HS
  clear h1 h2 hx8 hy8 hl
  generalize hk : (xk == yk) = bk at HS
  cases bk with
  | false =>
    go_enter Tryz.func116, Tryz.ntmps116
    go_wp2
    go_ret
    rw [HS.out]
    refine ⟨rfl, ?_⟩
    exact ((Below.refl _ _).alloc (Nat.le_refl _) _).alloc (by simp) _
  | true =>
    go_enter Tryz.func116, Tryz.ntmps116
    go_wp2_with fail
    refine (HE.out _ (al2 ..)).mono ?_
    rintro e w1 ⟨rfl, m, rfl⟩
    cases bt with
    | false =>
      go_wp2
      go_ret
      rw [HS.out]
      exact ⟨rfl, (al2 ..).trans (below_drewN _ _ _)⟩
    | true =>
      generalize hp : (xp == yp && (xn == yn && (xs == ys && xm == ym))) = bp at HS
      go_wp2
      all_goals
        go_ret
        refine ⟨?_, (al2 ..).trans (below_drewN _ _ _)⟩
        have hr := HS.out
        subst hp
        clear HS HE
        simp_all
end Ord
end Go.Proofs.YtpgbnnnfeaodmaaGreatDoor
/- begins of package order. Written by tools/gen_ord_put.py. -/
namespace Go.Proofs.YtpgbnnnfeaodmaaGreatDoor
open Go.RowKit
namespace Ord
theorem begins_2 (w : World) : Calls Tryz.prog 126 #[.int .i64 2] w fun e w' => e = .returned (.int .u8 29) ∧ w = w' := by
  go_enter Tryz.func126, Tryz.ntmps126
  go_wp2
  go_ret
  exact ⟨rfl, rfl⟩
theorem begins_3 (w : World) : Calls Tryz.prog 126 #[.int .i64 3] w fun e w' => e = .returned (.int .u8 17) ∧ w = w' := by
  go_enter Tryz.func126, Tryz.ntmps126
  go_wp2
  go_ret
  exact ⟨rfl, rfl⟩
theorem begins_4 (w : World) : Calls Tryz.prog 126 #[.int .i64 4] w fun e w' => e = .returned (.int .u8 19) ∧ w = w' := by
  go_enter Tryz.func126, Tryz.ntmps126
  go_wp2
  go_ret
  exact ⟨rfl, rfl⟩
theorem begins_5 (w : World) : Calls Tryz.prog 126 #[.int .i64 5] w fun e w' => e = .returned (.int .u8 5) ∧ w = w' := by
  go_enter Tryz.func126, Tryz.ntmps126
  go_wp2
  go_ret
  exact ⟨rfl, rfl⟩
theorem begins_6 (w : World) : Calls Tryz.prog 126 #[.int .i64 6] w fun e w' => e = .returned (.int .u8 60) ∧ w = w' := by
  go_enter Tryz.func126, Tryz.ntmps126
  go_wp2
  go_ret
  exact ⟨rfl, rfl⟩
theorem begins_7 (w : World) : Calls Tryz.prog 126 #[.int .i64 7] w fun e w' => e = .returned (.int .u8 18) ∧ w = w' := by
  go_enter Tryz.func126, Tryz.ntmps126
  go_wp2
  go_ret
  exact ⟨rfl, rfl⟩
end Ord
end Go.Proofs.YtpgbnnnfeaodmaaGreatDoor
/- checkText of package order. -/
namespace Go.Proofs.YtpgbnnnfeaodmaaGreatDoor
open Go.RowKit Sha Cut Err Six Att
namespace Ord
def errv (c : Nat) : Value := if c = 0 then .nilIface else .iface 48 (.int .i64 (c : Int))
def tcode (xs : List Nat) : Nat := if xs = [] ∨ xs.all char = false then 1 else 0
theorem all_to {xs : List Nat} {f : Nat → Bool} (h : ∀ i, i < xs.length → f (xs.getD i 0) = true) : xs.all f = true := by
  rw [List.all_eq_true]
  intro x hx
  obtain ⟨i, hi, rfl⟩ := List.getElem_of_mem hx
  have := h i hi
  rwa [List.getD_eq_getElem?_getD, List.getElem?_eq_getElem hi] at this
theorem not_all {xs : List Nat} {f : Nat → Bool} {i : Nat} (hi : i < xs.length) (h : f (xs.getD i 0) = false) : xs.all f = false := by
  rw [List.getD_eq_getElem?_getD, List.getElem?_eq_getElem hi] at h
  rw [List.all_eq_false]
  exact ⟨_, List.getElem_mem hi, by simpa using h⟩
set_option maxRecDepth 100000 in
set_option maxHeartbeats 1000000 in
theorem text_empty (ad : Option Addr) (cap : Nat) (w : World) :
    Calls Tryz.prog 118 #[.slice ad 0 cap] w fun e w' => e = .returned (.iface 48 (.int .i64 1)) ∧ w = w' := by
  go_enter Tryz.func118, Tryz.ntmps118
  go_wp2_with fail
  go_ret
  exact ⟨rfl, rfl⟩
set_option maxRecDepth 100000 in
set_option maxHeartbeats 1000000 in
theorem text_any (ad : Option Addr) (len cap : Nat) (xs : List Nat) (w : World) (hB : BytesIn w (.slice ad len cap) xs) (h8 : ∀ x ∈ xs, x < 256) (hl : xs.length < 1000000) (h0 : xs ≠ []) :
    Calls Tryz.prog 118 #[.slice ad len cap] w fun e w' => e = .returned (errv (tcode xs)) ∧ w = w' := by
  obtain ⟨ad1, c1, hv, _, h1⟩ := hB
  injection hv with e1 e2 e3
  subst e1 e2 e3
  have hpos : 0 < xs.length := List.length_pos_iff.2 h0
  have hne : ((xs.length : Int) == 0) = false := by simp; omega
  rcases h1 with h1 | ⟨g, o, rfl, hc⟩
  · exact absurd h1 h0
  have HC := Lib.hid fun b W hb => char_any b W hb
  have HA := Lib.hid hc
  have H8 := Lib.hid fun k => byte_lt h8 (by decide) k
  clear h0 h8 hc
  go_enter Tryz.func118, Tryz.ntmps118
  go_wp2_with fail
  go_loopg [11] (xs.length + 1) (fun n i wr => wr = w ∧ ∃ k : Nat, k ≤ xs.length ∧ n = xs.length + 1 - k ∧ i = .int .i64 k ∧ Hid (∀ i, i < k → char (xs.getD i 0) = true))
  case atStart => exact ⟨rfl, 0, Nat.zero_le _, rfl, rfl, Lib.hid fun i hi => absurd hi (by omega)⟩
  case round =>
    obtain ⟨rfl, k, hk, rfl, rfl, hall⟩ := hrel
    by_cases hlt : k < xs.length
    · have c0 := HA.out k hlt
      have hb := H8.out k
      have HN := Lib.hid (show char (xs.getD k 0) = true → ∀ i, i < k + 1 → char (xs.getD i 0) = true from fun h i hi => by
          rcases Nat.lt_or_ge i k with h' | h'
          · exact hall.out i h'
          · obtain rfl : i = k := by omega
            exact h)
      have HF := Lib.hid (show char (xs.getD k 0) = false → tcode xs = 1 from fun h => by unfold tcode; rw [if_pos (.inr (not_all hlt h))])
      generalize xs.getD k 0 = b at c0 hb HN HF
      have hi0 : (0 : Int) ≤ (k : Int) := by omega
      have hi1 : (k : Int) < (xs.length : Int) := by omega
      have ew : IntKind.i64.wrap ((k : Int) + 1) = (k : Int) + 1 := by
        rw [IntWalk.i64_in] <;> omega
      clear hall
      go_wp2_with fail
      refine (HC.out b _ hb).mono ?_
      rintro e w' ⟨rfl, rfl⟩
      cases hcb : char b with
      | true =>
        have HN2 := Lib.hid (HN.out hcb)
        clear HN HF hcb
        go_wp2_with fail
        go_roundg (xs.length + 1 - (k + 1))
        case measure => omega
        case rel => exact ⟨rfl, k + 1, by omega, rfl, by go_num, HN2⟩
      | false =>
        have HF2 := Lib.hid (HF.out hcb)
        clear HN HF hcb
        go_wp2_with fail
        go_ret
        refine ⟨?_, rfl⟩
        rw [HF2.out]; rfl
    · have HE := Lib.hid (show tcode xs = 0 by
        have h1 := all_to (xs := xs) (f := char) fun i hi => hall.out i (by omega)
        have h2 : xs ≠ [] := List.length_pos_iff.1 hpos
        unfold tcode; rw [if_neg (by rw [h1]; simp [h2])])
      have hge : xs.length ≤ k := by omega
      clear hlt hall
      go_wp2_with fail
      go_ret
      refine ⟨?_, rfl⟩
      rw [HE.out]; rfl
end Ord
end Go.Proofs.YtpgbnnnfeaodmaaGreatDoor
/- Right of package order. Written by tools/gen_ord_right.py. -/
namespace Go.Proofs.YtpgbnnnfeaodmaaGreatDoor
open Go.RowKit Sha Cut Err Six Att
namespace Ord
theorem int_cases (s : Int) (n : Nat) : (s < 0 ∨ (n : Int) ≤ s) ∨ ∃ u : Nat, s = u ∧ u < n := by
  by_cases h : s < 0 ∨ (n : Int) ≤ s
  · exact .inl h
  · obtain ⟨u, rfl⟩ := Int.eq_ofNat_of_zero_le (a := s) (by omega)
    exact .inr ⟨u, rfl, by omega⟩
theorem errv_0 : errv 0 = .nilIface := rfl
theorem errv_1 : errv 1 = .iface 48 (.int .i64 1) := rfl
theorem errv_4 : errv 4 = .iface 48 (.int .i64 4) := rfl
theorem errv_5 : errv 5 = .iface 48 (.int .i64 5) := rfl
theorem bytes_nil (w : World) : BytesIn w (.slice none 0 0) [] := ⟨none, 0, rfl, Nat.le_refl _, .inl rfl⟩
set_option maxRecDepth 100000 in
set_option maxHeartbeats 4000000 in
theorem right_1 (ad : Option Addr) (len cap : Nat) (t : List Nat) (p n : Bool) (s : Int) (m : Bool) (a : Int) (c z : Nat) (w : World) (hB : BytesIn w (.slice ad len cap) t) (h8 : ∀ x ∈ t, x < 256) (hl : t.length < 1000000) (_hc : c < 256) (_h1 : 1 ≤ z) (_h2 : z ≤ 16383) :
    Calls Tryz.prog 110 #[.agg #[.int .i64 1, .slice ad len cap, .bool p, .bool n, .int .i64 s, .bool m, .int .i64 a, .int .u8 (c : Int)], .int .i64 (z : Int)] w fun e w' => e = .returned (errv (wrong ⟨1, t, p, n, s, m, a, c⟩ z)) ∧ Below w.heap.size w w' := by
  have HW : Hid (wrong ⟨1, t, p, n, s, m, a, c⟩ z = if same ⟨1, t, p, n, s, m, a, c⟩ (own ⟨1, t, p, n, s, m, a, c⟩) = false then 1 else tcode t) := by
    show wrong _ z = _
    unfold wrong tcode
    rw [if_neg (by simp)]
    simp
  have HA : Hid (Below w.heap.size w (w.alloc (.cells #[.int .i64 1, .slice ad len cap, .bool p, .bool n, .int .i64 s, .bool m, .int .i64 a, .int .u8 (c : Int)] 130))) := (Below.refl _ _).alloc (Nat.le_refl _) _
  have HG := Lib.hid (heap_alloc_new w (.cells #[.int .i64 1, .slice ad len cap, .bool p, .bool n, .int .i64 s, .bool m, .int .i64 a, .int .u8 (c : Int)] 130))
  have HO := Lib.hid fun W => own_1 ad len cap p n s m a (c : Int) W
  have HS := Lib.hid fun W hb => same_any ⟨1, t, p, n, s, m, a, c⟩ ⟨1, t, false, false, 0, false, 0, 0⟩ ad len cap ad len cap W (bytes_below hB hb) (bytes_below hB hb) h8 h8 hl
  have e0 : own ⟨1, t, p, n, s, m, a, c⟩ = ⟨1, t, false, false, 0, false, 0, 0⟩ := rfl
  rw [e0] at HW
  have e1 : ((0 : Nat) : Int) = 0 := rfl
  simp only [e1] at HS
  clear e1
  generalize same ⟨1, t, p, n, s, m, a, c⟩ ⟨1, t, false, false, 0, false, 0, 0⟩ = b at HW HS
  clear e0
  have HB := Lib.hid hB
  have H8 := Lib.hid h8
  clear hB h8
  go_enter Tryz.func110, Tryz.ntmps110
  go_wp2_with fail
  generalize w.alloc (.cells #[.int .i64 1, .slice ad len cap, .bool p, .bool n, .int .i64 s, .bool m, .int .i64 a, .int .u8 (c : Int)] 130) = w1 at HA HG ⊢
  go_region_held3 (fun w' => Below w1.heap.size w1 w' ∧ w'.cell? ⟨w.heap.size, 0, none⟩ = some (.int .i64 1) ∧ w'.cell? ⟨w.heap.size, 1, none⟩ = some (.slice ad len cap) ∧ w'.cell? ⟨w.heap.size, 2, none⟩ = some (.bool p) ∧ w'.cell? ⟨w.heap.size, 3, none⟩ = some (.bool n) ∧ w'.cell? ⟨w.heap.size, 4, none⟩ = some (.int .i64 s) ∧ w'.cell? ⟨w.heap.size, 5, none⟩ = some (.bool m) ∧ w'.cell? ⟨w.heap.size, 6, none⟩ = some (.int .i64 a) ∧ w'.cell? ⟨w.heap.size, 7, none⟩ = some (.int .u8 (c : Int)))
    (first | exact held8 HG.out (Below.refl _ _).drew | exact held8 HG.out (Below.refl _ _) | exact held8 HG.out (kept_trans (And.left (by assumption)) hb))
    (first
      | (go_at_call 117; with_reducible refine (HO.out _).mono ?_; rintro e wa ⟨rfl, hb⟩)
      | (go_at_call 116; with_reducible refine (HS.out _ (kept_trans HA.out (And.left (by assumption)))).mono ?_; rintro e wb ⟨rfl, hb⟩))
  have hS := And.left (by assumption : Below w1.heap.size w1 _ ∧ _)
  have H2 := kept_hid HA hS
  clear HO HS
  cases b with
  | false =>
    replace HW := Lib.hid (show wrong ⟨1, t, p, n, s, m, a, c⟩ z = 1 by have := HW.out; simp at this; exact this)
    clear hS
    go_wp2_with fail
    go_ret
    rw [HW.out, errv_1]
    exact ⟨rfl, H2.out⟩
  | true =>
    obtain ⟨_, c0, c1, c2, c3, c4, c5, c6, c7⟩ := held8 HG.out hS
    by_cases ht : t = []
    · replace HW := Lib.hid (show wrong ⟨1, t, p, n, s, m, a, c⟩ z = 1 by have := HW.out; simp at this; rw [this]; unfold tcode; rw [if_pos (.inl ht)])
      have HB0 := HB.out
      obtain ⟨ad', cap', hv, _⟩ := HB0
      injection hv with e1 e2 e3
      rw [ht] at e2
      simp only [List.length_nil] at e2
      subst e2
      clear ht
      go_wp2_with fail
      with_reducible refine (text_empty _ _ _).mono ?_
      rintro e w5 ⟨rfl, rfl⟩
      go_wp2_with fail
      go_ret
      rw [HW.out, errv_1]
      exact ⟨rfl, H2.out⟩
    · have HT := Lib.hid fun W hb => text_any ad len cap t W (bytes_below HB.out hb) H8.out hl ht
      replace HW := Lib.hid (show wrong ⟨1, t, p, n, s, m, a, c⟩ z = tcode t by have := HW.out; simpa using this)
      clear ht
      go_wp2_with fail
      with_reducible refine (HT.out _ H2.out).mono ?_
      rintro e w5 ⟨rfl, rfl⟩
      rcases (show tcode t = 0 ∨ tcode t = 1 by unfold tcode; split <;> simp) with e1 | e1
      · rw [e1, errv_0]
        rw [e1] at HW
        go_wp2_with fail
        go_ret
        rw [HW.out, errv_0]
        exact ⟨rfl, H2.out⟩
      · rw [e1, errv_1]
        rw [e1] at HW
        go_wp2_with fail
        go_ret
        rw [HW.out, errv_1]
        exact ⟨rfl, H2.out⟩
set_option maxRecDepth 100000 in
set_option maxHeartbeats 4000000 in
theorem right_2 (ad : Option Addr) (len cap : Nat) (t : List Nat) (p n : Bool) (s : Int) (m : Bool) (a : Int) (c z : Nat) (w : World) (hB : BytesIn w (.slice ad len cap) t) (h8 : ∀ x ∈ t, x < 256) (hl : t.length < 1000000) (_hc : c < 256) (_h1 : 1 ≤ z) (_h2 : z ≤ 16383) :
    Calls Tryz.prog 110 #[.agg #[.int .i64 2, .slice ad len cap, .bool p, .bool n, .int .i64 s, .bool m, .int .i64 a, .int .u8 (c : Int)], .int .i64 (z : Int)] w fun e w' => e = .returned (errv (wrong ⟨2, t, p, n, s, m, a, c⟩ z)) ∧ Below w.heap.size w w' := by
  have HW : Hid (wrong ⟨2, t, p, n, s, m, a, c⟩ z = if same ⟨2, t, p, n, s, m, a, c⟩ (own ⟨2, t, p, n, s, m, a, c⟩) = false then 1 else if s < 0 ∨ 4 ≤ s then 1 else 0) := by
    show wrong _ z = _
    unfold wrong
    rw [if_neg (by simp)]
    simp
  have HA : Hid (Below w.heap.size w (w.alloc (.cells #[.int .i64 2, .slice ad len cap, .bool p, .bool n, .int .i64 s, .bool m, .int .i64 a, .int .u8 (c : Int)] 130))) := (Below.refl _ _).alloc (Nat.le_refl _) _
  have HG := Lib.hid (heap_alloc_new w (.cells #[.int .i64 2, .slice ad len cap, .bool p, .bool n, .int .i64 s, .bool m, .int .i64 a, .int .u8 (c : Int)] 130))
  have HO := Lib.hid fun W => own_2 ad len cap p n s m a (c : Int) W
  have HS := Lib.hid fun W hb => same_any ⟨2, t, p, n, s, m, a, c⟩ ⟨2, [], p, n, s, m, 0, 0⟩ ad len cap none 0 0 W (bytes_below hB hb) (bytes_nil _) h8 (by simp) hl
  have e0 : own ⟨2, t, p, n, s, m, a, c⟩ = ⟨2, [], p, n, s, m, 0, 0⟩ := rfl
  rw [e0] at HW
  have e1 : ((0 : Nat) : Int) = 0 := rfl
  simp only [e1] at HS
  clear e1
  generalize same ⟨2, t, p, n, s, m, a, c⟩ ⟨2, [], p, n, s, m, 0, 0⟩ = b at HW HS
  clear e0
  clear hB h8
  go_enter Tryz.func110, Tryz.ntmps110
  go_wp2_with fail
  generalize w.alloc (.cells #[.int .i64 2, .slice ad len cap, .bool p, .bool n, .int .i64 s, .bool m, .int .i64 a, .int .u8 (c : Int)] 130) = w1 at HA HG ⊢
  go_region_held3 (fun w' => Below w1.heap.size w1 w' ∧ w'.cell? ⟨w.heap.size, 0, none⟩ = some (.int .i64 2) ∧ w'.cell? ⟨w.heap.size, 1, none⟩ = some (.slice ad len cap) ∧ w'.cell? ⟨w.heap.size, 2, none⟩ = some (.bool p) ∧ w'.cell? ⟨w.heap.size, 3, none⟩ = some (.bool n) ∧ w'.cell? ⟨w.heap.size, 4, none⟩ = some (.int .i64 s) ∧ w'.cell? ⟨w.heap.size, 5, none⟩ = some (.bool m) ∧ w'.cell? ⟨w.heap.size, 6, none⟩ = some (.int .i64 a) ∧ w'.cell? ⟨w.heap.size, 7, none⟩ = some (.int .u8 (c : Int)))
    (first | exact held8 HG.out (Below.refl _ _).drew | exact held8 HG.out (Below.refl _ _) | exact held8 HG.out (kept_trans (And.left (by assumption)) hb))
    (first
      | (go_at_call 117; with_reducible refine (HO.out _).mono ?_; rintro e wa ⟨rfl, hb⟩)
      | (go_at_call 116; with_reducible refine (HS.out _ (kept_trans HA.out (And.left (by assumption)))).mono ?_; rintro e wb ⟨rfl, hb⟩))
  have hS := And.left (by assumption : Below w1.heap.size w1 _ ∧ _)
  have H2 := kept_hid HA hS
  clear HO HS
  cases b with
  | false =>
    replace HW := Lib.hid (show wrong ⟨2, t, p, n, s, m, a, c⟩ z = 1 by have := HW.out; simp at this; exact this)
    clear hS
    go_wp2_with fail
    go_ret
    rw [HW.out, errv_1]
    exact ⟨rfl, H2.out⟩
  | true =>
    obtain ⟨_, c0, c1, c2, c3, c4, c5, c6, c7⟩ := held8 HG.out hS
    rcases int_cases s 4 with hs | ⟨u, rfl, hs⟩
    · replace HW := Lib.hid (show wrong ⟨2, t, p, n, s, m, a, c⟩ z = 1 by
          have := HW.out
          have hs' : s < 0 ∨ 4 ≤ s := by omega
          simpa [hs'] using this)
      have HP := Lib.hid fun W => put_bad p n m s W hs
      clear hs
      go_wp2_with fail
      with_reducible refine (HP.out _).mono ?_
      rintro e w5 ⟨rfl, hb5⟩
      have H5 := kept_hid H2 hb5
      clear hb5
      go_wp2_with fail
      go_ret
      rw [HW.out, errv_1]
      exact ⟨rfl, H5.out⟩
    · replace HW := Lib.hid (show wrong ⟨2, t, p, n, (u : Int), m, a, c⟩ z = 0 by
          have := HW.out
          have hu : ¬ ((u : Int) < 0 ∨ 4 ≤ (u : Int)) := by omega
          simpa [hu] using this)
      have HP := Lib.hid fun W => put_ok p n m u W hs
      clear hs
      go_wp2_with fail
      with_reducible refine (HP.out _).mono ?_
      rintro e w5 ⟨rfl, hb5⟩
      have H5 := kept_hid H2 hb5
      clear hb5
      go_wp2_with fail
      go_ret
      rw [HW.out, errv_0]
      exact ⟨rfl, H5.out⟩
set_option maxRecDepth 100000 in
set_option maxHeartbeats 4000000 in
theorem right_3 (ad : Option Addr) (len cap : Nat) (t : List Nat) (p n : Bool) (s : Int) (m : Bool) (a : Int) (c z : Nat) (w : World) (hB : BytesIn w (.slice ad len cap) t) (h8 : ∀ x ∈ t, x < 256) (hl : t.length < 1000000) (_hc : c < 256) (h1 : 1 ≤ z) (h2 : z ≤ 16383) :
    Calls Tryz.prog 110 #[.agg #[.int .i64 3, .slice ad len cap, .bool p, .bool n, .int .i64 s, .bool m, .int .i64 a, .int .u8 (c : Int)], .int .i64 (z : Int)] w fun e w' => e = .returned (errv (wrong ⟨3, t, p, n, s, m, a, c⟩ z)) ∧ Below w.heap.size w w' := by
  have HW : Hid (wrong ⟨3, t, p, n, s, m, a, c⟩ z = if same ⟨3, t, p, n, s, m, a, c⟩ (own ⟨3, t, p, n, s, m, a, c⟩) = false then 1 else if a < 0 ∨ (z : Int) ≤ a then 4 else 0) := by
    show wrong _ z = _
    unfold wrong
    rw [if_neg (by simp)]
    simp
  have HA : Hid (Below w.heap.size w (w.alloc (.cells #[.int .i64 3, .slice ad len cap, .bool p, .bool n, .int .i64 s, .bool m, .int .i64 a, .int .u8 (c : Int)] 130))) := (Below.refl _ _).alloc (Nat.le_refl _) _
  have HG := Lib.hid (heap_alloc_new w (.cells #[.int .i64 3, .slice ad len cap, .bool p, .bool n, .int .i64 s, .bool m, .int .i64 a, .int .u8 (c : Int)] 130))
  have HO := Lib.hid fun W => own_3 ad len cap p n s m a (c : Int) W
  have HS := Lib.hid fun W hb => same_any ⟨3, t, p, n, s, m, a, c⟩ ⟨3, [], false, false, 0, false, a, 0⟩ ad len cap none 0 0 W (bytes_below hB hb) (bytes_nil _) h8 (by simp) hl
  have e0 : own ⟨3, t, p, n, s, m, a, c⟩ = ⟨3, [], false, false, 0, false, a, 0⟩ := rfl
  rw [e0] at HW
  have e1 : ((0 : Nat) : Int) = 0 := rfl
  simp only [e1] at HS
  clear e1
  generalize same ⟨3, t, p, n, s, m, a, c⟩ ⟨3, [], false, false, 0, false, a, 0⟩ = b at HW HS
  clear e0
  clear hB h8
  go_enter Tryz.func110, Tryz.ntmps110
  go_wp2_with fail
  generalize w.alloc (.cells #[.int .i64 3, .slice ad len cap, .bool p, .bool n, .int .i64 s, .bool m, .int .i64 a, .int .u8 (c : Int)] 130) = w1 at HA HG ⊢
  go_region_held3 (fun w' => Below w1.heap.size w1 w' ∧ w'.cell? ⟨w.heap.size, 0, none⟩ = some (.int .i64 3) ∧ w'.cell? ⟨w.heap.size, 1, none⟩ = some (.slice ad len cap) ∧ w'.cell? ⟨w.heap.size, 2, none⟩ = some (.bool p) ∧ w'.cell? ⟨w.heap.size, 3, none⟩ = some (.bool n) ∧ w'.cell? ⟨w.heap.size, 4, none⟩ = some (.int .i64 s) ∧ w'.cell? ⟨w.heap.size, 5, none⟩ = some (.bool m) ∧ w'.cell? ⟨w.heap.size, 6, none⟩ = some (.int .i64 a) ∧ w'.cell? ⟨w.heap.size, 7, none⟩ = some (.int .u8 (c : Int)))
    (first | exact held8 HG.out (Below.refl _ _).drew | exact held8 HG.out (Below.refl _ _) | exact held8 HG.out (kept_trans (And.left (by assumption)) hb))
    (first
      | (go_at_call 117; with_reducible refine (HO.out _).mono ?_; rintro e wa ⟨rfl, hb⟩)
      | (go_at_call 116; with_reducible refine (HS.out _ (kept_trans HA.out (And.left (by assumption)))).mono ?_; rintro e wb ⟨rfl, hb⟩))
  have hS := And.left (by assumption : Below w1.heap.size w1 _ ∧ _)
  have H2 := kept_hid HA hS
  clear HO HS
  cases b with
  | false =>
    replace HW := Lib.hid (show wrong ⟨3, t, p, n, s, m, a, c⟩ z = 1 by have := HW.out; simp at this; exact this)
    clear hS
    go_wp2_with fail
    go_ret
    rw [HW.out, errv_1]
    exact ⟨rfl, H2.out⟩
  | true =>
    obtain ⟨_, c0, c1, c2, c3, c4, c5, c6, c7⟩ := held8 HG.out hS
    rcases int_cases a z with ha | ⟨u, rfl, ha⟩
    · replace HW := Lib.hid (show wrong ⟨3, t, p, n, s, m, a, c⟩ z = 4 by have := HW.out; simp only [if_pos ha] at this; simpa using this)
      go_wp2_with fail
      with_reducible refine (Adr.put_none a z _ h1 h2 ha).mono ?_
      rintro e w5 ⟨rfl, hb5⟩
      have H5 := kept_hid H2 hb5
      clear hb5
      go_wp2_with fail
      go_ret
      rw [HW.out, errv_4]
      exact ⟨rfl, (kept_alloc H5 _).out⟩
    · replace HW := Lib.hid (show wrong ⟨3, t, p, n, s, m, (u : Int), c⟩ z = 0 by have := HW.out; simp only [if_neg (show ¬ ((u : Int) < 0 ∨ (z : Int) ≤ (u : Int)) by omega)] at this; simpa using this)
      go_wp2_with fail
      with_reducible refine (Adr.put_all u z _ ha h2).mono ?_
      rintro e w5 ⟨rfl, hb5⟩
      have H5 := kept_hid H2 hb5
      clear hb5
      go_wp2_with fail
      go_ret
      rw [HW.out, errv_0]
      exact ⟨rfl, (kept_alloc H5 _).out⟩
set_option maxRecDepth 100000 in
set_option maxHeartbeats 4000000 in
theorem right_4 (ad : Option Addr) (len cap : Nat) (t : List Nat) (p n : Bool) (s : Int) (m : Bool) (a : Int) (c z : Nat) (w : World) (hB : BytesIn w (.slice ad len cap) t) (h8 : ∀ x ∈ t, x < 256) (hl : t.length < 1000000) (_hc : c < 256) (_h1 : 1 ≤ z) (_h2 : z ≤ 16383) :
    Calls Tryz.prog 110 #[.agg #[.int .i64 4, .slice ad len cap, .bool p, .bool n, .int .i64 s, .bool m, .int .i64 a, .int .u8 (c : Int)], .int .i64 (z : Int)] w fun e w' => e = .returned (errv (wrong ⟨4, t, p, n, s, m, a, c⟩ z)) ∧ Below w.heap.size w w' := by
  have HW : Hid (wrong ⟨4, t, p, n, s, m, a, c⟩ z = if same ⟨4, t, p, n, s, m, a, c⟩ (own ⟨4, t, p, n, s, m, a, c⟩) = false then 1 else 0) := by
    show wrong _ z = _
    unfold wrong
    rw [if_neg (by simp)]
    simp
  have HA : Hid (Below w.heap.size w (w.alloc (.cells #[.int .i64 4, .slice ad len cap, .bool p, .bool n, .int .i64 s, .bool m, .int .i64 a, .int .u8 (c : Int)] 130))) := (Below.refl _ _).alloc (Nat.le_refl _) _
  have HG := Lib.hid (heap_alloc_new w (.cells #[.int .i64 4, .slice ad len cap, .bool p, .bool n, .int .i64 s, .bool m, .int .i64 a, .int .u8 (c : Int)] 130))
  have HO := Lib.hid fun W => own_4 ad len cap p n s m a (c : Int) W
  have HS := Lib.hid fun W hb => same_any ⟨4, t, p, n, s, m, a, c⟩ ⟨4, [], false, false, 0, false, 0, 0⟩ ad len cap none 0 0 W (bytes_below hB hb) (bytes_nil _) h8 (by simp) hl
  have e0 : own ⟨4, t, p, n, s, m, a, c⟩ = ⟨4, [], false, false, 0, false, 0, 0⟩ := rfl
  rw [e0] at HW
  have e1 : ((0 : Nat) : Int) = 0 := rfl
  simp only [e1] at HS
  clear e1
  generalize same ⟨4, t, p, n, s, m, a, c⟩ ⟨4, [], false, false, 0, false, 0, 0⟩ = b at HW HS
  clear e0
  clear hB h8
  go_enter Tryz.func110, Tryz.ntmps110
  go_wp2_with fail
  generalize w.alloc (.cells #[.int .i64 4, .slice ad len cap, .bool p, .bool n, .int .i64 s, .bool m, .int .i64 a, .int .u8 (c : Int)] 130) = w1 at HA HG ⊢
  go_region_held3 (fun w' => Below w1.heap.size w1 w' ∧ w'.cell? ⟨w.heap.size, 0, none⟩ = some (.int .i64 4) ∧ w'.cell? ⟨w.heap.size, 1, none⟩ = some (.slice ad len cap) ∧ w'.cell? ⟨w.heap.size, 2, none⟩ = some (.bool p) ∧ w'.cell? ⟨w.heap.size, 3, none⟩ = some (.bool n) ∧ w'.cell? ⟨w.heap.size, 4, none⟩ = some (.int .i64 s) ∧ w'.cell? ⟨w.heap.size, 5, none⟩ = some (.bool m) ∧ w'.cell? ⟨w.heap.size, 6, none⟩ = some (.int .i64 a) ∧ w'.cell? ⟨w.heap.size, 7, none⟩ = some (.int .u8 (c : Int)))
    (first | exact held8 HG.out (Below.refl _ _).drew | exact held8 HG.out (Below.refl _ _) | exact held8 HG.out (kept_trans (And.left (by assumption)) hb))
    (first
      | (go_at_call 117; with_reducible refine (HO.out _).mono ?_; rintro e wa ⟨rfl, hb⟩)
      | (go_at_call 116; with_reducible refine (HS.out _ (kept_trans HA.out (And.left (by assumption)))).mono ?_; rintro e wb ⟨rfl, hb⟩))
  have hS := And.left (by assumption : Below w1.heap.size w1 _ ∧ _)
  have H2 := kept_hid HA hS
  clear HO HS
  cases b with
  | false =>
    replace HW := Lib.hid (show wrong ⟨4, t, p, n, s, m, a, c⟩ z = 1 by have := HW.out; simp at this; exact this)
    clear hS
    go_wp2_with fail
    go_ret
    rw [HW.out, errv_1]
    exact ⟨rfl, H2.out⟩
  | true =>
    obtain ⟨_, c0, c1, c2, c3, c4, c5, c6, c7⟩ := held8 HG.out hS
    replace HW := Lib.hid (show wrong ⟨4, t, p, n, s, m, a, c⟩ z = 0 by have := HW.out; simpa using this)
    go_wp2_with fail
    go_ret
    rw [HW.out, errv_0]
    exact ⟨rfl, H2.out⟩
set_option maxRecDepth 100000 in
set_option maxHeartbeats 4000000 in
theorem right_5 (ad : Option Addr) (len cap : Nat) (t : List Nat) (p n : Bool) (s : Int) (m : Bool) (a : Int) (c z : Nat) (w : World) (hB : BytesIn w (.slice ad len cap) t) (h8 : ∀ x ∈ t, x < 256) (hl : t.length < 1000000) (_hc : c < 256) (_h1 : 1 ≤ z) (_h2 : z ≤ 16383) :
    Calls Tryz.prog 110 #[.agg #[.int .i64 5, .slice ad len cap, .bool p, .bool n, .int .i64 s, .bool m, .int .i64 a, .int .u8 (c : Int)], .int .i64 (z : Int)] w fun e w' => e = .returned (errv (wrong ⟨5, t, p, n, s, m, a, c⟩ z)) ∧ Below w.heap.size w w' := by
  have HW : Hid (wrong ⟨5, t, p, n, s, m, a, c⟩ z = if same ⟨5, t, p, n, s, m, a, c⟩ (own ⟨5, t, p, n, s, m, a, c⟩) = false then 1 else 0) := by
    show wrong _ z = _
    unfold wrong
    rw [if_neg (by simp)]
    simp
  have HA : Hid (Below w.heap.size w (w.alloc (.cells #[.int .i64 5, .slice ad len cap, .bool p, .bool n, .int .i64 s, .bool m, .int .i64 a, .int .u8 (c : Int)] 130))) := (Below.refl _ _).alloc (Nat.le_refl _) _
  have HG := Lib.hid (heap_alloc_new w (.cells #[.int .i64 5, .slice ad len cap, .bool p, .bool n, .int .i64 s, .bool m, .int .i64 a, .int .u8 (c : Int)] 130))
  have HO := Lib.hid fun W => own_5 ad len cap p n s m a (c : Int) W
  have HS := Lib.hid fun W hb => same_any ⟨5, t, p, n, s, m, a, c⟩ ⟨5, [], false, false, 0, false, 0, 0⟩ ad len cap none 0 0 W (bytes_below hB hb) (bytes_nil _) h8 (by simp) hl
  have e0 : own ⟨5, t, p, n, s, m, a, c⟩ = ⟨5, [], false, false, 0, false, 0, 0⟩ := rfl
  rw [e0] at HW
  have e1 : ((0 : Nat) : Int) = 0 := rfl
  simp only [e1] at HS
  clear e1
  generalize same ⟨5, t, p, n, s, m, a, c⟩ ⟨5, [], false, false, 0, false, 0, 0⟩ = b at HW HS
  clear e0
  clear hB h8
  go_enter Tryz.func110, Tryz.ntmps110
  go_wp2_with fail
  generalize w.alloc (.cells #[.int .i64 5, .slice ad len cap, .bool p, .bool n, .int .i64 s, .bool m, .int .i64 a, .int .u8 (c : Int)] 130) = w1 at HA HG ⊢
  go_region_held3 (fun w' => Below w1.heap.size w1 w' ∧ w'.cell? ⟨w.heap.size, 0, none⟩ = some (.int .i64 5) ∧ w'.cell? ⟨w.heap.size, 1, none⟩ = some (.slice ad len cap) ∧ w'.cell? ⟨w.heap.size, 2, none⟩ = some (.bool p) ∧ w'.cell? ⟨w.heap.size, 3, none⟩ = some (.bool n) ∧ w'.cell? ⟨w.heap.size, 4, none⟩ = some (.int .i64 s) ∧ w'.cell? ⟨w.heap.size, 5, none⟩ = some (.bool m) ∧ w'.cell? ⟨w.heap.size, 6, none⟩ = some (.int .i64 a) ∧ w'.cell? ⟨w.heap.size, 7, none⟩ = some (.int .u8 (c : Int)))
    (first | exact held8 HG.out (Below.refl _ _).drew | exact held8 HG.out (Below.refl _ _) | exact held8 HG.out (kept_trans (And.left (by assumption)) hb))
    (first
      | (go_at_call 117; with_reducible refine (HO.out _).mono ?_; rintro e wa ⟨rfl, hb⟩)
      | (go_at_call 116; with_reducible refine (HS.out _ (kept_trans HA.out (And.left (by assumption)))).mono ?_; rintro e wb ⟨rfl, hb⟩))
  have hS := And.left (by assumption : Below w1.heap.size w1 _ ∧ _)
  have H2 := kept_hid HA hS
  clear HO HS
  cases b with
  | false =>
    replace HW := Lib.hid (show wrong ⟨5, t, p, n, s, m, a, c⟩ z = 1 by have := HW.out; simp at this; exact this)
    clear hS
    go_wp2_with fail
    go_ret
    rw [HW.out, errv_1]
    exact ⟨rfl, H2.out⟩
  | true =>
    obtain ⟨_, c0, c1, c2, c3, c4, c5, c6, c7⟩ := held8 HG.out hS
    replace HW := Lib.hid (show wrong ⟨5, t, p, n, s, m, a, c⟩ z = 0 by have := HW.out; simpa using this)
    go_wp2_with fail
    go_ret
    rw [HW.out, errv_0]
    exact ⟨rfl, H2.out⟩
set_option maxRecDepth 100000 in
set_option maxHeartbeats 4000000 in
theorem right_6 (ad : Option Addr) (len cap : Nat) (t : List Nat) (p n : Bool) (s : Int) (m : Bool) (a : Int) (c z : Nat) (w : World) (hB : BytesIn w (.slice ad len cap) t) (h8 : ∀ x ∈ t, x < 256) (hl : t.length < 1000000) (hc : c < 256) (h1 : 1 ≤ z) (h2 : z ≤ 16383) :
    Calls Tryz.prog 110 #[.agg #[.int .i64 6, .slice ad len cap, .bool p, .bool n, .int .i64 s, .bool m, .int .i64 a, .int .u8 (c : Int)], .int .i64 (z : Int)] w fun e w' => e = .returned (errv (wrong ⟨6, t, p, n, s, m, a, c⟩ z)) ∧ Below w.heap.size w w' := by
  have HW : Hid (wrong ⟨6, t, p, n, s, m, a, c⟩ z = if same ⟨6, t, p, n, s, m, a, c⟩ (own ⟨6, t, p, n, s, m, a, c⟩) = false then 1 else if char c = false then 1 else if a < 0 ∨ (z : Int) ≤ a then 4 else 0) := by
    show wrong _ z = _
    unfold wrong
    rw [if_neg (by simp)]
    simp
  have HA : Hid (Below w.heap.size w (w.alloc (.cells #[.int .i64 6, .slice ad len cap, .bool p, .bool n, .int .i64 s, .bool m, .int .i64 a, .int .u8 (c : Int)] 130))) := (Below.refl _ _).alloc (Nat.le_refl _) _
  have HG := Lib.hid (heap_alloc_new w (.cells #[.int .i64 6, .slice ad len cap, .bool p, .bool n, .int .i64 s, .bool m, .int .i64 a, .int .u8 (c : Int)] 130))
  have HO := Lib.hid fun W => own_6 ad len cap p n s m a (c : Int) W
  have HS := Lib.hid fun W hb => same_any ⟨6, t, p, n, s, m, a, c⟩ ⟨6, [], false, false, 0, false, a, c⟩ ad len cap none 0 0 W (bytes_below hB hb) (bytes_nil _) h8 (by simp) hl
  have e0 : own ⟨6, t, p, n, s, m, a, c⟩ = ⟨6, [], false, false, 0, false, a, c⟩ := rfl
  rw [e0] at HW
  have e1 : ((0 : Nat) : Int) = 0 := rfl
  simp only at HS
  clear e1
  generalize same ⟨6, t, p, n, s, m, a, c⟩ ⟨6, [], false, false, 0, false, a, c⟩ = b at HW HS
  clear e0
  clear hB h8
  go_enter Tryz.func110, Tryz.ntmps110
  go_wp2_with fail
  generalize w.alloc (.cells #[.int .i64 6, .slice ad len cap, .bool p, .bool n, .int .i64 s, .bool m, .int .i64 a, .int .u8 (c : Int)] 130) = w1 at HA HG ⊢
  go_region_held3 (fun w' => Below w1.heap.size w1 w' ∧ w'.cell? ⟨w.heap.size, 0, none⟩ = some (.int .i64 6) ∧ w'.cell? ⟨w.heap.size, 1, none⟩ = some (.slice ad len cap) ∧ w'.cell? ⟨w.heap.size, 2, none⟩ = some (.bool p) ∧ w'.cell? ⟨w.heap.size, 3, none⟩ = some (.bool n) ∧ w'.cell? ⟨w.heap.size, 4, none⟩ = some (.int .i64 s) ∧ w'.cell? ⟨w.heap.size, 5, none⟩ = some (.bool m) ∧ w'.cell? ⟨w.heap.size, 6, none⟩ = some (.int .i64 a) ∧ w'.cell? ⟨w.heap.size, 7, none⟩ = some (.int .u8 (c : Int)))
    (first | exact held8 HG.out (Below.refl _ _).drew | exact held8 HG.out (Below.refl _ _) | exact held8 HG.out (kept_trans (And.left (by assumption)) hb))
    (first
      | (go_at_call 117; with_reducible refine (HO.out _).mono ?_; rintro e wa ⟨rfl, hb⟩)
      | (go_at_call 116; with_reducible refine (HS.out _ (kept_trans HA.out (And.left (by assumption)))).mono ?_; rintro e wb ⟨rfl, hb⟩))
  have hS := And.left (by assumption : Below w1.heap.size w1 _ ∧ _)
  have H2 := kept_hid HA hS
  clear HO HS
  cases b with
  | false =>
    replace HW := Lib.hid (show wrong ⟨6, t, p, n, s, m, a, c⟩ z = 1 by have := HW.out; simp at this; exact this)
    clear hS
    go_wp2_with fail
    go_ret
    rw [HW.out, errv_1]
    exact ⟨rfl, H2.out⟩
  | true =>
    obtain ⟨_, c0, c1, c2, c3, c4, c5, c6, c7⟩ := held8 HG.out hS
    have HC := Lib.hid fun W => char_any c W hc
    cases hcc : char c with
    | false =>
      replace HW := Lib.hid (show wrong ⟨6, t, p, n, s, m, a, c⟩ z = 1 by have := HW.out; simp [hcc] at this; exact this)
      rw [hcc] at HC
      clear hcc
      go_wp2_with fail
      with_reducible refine (HC.out _).mono ?_
      rintro e w5 ⟨rfl, rfl⟩
      go_wp2_with fail
      go_ret
      rw [HW.out, errv_1]
      exact ⟨rfl, H2.out⟩
    | true =>
      replace HW := Lib.hid (show wrong ⟨6, t, p, n, s, m, a, c⟩ z = if a < 0 ∨ (z : Int) ≤ a then 4 else 0 by have := HW.out; simpa [hcc] using this)
      rw [hcc] at HC
      clear hcc
      go_wp2_with fail
      with_reducible refine (HC.out _).mono ?_
      rintro e w5 ⟨rfl, rfl⟩
      rcases int_cases a z with ha | ⟨u, rfl, ha⟩
      · replace HW := Lib.hid (show wrong ⟨6, t, p, n, s, m, a, c⟩ z = 4 by have := HW.out; rw [if_pos ha] at this; exact this)
        go_wp2_with fail
        with_reducible refine (Adr.put_none a z _ h1 h2 ha).mono ?_
        rintro e w5 ⟨rfl, hb5⟩
        have H5 := kept_hid H2 hb5
        clear hb5
        go_wp2_with fail
        go_ret
        rw [HW.out, errv_4]
        exact ⟨rfl, (kept_alloc H5 _).out⟩
      · replace HW := Lib.hid (show wrong ⟨6, t, p, n, s, m, (u : Int), c⟩ z = 0 by have := HW.out; rw [if_neg (show ¬ ((u : Int) < 0 ∨ (z : Int) ≤ (u : Int)) by omega)] at this; exact this)
        go_wp2_with fail
        with_reducible refine (Adr.put_all u z _ ha h2).mono ?_
        rintro e w5 ⟨rfl, hb5⟩
        have H5 := kept_hid H2 hb5
        clear hb5
        go_wp2_with fail
        go_ret
        rw [HW.out, errv_0]
        exact ⟨rfl, (kept_alloc H5 _).out⟩
set_option maxRecDepth 100000 in
set_option maxHeartbeats 4000000 in
theorem right_7 (ad : Option Addr) (len cap : Nat) (t : List Nat) (p n : Bool) (s : Int) (m : Bool) (a : Int) (c z : Nat) (w : World) (hB : BytesIn w (.slice ad len cap) t) (h8 : ∀ x ∈ t, x < 256) (hl : t.length < 1000000) (_hc : c < 256) (h1 : 1 ≤ z) (h2 : z ≤ 16383) :
    Calls Tryz.prog 110 #[.agg #[.int .i64 7, .slice ad len cap, .bool p, .bool n, .int .i64 s, .bool m, .int .i64 a, .int .u8 (c : Int)], .int .i64 (z : Int)] w fun e w' => e = .returned (errv (wrong ⟨7, t, p, n, s, m, a, c⟩ z)) ∧ Below w.heap.size w w' := by
  have HW : Hid (wrong ⟨7, t, p, n, s, m, a, c⟩ z = if same ⟨7, t, p, n, s, m, a, c⟩ (own ⟨7, t, p, n, s, m, a, c⟩) = false then 1 else if a < 0 ∨ (z : Int) ≤ a then 4 else 0) := by
    show wrong _ z = _
    unfold wrong
    rw [if_neg (by simp)]
    simp
  have HA : Hid (Below w.heap.size w (w.alloc (.cells #[.int .i64 7, .slice ad len cap, .bool p, .bool n, .int .i64 s, .bool m, .int .i64 a, .int .u8 (c : Int)] 130))) := (Below.refl _ _).alloc (Nat.le_refl _) _
  have HG := Lib.hid (heap_alloc_new w (.cells #[.int .i64 7, .slice ad len cap, .bool p, .bool n, .int .i64 s, .bool m, .int .i64 a, .int .u8 (c : Int)] 130))
  have HO := Lib.hid fun W => own_7 ad len cap p n s m a (c : Int) W
  have HS := Lib.hid fun W hb => same_any ⟨7, t, p, n, s, m, a, c⟩ ⟨7, [], false, false, 0, false, a, 0⟩ ad len cap none 0 0 W (bytes_below hB hb) (bytes_nil _) h8 (by simp) hl
  have e0 : own ⟨7, t, p, n, s, m, a, c⟩ = ⟨7, [], false, false, 0, false, a, 0⟩ := rfl
  rw [e0] at HW
  have e1 : ((0 : Nat) : Int) = 0 := rfl
  simp only [e1] at HS
  clear e1
  generalize same ⟨7, t, p, n, s, m, a, c⟩ ⟨7, [], false, false, 0, false, a, 0⟩ = b at HW HS
  clear e0
  clear hB h8
  go_enter Tryz.func110, Tryz.ntmps110
  go_wp2_with fail
  generalize w.alloc (.cells #[.int .i64 7, .slice ad len cap, .bool p, .bool n, .int .i64 s, .bool m, .int .i64 a, .int .u8 (c : Int)] 130) = w1 at HA HG ⊢
  go_region_held3 (fun w' => Below w1.heap.size w1 w' ∧ w'.cell? ⟨w.heap.size, 0, none⟩ = some (.int .i64 7) ∧ w'.cell? ⟨w.heap.size, 1, none⟩ = some (.slice ad len cap) ∧ w'.cell? ⟨w.heap.size, 2, none⟩ = some (.bool p) ∧ w'.cell? ⟨w.heap.size, 3, none⟩ = some (.bool n) ∧ w'.cell? ⟨w.heap.size, 4, none⟩ = some (.int .i64 s) ∧ w'.cell? ⟨w.heap.size, 5, none⟩ = some (.bool m) ∧ w'.cell? ⟨w.heap.size, 6, none⟩ = some (.int .i64 a) ∧ w'.cell? ⟨w.heap.size, 7, none⟩ = some (.int .u8 (c : Int)))
    (first | exact held8 HG.out (Below.refl _ _).drew | exact held8 HG.out (Below.refl _ _) | exact held8 HG.out (kept_trans (And.left (by assumption)) hb))
    (first
      | (go_at_call 117; with_reducible refine (HO.out _).mono ?_; rintro e wa ⟨rfl, hb⟩)
      | (go_at_call 116; with_reducible refine (HS.out _ (kept_trans HA.out (And.left (by assumption)))).mono ?_; rintro e wb ⟨rfl, hb⟩))
  have hS := And.left (by assumption : Below w1.heap.size w1 _ ∧ _)
  have H2 := kept_hid HA hS
  clear HO HS
  cases b with
  | false =>
    replace HW := Lib.hid (show wrong ⟨7, t, p, n, s, m, a, c⟩ z = 1 by have := HW.out; simp at this; exact this)
    clear hS
    go_wp2_with fail
    go_ret
    rw [HW.out, errv_1]
    exact ⟨rfl, H2.out⟩
  | true =>
    obtain ⟨_, c0, c1, c2, c3, c4, c5, c6, c7⟩ := held8 HG.out hS
    rcases int_cases a z with ha | ⟨u, rfl, ha⟩
    · replace HW := Lib.hid (show wrong ⟨7, t, p, n, s, m, a, c⟩ z = 4 by have := HW.out; simp only [if_pos ha] at this; simpa using this)
      go_wp2_with fail
      with_reducible refine (Adr.put_none a z _ h1 h2 ha).mono ?_
      rintro e w5 ⟨rfl, hb5⟩
      have H5 := kept_hid H2 hb5
      clear hb5
      go_wp2_with fail
      go_ret
      rw [HW.out, errv_4]
      exact ⟨rfl, (kept_alloc H5 _).out⟩
    · replace HW := Lib.hid (show wrong ⟨7, t, p, n, s, m, (u : Int), c⟩ z = 0 by have := HW.out; simp only [if_neg (show ¬ ((u : Int) < 0 ∨ (z : Int) ≤ (u : Int)) by omega)] at this; simpa using this)
      go_wp2_with fail
      with_reducible refine (Adr.put_all u z _ ha h2).mono ?_
      rintro e w5 ⟨rfl, hb5⟩
      have H5 := kept_hid H2 hb5
      clear hb5
      go_wp2_with fail
      go_ret
      rw [HW.out, errv_0]
      exact ⟨rfl, (kept_alloc H5 _).out⟩
set_option maxHeartbeats 1000000 in
theorem right_no (ad : Option Addr) (len cap : Nat) (k : Int) (p n : Bool) (s : Int) (m : Bool) (a : Int) (c : Int) (z : Int) (w : World) (hk : k < 1 ∨ 7 < k) :
    Calls Tryz.prog 110 #[.agg #[.int .i64 k, .slice ad len cap, .bool p, .bool n, .int .i64 s, .bool m, .int .i64 a, .int .u8 c], .int .i64 z] w fun e w' => e = .returned (errv 5) ∧ Below w.heap.size w w' := by
  rw [errv_5]
  by_cases h : k < 1
  · go_enter Tryz.func110, Tryz.ntmps110
    go_wp2_with fail
    go_ret
    exact ⟨rfl, (Below.refl _ _).alloc (Nat.le_refl _) _⟩
  · have h7 : 7 < k := by omega
    clear hk
    go_enter Tryz.func110, Tryz.ntmps110
    go_wp2_with fail
    go_ret
    exact ⟨rfl, (Below.refl _ _).alloc (Nat.le_refl _) _⟩
theorem right_any (o : O) (ad : Option Addr) (len cap z : Nat) (w : World) (hB : BytesIn w (.slice ad len cap) o.t) (h8 : ∀ x ∈ o.t, x < 256) (hl : o.t.length < 1000000) (hc : o.c < 256) (h1 : 1 ≤ z) (h2 : z ≤ 16383) :
    Calls Tryz.prog 110 #[.agg #[.int .i64 o.k, .slice ad len cap, .bool o.p, .bool o.n, .int .i64 o.s, .bool o.m, .int .i64 o.a, .int .u8 (o.c : Int)], .int .i64 (z : Int)] w fun e w' => e = .returned (errv (wrong o z)) ∧ Below w.heap.size w w' := by
  obtain ⟨k, t, p, n, s, m, a, c⟩ := o
  simp only at hB h8 hl hc ⊢
  by_cases hk : k < 1 ∨ 7 < k
  · have e : wrong ⟨k, t, p, n, s, m, a, c⟩ z = 5 := by unfold wrong; rw [if_pos hk]
    rw [e]
    exact right_no ad len cap k p n s m a c z w hk
  have hk : k = 1 ∨ k = 2 ∨ k = 3 ∨ k = 4 ∨ k = 5 ∨ k = 6 ∨ k = 7 := by omega
  rcases hk with rfl | rfl | rfl | rfl | rfl | rfl | rfl
  · exact right_1 ad len cap t p n s m a c z w hB h8 hl hc h1 h2
  · exact right_2 ad len cap t p n s m a c z w hB h8 hl hc h1 h2
  · exact right_3 ad len cap t p n s m a c z w hB h8 hl hc h1 h2
  · exact right_4 ad len cap t p n s m a c z w hB h8 hl hc h1 h2
  · exact right_5 ad len cap t p n s m a c z w hB h8 hl hc h1 h2
  · exact right_6 ad len cap t p n s m a c z w hB h8 hl hc h1 h2
  · exact right_7 ad len cap t p n s m a c z w hB h8 hl hc h1 h2
end Ord
end Go.Proofs.YtpgbnnnfeaodmaaGreatDoor
/- Put of package order: an order's bytes, in new memory. Written by tools/gen_ord_put.py. -/
namespace Go.Proofs.YtpgbnnnfeaodmaaGreatDoor
open Go.RowKit Sha Cut Err Six Att Apd
namespace Ord
set_option maxRecDepth 100000 in
set_option maxHeartbeats 4000000 in
theorem put_1 (ad : Option Addr) (len cap z : Nat)  (w : World) (t : List Nat) (h8 : ∀ x ∈ t, x < 256) (hl : t.length < 1000000) (hn : ad = none → len = 0 ∧ cap = 0) (hB : BytesIn w (.slice ad len cap) t)  (h0 : wrong ⟨1, t, false, false, 0, false, 0, 0⟩ z = 0) (h1 : 1 ≤ z) (h2 : z ≤ 16383) :
    Calls Tryz.prog 115 #[.agg #[.int .i64 1, .slice ad len cap, .bool false, .bool false, .int .i64 0, .bool false, .int .i64 0, .int .u8 0], .int .i64 (z : Int)] w fun e w' => ∃ v, e = .returned (.tuple #[v, .nilIface]) ∧ w'.ownsRow w.heap.size 5 1 v t.length (u8s t) ∧ Below w.heap.size w w' := by
  have HA : Hid (Below w.heap.size w (w.alloc (.cells #[.int .i64 1, .slice ad len cap, .bool false, .bool false, .int .i64 0, .bool false, .int .i64 0, .int .u8 0] 130))) := (Below.refl _ _).alloc (Nat.le_refl _) _
  have HG := Lib.hid (heap_alloc_new w (.cells #[.int .i64 1, .slice ad len cap, .bool false, .bool false, .int .i64 0, .bool false, .int .i64 0, .int .u8 0] 130))
  have HR := Lib.hid fun W hb => right_any ⟨1, t, false, false, 0, false, 0, 0⟩ ad len cap z W (bytes_below hB hb) h8 hl (by show (0 : Nat) < 256; decide) h1 h2
  simp only [h0, errv_0, show ((0 : Nat) : Int) = 0 from rfl] at HR
  have HB := Lib.hid hB
  have HN := Lib.hid hn
  have H8 := Lib.hid h8
  clear hn h8
  clear hB h0
  go_enter Tryz.func115, Tryz.ntmps115
  go_wp2_with fail
  generalize w.alloc (.cells #[.int .i64 1, .slice ad len cap, .bool false, .bool false, .int .i64 0, .bool false, .int .i64 0, .int .u8 0] 130) = w1 at HA HG ⊢
  with_reducible refine (HR.out _ HA.out).mono ?_
  rintro e w2 ⟨rfl, hb⟩
  have K2 := Lib.hid hb
  obtain ⟨c0, c1, c2, c3, c4, c5, c6, c7⟩ := cells8 (blk HG.out K2.out)
  have l2 : w.heap.size < w2.heap.size := Byt.lt_heap (blk HG.out K2.out)
  clear hb HR
  go_wp2_with fail
  have hlen : t.length = len := by obtain ⟨_, _, hv, _⟩ := HB.out; injection hv with _ e2 _; exact e2.symm
  subst hlen
  with_reducible refine (Byt.clone_any ad _ cap t _ (bytes_below HB.out (kept_hid HA K2.out).out) HN.out (by omega)).mono ?_
  rintro e w3 ⟨v, rfl, ho, hb⟩
  have K3 := kept_hid K2 hb
  have HO := Lib.hid (own_mono (b := w.heap.size) ho (Nat.le_trans HA.out.size K2.out.size))
  obtain ⟨va, vc, rfl⟩ := own_form ho
  clear ho hb c0 c1 c2 c3 c4 c5 c6 c7
  go_wp2_with fail
  go_ret2
  exact ⟨_, rfl, HO.out, (kept_hid HA K3.out).out⟩
set_option maxRecDepth 100000 in
set_option maxHeartbeats 4000000 in
theorem put_2 (ad : Option Addr) (len cap z : Nat) (p n m : Bool) (s : Nat) (w : World) (hB : BytesIn w (.slice ad len cap) []) (hs : s < 4) (h0 : wrong ⟨2, [], p, n, (s : Int), m, 0, 0⟩ z = 0) (h1 : 1 ≤ z) (h2 : z ≤ 16383) :
    Calls Tryz.prog 115 #[.agg #[.int .i64 2, .slice ad len cap, .bool p, .bool n, .int .i64 (s : Int), .bool m, .int .i64 0, .int .u8 0], .int .i64 (z : Int)] w fun e w' => ∃ v, e = .returned (.tuple #[v, .nilIface]) ∧ w'.ownsRow w.heap.size 5 1 v 2 (u8s [29, put (num p n m s)]) ∧ Below w.heap.size w w' := by
  have HA : Hid (Below w.heap.size w (w.alloc (.cells #[.int .i64 2, .slice ad len cap, .bool p, .bool n, .int .i64 (s : Int), .bool m, .int .i64 0, .int .u8 0] 130))) := (Below.refl _ _).alloc (Nat.le_refl _) _
  have HG := Lib.hid (heap_alloc_new w (.cells #[.int .i64 2, .slice ad len cap, .bool p, .bool n, .int .i64 (s : Int), .bool m, .int .i64 0, .int .u8 0] 130))
  have HR := Lib.hid fun W hb => right_any ⟨2, [], p, n, (s : Int), m, 0, 0⟩ ad len cap z W (bytes_below hB hb) (by simp) (by show (0 : Nat) < 1000000; decide) (by show (0 : Nat) < 256; decide) h1 h2
  simp only [h0, errv_0, show ((0 : Nat) : Int) = 0 from rfl] at HR
  clear hB h0
  go_enter Tryz.func115, Tryz.ntmps115
  go_wp2_with fail
  generalize w.alloc (.cells #[.int .i64 2, .slice ad len cap, .bool p, .bool n, .int .i64 (s : Int), .bool m, .int .i64 0, .int .u8 0] 130) = w1 at HA HG ⊢
  with_reducible refine (HR.out _ HA.out).mono ?_
  rintro e w2 ⟨rfl, hb⟩
  have K2 := Lib.hid hb
  obtain ⟨c0, c1, c2, c3, c4, c5, c6, c7⟩ := cells8 (blk HG.out K2.out)
  have l2 : w.heap.size < w2.heap.size := Byt.lt_heap (blk HG.out K2.out)
  clear hb HR
  go_wp2_with fail
  with_reducible refine (begins_2 _).mono ?_
  rintro e w' ⟨rfl, rfl⟩
  go_wp2_with fail
  with_reducible refine (put_ok p n m s _ hs).mono ?_
  rintro e w3 ⟨rfl, hb⟩
  have K3 := kept_hid (kept_alloc K2 _) hb
  have HO := Lib.hid (own_below (own_lit w2 w1.heap.size [29] K2.out.size (by decide)) hb)
  clear hb c0 c1 c2 c3 c4 c5 c6 c7
  have HS := Lib.hid (bytes_src (lit_in w3 [put (num p n m s)]))
  go_wp2_with (at_builtin; refine wpList_mark ?_)
  refine Lib.hid ?_
  refine append_own rfl (.tmp 38) (.tmp 40) rfl w1.heap.size _ 1 _ rfl (own_below HO.out (al_any _ _)) (some ⟨w3.heap.size, 0, none⟩) 1 1 [put (num p n m s)] rfl rfl nofun HS.out (by decide) ?_ ?_
  · exact Nat.le_trans K3.out.size (by simp)
  intro v4 w4 hown hgr _
  have HO4 := Lib.hid (show w4.ownsRow w1.heap.size 5 1 v4 2 (u8s [29, put (num p n m s)]) from hown)
  have K4 := Lib.hid (below_own (kept_alloc K3 _).out hgr (own_below HO.out (al_any _ _)))
  obtain ⟨va, vc, rfl⟩ := own_form hown
  obtain ⟨c0, c1, c2, c3, c4, c5, c6, c7⟩ := cells8 (blk HG.out K4.out)
  have l4 : w.heap.size < w4.heap.size := Byt.lt_heap (blk HG.out K4.out)
  clear hown hgr HO HS K3
  go_wp2_with fail
  go_ret2
  exact ⟨_, rfl, own_mono HO4.out HA.out.size, (kept_hid HA K4.out).out⟩
set_option maxRecDepth 100000 in
set_option maxHeartbeats 4000000 in
theorem put_3 (ad : Option Addr) (len cap z : Nat) (a : Nat) (w : World) (hB : BytesIn w (.slice ad len cap) []) (ha : a < z) (h0 : wrong ⟨3, [], false, false, 0, false, (a : Int), 0⟩ z = 0) (h1 : 1 ≤ z) (h2 : z ≤ 16383) :
    Calls Tryz.prog 115 #[.agg #[.int .i64 3, .slice ad len cap, .bool false, .bool false, .int .i64 0, .bool false, .int .i64 (a : Int), .int .u8 0], .int .i64 (z : Int)] w fun e w' => ∃ v, e = .returned (.tuple #[v, .nilIface]) ∧ w'.ownsRow w.heap.size 5 1 v 3 (u8s [17, Adr.first a z, Adr.second a z]) ∧ Below w.heap.size w w' := by
  have HA : Hid (Below w.heap.size w (w.alloc (.cells #[.int .i64 3, .slice ad len cap, .bool false, .bool false, .int .i64 0, .bool false, .int .i64 (a : Int), .int .u8 0] 130))) := (Below.refl _ _).alloc (Nat.le_refl _) _
  have HG := Lib.hid (heap_alloc_new w (.cells #[.int .i64 3, .slice ad len cap, .bool false, .bool false, .int .i64 0, .bool false, .int .i64 (a : Int), .int .u8 0] 130))
  have HR := Lib.hid fun W hb => right_any ⟨3, [], false, false, 0, false, (a : Int), 0⟩ ad len cap z W (bytes_below hB hb) (by simp) (by show (0 : Nat) < 1000000; decide) (by show (0 : Nat) < 256; decide) h1 h2
  simp only [h0, errv_0, show ((0 : Nat) : Int) = 0 from rfl] at HR
  clear hB h0
  go_enter Tryz.func115, Tryz.ntmps115
  go_wp2_with fail
  generalize w.alloc (.cells #[.int .i64 3, .slice ad len cap, .bool false, .bool false, .int .i64 0, .bool false, .int .i64 (a : Int), .int .u8 0] 130) = w1 at HA HG ⊢
  with_reducible refine (HR.out _ HA.out).mono ?_
  rintro e w2 ⟨rfl, hb⟩
  have K2 := Lib.hid hb
  obtain ⟨c0, c1, c2, c3, c4, c5, c6, c7⟩ := cells8 (blk HG.out K2.out)
  have l2 : w.heap.size < w2.heap.size := Byt.lt_heap (blk HG.out K2.out)
  clear hb HR
  go_wp2_with fail
  with_reducible refine (begins_3 _).mono ?_
  rintro e w' ⟨rfl, rfl⟩
  go_wp2_with fail
  with_reducible refine (Adr.put_all a z _ ha h2).mono ?_
  rintro e w3 ⟨rfl, hb⟩
  have K3 := kept_hid (kept_alloc K2 _) hb
  have HO := Lib.hid (own_below (own_lit w2 w1.heap.size [17] K2.out.size (by decide)) hb)
  clear hb c0 c1 c2 c3 c4 c5 c6 c7
  have HT := Lib.hid (heap_alloc_new w3 (.cells #[.int .u8 (Adr.first a z : Nat), .int .u8 (Adr.second a z : Nat)] 156))
  have HS := Lib.hid (bytes_src (two_in HT.out))
  go_wp2_with (at_builtin; refine wpList_mark ?_)
  refine Lib.hid ?_
  refine append_own rfl (.tmp 53) (.tmp 54) rfl w1.heap.size _ 1 _ rfl (own_below HO.out (al_any _ _)) (some ⟨w3.heap.size, 0, none⟩) 2 2 [Adr.first a z, Adr.second a z] rfl rfl nofun HS.out (by decide) ?_ ?_
  · exact Nat.le_trans K3.out.size (by simp)
  intro v4 w4 hown hgr _
  have HO4 := Lib.hid (show w4.ownsRow w1.heap.size 5 1 v4 3 (u8s [17, Adr.first a z, Adr.second a z]) from hown)
  have K4 := Lib.hid (below_own (kept_alloc K3 _).out hgr (own_below HO.out (al_any _ _)))
  obtain ⟨va, vc, rfl⟩ := own_form hown
  obtain ⟨c0, c1, c2, c3, c4, c5, c6, c7⟩ := cells8 (blk HG.out K4.out)
  have l4 : w.heap.size < w4.heap.size := Byt.lt_heap (blk HG.out K4.out)
  clear hown hgr HO HS HT K3
  go_wp2_with fail
  go_ret2
  exact ⟨_, rfl, own_mono HO4.out HA.out.size, (kept_hid HA K4.out).out⟩
set_option maxRecDepth 100000 in
set_option maxHeartbeats 4000000 in
theorem put_4 (ad : Option Addr) (len cap z : Nat)  (w : World) (hB : BytesIn w (.slice ad len cap) [])  (h0 : wrong ⟨4, [], false, false, 0, false, 0, 0⟩ z = 0) (h1 : 1 ≤ z) (h2 : z ≤ 16383) :
    Calls Tryz.prog 115 #[.agg #[.int .i64 4, .slice ad len cap, .bool false, .bool false, .int .i64 0, .bool false, .int .i64 0, .int .u8 0], .int .i64 (z : Int)] w fun e w' => ∃ v, e = .returned (.tuple #[v, .nilIface]) ∧ w'.ownsRow w.heap.size 5 1 v 1 (u8s [19]) ∧ Below w.heap.size w w' := by
  have HA : Hid (Below w.heap.size w (w.alloc (.cells #[.int .i64 4, .slice ad len cap, .bool false, .bool false, .int .i64 0, .bool false, .int .i64 0, .int .u8 0] 130))) := (Below.refl _ _).alloc (Nat.le_refl _) _
  have HG := Lib.hid (heap_alloc_new w (.cells #[.int .i64 4, .slice ad len cap, .bool false, .bool false, .int .i64 0, .bool false, .int .i64 0, .int .u8 0] 130))
  have HR := Lib.hid fun W hb => right_any ⟨4, [], false, false, 0, false, 0, 0⟩ ad len cap z W (bytes_below hB hb) (by simp) (by show (0 : Nat) < 1000000; decide) (by show (0 : Nat) < 256; decide) h1 h2
  simp only [h0, errv_0, show ((0 : Nat) : Int) = 0 from rfl] at HR
  clear hB h0
  go_enter Tryz.func115, Tryz.ntmps115
  go_wp2_with fail
  generalize w.alloc (.cells #[.int .i64 4, .slice ad len cap, .bool false, .bool false, .int .i64 0, .bool false, .int .i64 0, .int .u8 0] 130) = w1 at HA HG ⊢
  with_reducible refine (HR.out _ HA.out).mono ?_
  rintro e w2 ⟨rfl, hb⟩
  have K2 := Lib.hid hb
  obtain ⟨c0, c1, c2, c3, c4, c5, c6, c7⟩ := cells8 (blk HG.out K2.out)
  have l2 : w.heap.size < w2.heap.size := Byt.lt_heap (blk HG.out K2.out)
  clear hb HR
  go_wp2_with fail
  with_reducible refine (begins_4 _).mono ?_
  rintro e w' ⟨rfl, rfl⟩
  have HO := Lib.hid (own_mono (b := w.heap.size) (own_lit w2 w1.heap.size [19] K2.out.size (by decide)) HA.out.size)
  have K3 := kept_alloc K2 (.cells #[.int .u8 19] 5)
  go_wp2_with fail
  go_ret2
  exact ⟨_, rfl, HO.out, (kept_hid HA K3.out).out⟩
set_option maxRecDepth 100000 in
set_option maxHeartbeats 4000000 in
theorem put_5 (ad : Option Addr) (len cap z : Nat)  (w : World) (hB : BytesIn w (.slice ad len cap) [])  (h0 : wrong ⟨5, [], false, false, 0, false, 0, 0⟩ z = 0) (h1 : 1 ≤ z) (h2 : z ≤ 16383) :
    Calls Tryz.prog 115 #[.agg #[.int .i64 5, .slice ad len cap, .bool false, .bool false, .int .i64 0, .bool false, .int .i64 0, .int .u8 0], .int .i64 (z : Int)] w fun e w' => ∃ v, e = .returned (.tuple #[v, .nilIface]) ∧ w'.ownsRow w.heap.size 5 1 v 1 (u8s [5]) ∧ Below w.heap.size w w' := by
  have HA : Hid (Below w.heap.size w (w.alloc (.cells #[.int .i64 5, .slice ad len cap, .bool false, .bool false, .int .i64 0, .bool false, .int .i64 0, .int .u8 0] 130))) := (Below.refl _ _).alloc (Nat.le_refl _) _
  have HG := Lib.hid (heap_alloc_new w (.cells #[.int .i64 5, .slice ad len cap, .bool false, .bool false, .int .i64 0, .bool false, .int .i64 0, .int .u8 0] 130))
  have HR := Lib.hid fun W hb => right_any ⟨5, [], false, false, 0, false, 0, 0⟩ ad len cap z W (bytes_below hB hb) (by simp) (by show (0 : Nat) < 1000000; decide) (by show (0 : Nat) < 256; decide) h1 h2
  simp only [h0, errv_0, show ((0 : Nat) : Int) = 0 from rfl] at HR
  clear hB h0
  go_enter Tryz.func115, Tryz.ntmps115
  go_wp2_with fail
  generalize w.alloc (.cells #[.int .i64 5, .slice ad len cap, .bool false, .bool false, .int .i64 0, .bool false, .int .i64 0, .int .u8 0] 130) = w1 at HA HG ⊢
  with_reducible refine (HR.out _ HA.out).mono ?_
  rintro e w2 ⟨rfl, hb⟩
  have K2 := Lib.hid hb
  obtain ⟨c0, c1, c2, c3, c4, c5, c6, c7⟩ := cells8 (blk HG.out K2.out)
  have l2 : w.heap.size < w2.heap.size := Byt.lt_heap (blk HG.out K2.out)
  clear hb HR
  go_wp2_with fail
  with_reducible refine (begins_5 _).mono ?_
  rintro e w' ⟨rfl, rfl⟩
  have HO := Lib.hid (own_mono (b := w.heap.size) (own_lit w2 w1.heap.size [5] K2.out.size (by decide)) HA.out.size)
  have K3 := kept_alloc K2 (.cells #[.int .u8 5] 5)
  go_wp2_with fail
  go_ret2
  exact ⟨_, rfl, HO.out, (kept_hid HA K3.out).out⟩
set_option maxRecDepth 100000 in
set_option maxHeartbeats 4000000 in
theorem put_6 (ad : Option Addr) (len cap z : Nat) (a c : Nat) (w : World) (hB : BytesIn w (.slice ad len cap) []) (ha : a < z) (hc : c < 256) (h0 : wrong ⟨6, [], false, false, 0, false, (a : Int), c⟩ z = 0) (h1 : 1 ≤ z) (h2 : z ≤ 16383) :
    Calls Tryz.prog 115 #[.agg #[.int .i64 6, .slice ad len cap, .bool false, .bool false, .int .i64 0, .bool false, .int .i64 (a : Int), .int .u8 (c : Int)], .int .i64 (z : Int)] w fun e w' => ∃ v, e = .returned (.tuple #[v, .nilIface]) ∧ w'.ownsRow w.heap.size 5 1 v 4 (u8s [60, Adr.first a z, Adr.second a z, c]) ∧ Below w.heap.size w w' := by
  have HA : Hid (Below w.heap.size w (w.alloc (.cells #[.int .i64 6, .slice ad len cap, .bool false, .bool false, .int .i64 0, .bool false, .int .i64 (a : Int), .int .u8 (c : Int)] 130))) := (Below.refl _ _).alloc (Nat.le_refl _) _
  have HG := Lib.hid (heap_alloc_new w (.cells #[.int .i64 6, .slice ad len cap, .bool false, .bool false, .int .i64 0, .bool false, .int .i64 (a : Int), .int .u8 (c : Int)] 130))
  have HR := Lib.hid fun W hb => right_any ⟨6, [], false, false, 0, false, (a : Int), c⟩ ad len cap z W (bytes_below hB hb) (by simp) (by show (0 : Nat) < 1000000; decide) hc h1 h2
  simp only [h0, errv_0] at HR
  clear hB h0
  go_enter Tryz.func115, Tryz.ntmps115
  go_wp2_with fail
  generalize w.alloc (.cells #[.int .i64 6, .slice ad len cap, .bool false, .bool false, .int .i64 0, .bool false, .int .i64 (a : Int), .int .u8 (c : Int)] 130) = w1 at HA HG ⊢
  with_reducible refine (HR.out _ HA.out).mono ?_
  rintro e w2 ⟨rfl, hb⟩
  have K2 := Lib.hid hb
  obtain ⟨c0, c1, c2, c3, c4, c5, c6, c7⟩ := cells8 (blk HG.out K2.out)
  have l2 : w.heap.size < w2.heap.size := Byt.lt_heap (blk HG.out K2.out)
  clear hb HR
  go_wp2_with fail
  with_reducible refine (begins_6 _).mono ?_
  rintro e w' ⟨rfl, rfl⟩
  go_wp2_with fail
  with_reducible refine (Adr.put_all a z _ ha h2).mono ?_
  rintro e w3 ⟨rfl, hb⟩
  have K3 := kept_hid (kept_alloc K2 _) hb
  have HO := Lib.hid (own_below (own_lit w2 w1.heap.size [60] K2.out.size (by decide)) hb)
  clear hb c0 c1 c2 c3 c4 c5 c6 c7
  have HT := Lib.hid (heap_alloc_new w3 (.cells #[.int .u8 (Adr.first a z : Nat), .int .u8 (Adr.second a z : Nat)] 156))
  have HS := Lib.hid (bytes_src (two_in HT.out))
  go_wp2_with (at_builtin; refine wpList_mark ?_)
  refine Lib.hid ?_
  refine append_own rfl (.tmp 53) (.tmp 54) rfl w1.heap.size _ 1 _ rfl (own_below HO.out (al_any _ _)) (some ⟨w3.heap.size, 0, none⟩) 2 2 [Adr.first a z, Adr.second a z] rfl rfl nofun HS.out (by decide) ?_ ?_
  · exact Nat.le_trans K3.out.size (by simp)
  intro v4 w4 hown hgr _
  have HO4 := Lib.hid (show w4.ownsRow w1.heap.size 5 1 v4 3 (u8s [60, Adr.first a z, Adr.second a z]) from hown)
  have K4 := Lib.hid (below_own (kept_alloc K3 _).out hgr (own_below HO.out (al_any _ _)))
  obtain ⟨va, vc, rfl⟩ := own_form hown
  obtain ⟨c0, c1, c2, c3, c4, c5, c6, c7⟩ := cells8 (blk HG.out K4.out)
  have l4 : w.heap.size < w4.heap.size := Byt.lt_heap (blk HG.out K4.out)
  clear hown hgr HO HS HT K3
  have HS := Lib.hid (bytes_src (lit_in w4 [c]))
  go_wp2_with (at_builtin; refine wpList_mark ?_)
  refine Lib.hid ?_
  refine append_own rfl (.tmp 59) (.tmp 62) rfl w1.heap.size _ 3 _ rfl (own_below HO4.out (al_any _ _)) (some ⟨w4.heap.size, 0, none⟩) 1 1 [c] rfl rfl nofun HS.out (by decide) ?_ ?_
  · exact Nat.le_trans K4.out.size (by simp)
  intro v5 w5 hown hgr _
  have HO5 := Lib.hid (show w5.ownsRow w1.heap.size 5 1 v5 4 (u8s [60, Adr.first a z, Adr.second a z, c]) from hown)
  have K5 := Lib.hid (below_own (kept_alloc K4 _).out hgr (own_below HO4.out (al_any _ _)))
  obtain ⟨va5, vc5, rfl⟩ := own_form hown
  clear hown hgr HO4 HS K4 c0 c1 c2 c3 c4 c5 c6 c7
  go_wp2_with fail
  go_ret2
  exact ⟨_, rfl, own_mono HO5.out HA.out.size, (kept_hid HA K5.out).out⟩
set_option maxRecDepth 100000 in
set_option maxHeartbeats 4000000 in
theorem put_7 (ad : Option Addr) (len cap z : Nat) (a : Nat) (w : World) (hB : BytesIn w (.slice ad len cap) []) (ha : a < z) (h0 : wrong ⟨7, [], false, false, 0, false, (a : Int), 0⟩ z = 0) (h1 : 1 ≤ z) (h2 : z ≤ 16383) :
    Calls Tryz.prog 115 #[.agg #[.int .i64 7, .slice ad len cap, .bool false, .bool false, .int .i64 0, .bool false, .int .i64 (a : Int), .int .u8 0], .int .i64 (z : Int)] w fun e w' => ∃ v, e = .returned (.tuple #[v, .nilIface]) ∧ w'.ownsRow w.heap.size 5 1 v 3 (u8s [18, Adr.first a z, Adr.second a z]) ∧ Below w.heap.size w w' := by
  have HA : Hid (Below w.heap.size w (w.alloc (.cells #[.int .i64 7, .slice ad len cap, .bool false, .bool false, .int .i64 0, .bool false, .int .i64 (a : Int), .int .u8 0] 130))) := (Below.refl _ _).alloc (Nat.le_refl _) _
  have HG := Lib.hid (heap_alloc_new w (.cells #[.int .i64 7, .slice ad len cap, .bool false, .bool false, .int .i64 0, .bool false, .int .i64 (a : Int), .int .u8 0] 130))
  have HR := Lib.hid fun W hb => right_any ⟨7, [], false, false, 0, false, (a : Int), 0⟩ ad len cap z W (bytes_below hB hb) (by simp) (by show (0 : Nat) < 1000000; decide) (by show (0 : Nat) < 256; decide) h1 h2
  simp only [h0, errv_0, show ((0 : Nat) : Int) = 0 from rfl] at HR
  clear hB h0
  go_enter Tryz.func115, Tryz.ntmps115
  go_wp2_with fail
  generalize w.alloc (.cells #[.int .i64 7, .slice ad len cap, .bool false, .bool false, .int .i64 0, .bool false, .int .i64 (a : Int), .int .u8 0] 130) = w1 at HA HG ⊢
  with_reducible refine (HR.out _ HA.out).mono ?_
  rintro e w2 ⟨rfl, hb⟩
  have K2 := Lib.hid hb
  obtain ⟨c0, c1, c2, c3, c4, c5, c6, c7⟩ := cells8 (blk HG.out K2.out)
  have l2 : w.heap.size < w2.heap.size := Byt.lt_heap (blk HG.out K2.out)
  clear hb HR
  go_wp2_with fail
  with_reducible refine (begins_7 _).mono ?_
  rintro e w' ⟨rfl, rfl⟩
  go_wp2_with fail
  with_reducible refine (Adr.put_all a z _ ha h2).mono ?_
  rintro e w3 ⟨rfl, hb⟩
  have K3 := kept_hid (kept_alloc K2 _) hb
  have HO := Lib.hid (own_below (own_lit w2 w1.heap.size [18] K2.out.size (by decide)) hb)
  clear hb c0 c1 c2 c3 c4 c5 c6 c7
  have HT := Lib.hid (heap_alloc_new w3 (.cells #[.int .u8 (Adr.first a z : Nat), .int .u8 (Adr.second a z : Nat)] 156))
  have HS := Lib.hid (bytes_src (two_in HT.out))
  go_wp2_with (at_builtin; refine wpList_mark ?_)
  refine Lib.hid ?_
  refine append_own rfl (.tmp 53) (.tmp 54) rfl w1.heap.size _ 1 _ rfl (own_below HO.out (al_any _ _)) (some ⟨w3.heap.size, 0, none⟩) 2 2 [Adr.first a z, Adr.second a z] rfl rfl nofun HS.out (by decide) ?_ ?_
  · exact Nat.le_trans K3.out.size (by simp)
  intro v4 w4 hown hgr _
  have HO4 := Lib.hid (show w4.ownsRow w1.heap.size 5 1 v4 3 (u8s [18, Adr.first a z, Adr.second a z]) from hown)
  have K4 := Lib.hid (below_own (kept_alloc K3 _).out hgr (own_below HO.out (al_any _ _)))
  obtain ⟨va, vc, rfl⟩ := own_form hown
  obtain ⟨c0, c1, c2, c3, c4, c5, c6, c7⟩ := cells8 (blk HG.out K4.out)
  have l4 : w.heap.size < w4.heap.size := Byt.lt_heap (blk HG.out K4.out)
  clear hown hgr HO HS HT K3
  go_wp2_with fail
  go_ret2
  exact ⟨_, rfl, own_mono HO4.out HA.out.size, (kept_hid HA K4.out).out⟩
theorem put_right (o : O) (ad : Option Addr) (len cap z : Nat) (w : World) (hB : BytesIn w (.slice ad len cap) o.t) (h8 : ∀ x ∈ o.t, x < 256) (hl : o.t.length < 1000000) (hn : ad = none → len = 0 ∧ cap = 0) (hc : o.c < 256) (h0 : wrong o z = 0) (h1 : 1 ≤ z) (h2 : z ≤ 16383) :
    Calls Tryz.prog 115 #[.agg #[.int .i64 o.k, .slice ad len cap, .bool o.p, .bool o.n, .int .i64 o.s, .bool o.m, .int .i64 o.a, .int .u8 (o.c : Int)], .int .i64 (z : Int)] w fun e w' => ∃ v, e = .returned (.tuple #[v, .nilIface]) ∧ w'.ownsRow w.heap.size 5 1 v (obytes o z).length (u8s (obytes o z)) ∧ Below w.heap.size w w' := by
  rcases right_cases h0 with ⟨t, rfl, _, _⟩ | ⟨p, n, m, s, rfl, hs⟩ | ⟨a, rfl, ha⟩ | rfl | rfl | ⟨a, c, rfl, ha, _⟩ | ⟨a, rfl, ha⟩
  · exact put_1 ad len cap z w t h8 hl hn hB h0 h1 h2
  · exact put_2 ad len cap z p n m s w hB hs h0 h1 h2
  · exact put_3 ad len cap z a w hB ha h0 h1 h2
  · exact put_4 ad len cap z w hB h0 h1 h2
  · exact put_5 ad len cap z w hB h0 h1 h2
  · exact put_6 ad len cap z a c w hB ha hc h0 h1 h2
  · exact put_7 ad len cap z a w hB ha h0 h1 h2
theorem errv_pos {c : Nat} (h : c ≠ 0) : errv c = .iface 48 (.int .i64 (c : Int)) := if_neg h
set_option maxHeartbeats 1000000 in
theorem put_wrong (o : O) (ad : Option Addr) (len cap z : Nat) (w : World) (hB : BytesIn w (.slice ad len cap) o.t) (h8 : ∀ x ∈ o.t, x < 256) (hl : o.t.length < 1000000) (hc : o.c < 256) (h0 : wrong o z ≠ 0) (h1 : 1 ≤ z) (h2 : z ≤ 16383) :
    Calls Tryz.prog 115 #[.agg #[.int .i64 o.k, .slice ad len cap, .bool o.p, .bool o.n, .int .i64 o.s, .bool o.m, .int .i64 o.a, .int .u8 (o.c : Int)], .int .i64 (z : Int)] w fun e w' => e = .returned (.tuple #[.slice none 0 0, .iface 48 (.int .i64 (wrong o z : Nat))]) ∧ Below w.heap.size w w' := by
  have HR := fun W hb => right_any o ad len cap z W (bytes_below hB hb) h8 hl hc h1 h2
  rw [errv_pos h0] at HR
  obtain ⟨k, t, p, n, s, m, a, c⟩ := o
  generalize wrong _ z = u at HR h0 ⊢
  simp only at HR ⊢
  have HR := Lib.hid HR
  have HA : Hid (Below w.heap.size w (w.alloc (.cells #[.int .i64 k, .slice ad len cap, .bool p, .bool n, .int .i64 s, .bool m, .int .i64 a, .int .u8 (c : Int)] 130))) := (Below.refl _ _).alloc (Nat.le_refl _) _
  clear hB h8 hl hc h0
  go_enter Tryz.func115, Tryz.ntmps115
  go_wp2_with fail
  generalize w.alloc _ = w1 at HA ⊢
  with_reducible refine (HR.out _ HA.out).mono ?_
  rintro e w2 ⟨rfl, hb⟩
  have K2 := kept_hid HA hb
  clear hb HR
  go_wp2_with fail
  go_ret2
  exact ⟨rfl, K2.out⟩
end Ord
end Go.Proofs.YtpgbnnnfeaodmaaGreatDoor
