/- SlEq, OrdOwn, OrdSame, OrdBegin, OrdText, OrdRight, OrdPut, OrdKind, OrdTake, OrdGet, OrdGot in one text (by tools/bundle.py). -/
import Derived.Test.YtpdlpmbjhopnnaaGreatDoorBunBase
import Derived.Deep.LoopGhost
import Derived.Test.YtpdlpmbjhopnnaaGreatDoorBunPlain
import Derived.Test.YtpdlpmbjhopnnaaGreatDoorBunRsm
import Derived.Test.YtpdlpmbjhopnnaaGreatDoorProg
import Derived.WalkKit
import Derived.Test.YtpdlpmbjhopnnaaGreatDoorBunLow
import Derived.Deep.RegionHeld3
import Derived.Test.YtpdlpmbjhopnnaaGreatDoorBunByt
/- Equal of package slices, of bytes. -/
namespace Go.Proofs.YtpdlpmbjhopnnaaGreatDoor
open Go.RowKit Sha Cut Err Six
namespace Ord
set_option maxRecDepth 100000 in
set_option maxHeartbeats 1000000 in
theorem equal_any (v1 v2 : Value) (xs ys : List Nat) (w : World) (h1 : BytesIn w v1 xs) (h2 : BytesIn w v2 ys) (hx8 : ∀ x ∈ xs, x < 256) (hy8 : ∀ x ∈ ys, x < 256) (hl : xs.length < 1000000) :
    Calls Tryz.prog 100 #[v1, v2] w fun e w' => e = .returned (.bool (decide (xs = ys))) ∧ ∃ k, w' = w.drewN k := by
  obtain ⟨ad1, c1, rfl, _, h1⟩ := h1
  obtain ⟨ad2, c2, rfl, _, h2⟩ := h2
  have H1 := Lib.hid h1
  have H2 := Lib.hid h2
  clear h1 h2
  by_cases hne : xs.length = ys.length
  · have HQ := Lib.hid (fun h => Sam.eq_of_getD (xs := xs) (ys := ys) hne h)
    have HL := Lib.hid hne
    rw [← hne]
    clear hne
    go_enter Tryz.func100, Tryz.ntmps100
    go_wp2_with fail
    go_loopg [13] (xs.length + 1) (fun n i wr => ∃ k : Nat, k ≤ xs.length ∧ n = xs.length + 1 - k ∧ i = .int .i64 k ∧ Hid (∀ i, i < k → xs.getD i 0 = ys.getD i 0) ∧ ∃ n, wr = w.drewN n)
    case atStart => exact ⟨0, Nat.zero_le _, rfl, rfl, Lib.hid fun i hi => absurd hi (by omega), 0, rfl⟩
    case round =>
      obtain ⟨k, hk, rfl, rfl, hall, n, rfl⟩ := hrel
      by_cases hlt : k < xs.length
      · rcases H1.out with h0 | ⟨g1, o1, rfl, hc1⟩
        · rw [h0] at hlt; simp at hlt
        rcases H2.out with h0 | ⟨g2, o2, rfl, hc2⟩
        · have := HL.out; rw [h0, List.length_nil] at this; omega
        have d1 := hc1 k hlt
        have d2 := hc2 k (by have := HL.out; omega)
        have hx := byte_lt hx8 (by decide) k
        have hy := byte_lt hy8 (by decide) k
        have HA := Lib.hid (show xs.getD k 0 = ys.getD k 0 → ∀ i, i < k + 1 → xs.getD i 0 = ys.getD i 0 from fun h i hi => by
          rcases Nat.lt_or_ge i k with h' | h'
          · exact hall.out i h'
          · obtain rfl : i = k := by omega
            exact h)
        have HF := Lib.hid (show xs.getD k 0 ≠ ys.getD k 0 → decide (xs = ys) = false from fun h => by
          simp only [decide_eq_false_iff_not]; intro e; exact h (by rw [e]))
        generalize xs.getD k 0 = x at d1 hx HA HF
        generalize ys.getD k 0 = y at d2 hy HA HF
        have hi0 : (0 : Int) ≤ (k : Int) := by omega
        have hi1 : (k : Int) < (xs.length : Int) := by omega
        have ew : IntKind.i64.wrap ((k : Int) + 1) = (k : Int) + 1 := by
          rw [IntWalk.i64_in] <;> omega
        clear hc1 hc2 hall
        by_cases hxy : x = y
        · subst hxy
          go_wp2_with fail
          go_quiet (fail)
          go_wp2_with fail
          go_roundg (xs.length + 1 - (k + 1))
          case measure => omega
          case rel => exact ⟨k + 1, by omega, rfl, by go_num, Lib.hid (HA.out (by first | trivial | rfl)), n + nq, by first | rfl | simp [World.drewN, Nat.add_assoc]⟩
        · have hb : ((x : Int) != (y : Int)) = true := by simp; omega
          have hb2 : ((x : Int) == (y : Int)) = false := by simp; omega
          have HFF := Lib.hid (HF.out hxy)
          clear hxy HF HA
          go_wp2_with fail
          go_quiet (fail)
          go_wp2_with fail
          go_ret
          refine ⟨?_, n + nq, by first | rfl | simp [World.drewN, Nat.add_assoc]⟩
          rw [HFF.out]; rfl
      · have hge : xs.length ≤ k := by omega
        have HE := Lib.hid (show decide (xs = ys) = true from by simp only [decide_eq_true_eq]; exact HQ.out fun i hi => hall.out i (by omega))
        clear hlt hall
        go_wp2_with fail
        go_ret
        refine ⟨?_, n, rfl⟩
        rw [HE.out]; rfl
  · have HNE := Lib.hid hne
    have hb : ((xs.length : Int) != (ys.length : Int)) = true := by simp; omega
    have HF := Lib.hid (show decide (xs = ys) = false by simp only [decide_eq_false_iff_not]; intro e; exact hne (by rw [e]))
    clear hne
    go_enter Tryz.func100, Tryz.ntmps100
    go_wp2_with fail
    go_ret
    refine ⟨?_, 0, rfl⟩
    rw [HF.out]; rfl
end Ord
end Go.Proofs.YtpdlpmbjhopnnaaGreatDoor
/- own and Same of package order; Equal of slices of bytes. Written by tools/gen_ord_own.py. -/
namespace Go.Proofs.YtpdlpmbjhopnnaaGreatDoor
open Go.RowKit Sha Cut Err Six
namespace Ord
theorem mid3 (w : World) (x y z : Array Value) (t : TypeId) : (((w.alloc (.cells x t)).alloc (.cells y t)).alloc (.cells z t)).heap[w.heap.size + 1]? = some (.cells y t (0, 0)) := by
  have h := heap_alloc_new (w.alloc (.cells x t)) (.cells y t)
  rw [World.size_alloc] at h
  exact (((Below.refl _ _).alloc (Nat.le_refl _) (.cells z t)).block _ (by simp)).trans h
theorem below3 (w : World) (x y z : Obj) : Below w.heap.size w (((w.alloc x).alloc y).alloc z) := (((Below.refl _ _).alloc (Nat.le_refl _) _).alloc (by simp) _).alloc (by simp <;> omega) _
set_option maxRecDepth 100000 in
set_option maxHeartbeats 2000000 in
theorem own_1 (ad : Option Addr) (len cap : Nat) (p n : Bool) (s : Int) (m : Bool) (a c : Int) (w : World) :
    Calls Tryz.prog 84 #[.agg #[.int .i64 1, .slice ad len cap, .bool p, .bool n, .int .i64 s, .bool m, .int .i64 a, .int .u8 c]] w fun e w' => e = .returned (.agg #[.int .i64 1, .slice ad len cap, .bool false, .bool false, .int .i64 0, .bool false, .int .i64 0, .int .u8 0]) ∧ Below w.heap.size w w' := by
  go_enter Tryz.func84, Tryz.ntmps84
  go_wp2
  exact bodyPost_ret (v := .agg #[.int .i64 1, .slice ad len cap, .bool false, .bool false, .int .i64 0, .bool false, .int .i64 0, .int .u8 0]) (results_cell_row rfl _ _ (w.heap.size + 1) 76 _ (0, 0) _ rfl (mid3 ..) Tryz.underlying76 rfl (by kernel_rfl)) rfl ⟨rfl, below3 ..⟩
set_option maxRecDepth 100000 in
set_option maxHeartbeats 2000000 in
theorem own_2 (ad : Option Addr) (len cap : Nat) (p n : Bool) (s : Int) (m : Bool) (a c : Int) (w : World) :
    Calls Tryz.prog 84 #[.agg #[.int .i64 2, .slice ad len cap, .bool p, .bool n, .int .i64 s, .bool m, .int .i64 a, .int .u8 c]] w fun e w' => e = .returned (.agg #[.int .i64 2, .slice none 0 0, .bool p, .bool n, .int .i64 s, .bool m, .int .i64 0, .int .u8 0]) ∧ Below w.heap.size w w' := by
  go_enter Tryz.func84, Tryz.ntmps84
  go_wp2
  exact bodyPost_ret (v := .agg #[.int .i64 2, .slice none 0 0, .bool p, .bool n, .int .i64 s, .bool m, .int .i64 0, .int .u8 0]) (results_cell_row rfl _ _ (w.heap.size + 1) 76 _ (0, 0) _ rfl (mid3 ..) Tryz.underlying76 rfl (by kernel_rfl)) rfl ⟨rfl, below3 ..⟩
set_option maxRecDepth 100000 in
set_option maxHeartbeats 2000000 in
theorem own_3 (ad : Option Addr) (len cap : Nat) (p n : Bool) (s : Int) (m : Bool) (a c : Int) (w : World) :
    Calls Tryz.prog 84 #[.agg #[.int .i64 3, .slice ad len cap, .bool p, .bool n, .int .i64 s, .bool m, .int .i64 a, .int .u8 c]] w fun e w' => e = .returned (.agg #[.int .i64 3, .slice none 0 0, .bool false, .bool false, .int .i64 0, .bool false, .int .i64 a, .int .u8 0]) ∧ Below w.heap.size w w' := by
  go_enter Tryz.func84, Tryz.ntmps84
  go_wp2
  exact bodyPost_ret (v := .agg #[.int .i64 3, .slice none 0 0, .bool false, .bool false, .int .i64 0, .bool false, .int .i64 a, .int .u8 0]) (results_cell_row rfl _ _ (w.heap.size + 1) 76 _ (0, 0) _ rfl (mid3 ..) Tryz.underlying76 rfl (by kernel_rfl)) rfl ⟨rfl, below3 ..⟩
set_option maxRecDepth 100000 in
set_option maxHeartbeats 2000000 in
theorem own_4 (ad : Option Addr) (len cap : Nat) (p n : Bool) (s : Int) (m : Bool) (a c : Int) (w : World) :
    Calls Tryz.prog 84 #[.agg #[.int .i64 4, .slice ad len cap, .bool p, .bool n, .int .i64 s, .bool m, .int .i64 a, .int .u8 c]] w fun e w' => e = .returned (.agg #[.int .i64 4, .slice none 0 0, .bool false, .bool false, .int .i64 0, .bool false, .int .i64 0, .int .u8 0]) ∧ Below w.heap.size w w' := by
  go_enter Tryz.func84, Tryz.ntmps84
  go_wp2
  exact bodyPost_ret (v := .agg #[.int .i64 4, .slice none 0 0, .bool false, .bool false, .int .i64 0, .bool false, .int .i64 0, .int .u8 0]) (results_cell_row rfl _ _ (w.heap.size + 1) 76 _ (0, 0) _ rfl (mid3 ..) Tryz.underlying76 rfl (by kernel_rfl)) rfl ⟨rfl, below3 ..⟩
set_option maxRecDepth 100000 in
set_option maxHeartbeats 2000000 in
theorem own_5 (ad : Option Addr) (len cap : Nat) (p n : Bool) (s : Int) (m : Bool) (a c : Int) (w : World) :
    Calls Tryz.prog 84 #[.agg #[.int .i64 5, .slice ad len cap, .bool p, .bool n, .int .i64 s, .bool m, .int .i64 a, .int .u8 c]] w fun e w' => e = .returned (.agg #[.int .i64 5, .slice none 0 0, .bool false, .bool false, .int .i64 0, .bool false, .int .i64 0, .int .u8 0]) ∧ Below w.heap.size w w' := by
  go_enter Tryz.func84, Tryz.ntmps84
  go_wp2
  exact bodyPost_ret (v := .agg #[.int .i64 5, .slice none 0 0, .bool false, .bool false, .int .i64 0, .bool false, .int .i64 0, .int .u8 0]) (results_cell_row rfl _ _ (w.heap.size + 1) 76 _ (0, 0) _ rfl (mid3 ..) Tryz.underlying76 rfl (by kernel_rfl)) rfl ⟨rfl, below3 ..⟩
set_option maxRecDepth 100000 in
set_option maxHeartbeats 2000000 in
theorem own_6 (ad : Option Addr) (len cap : Nat) (p n : Bool) (s : Int) (m : Bool) (a c : Int) (w : World) :
    Calls Tryz.prog 84 #[.agg #[.int .i64 6, .slice ad len cap, .bool p, .bool n, .int .i64 s, .bool m, .int .i64 a, .int .u8 c]] w fun e w' => e = .returned (.agg #[.int .i64 6, .slice none 0 0, .bool false, .bool false, .int .i64 0, .bool false, .int .i64 a, .int .u8 c]) ∧ Below w.heap.size w w' := by
  go_enter Tryz.func84, Tryz.ntmps84
  go_wp2
  exact bodyPost_ret (v := .agg #[.int .i64 6, .slice none 0 0, .bool false, .bool false, .int .i64 0, .bool false, .int .i64 a, .int .u8 c]) (results_cell_row rfl _ _ (w.heap.size + 1) 76 _ (0, 0) _ rfl (mid3 ..) Tryz.underlying76 rfl (by kernel_rfl)) rfl ⟨rfl, below3 ..⟩
set_option maxRecDepth 100000 in
set_option maxHeartbeats 2000000 in
theorem own_7 (ad : Option Addr) (len cap : Nat) (p n : Bool) (s : Int) (m : Bool) (a c : Int) (w : World) :
    Calls Tryz.prog 84 #[.agg #[.int .i64 7, .slice ad len cap, .bool p, .bool n, .int .i64 s, .bool m, .int .i64 a, .int .u8 c]] w fun e w' => e = .returned (.agg #[.int .i64 7, .slice none 0 0, .bool false, .bool false, .int .i64 0, .bool false, .int .i64 a, .int .u8 0]) ∧ Below w.heap.size w w' := by
  go_enter Tryz.func84, Tryz.ntmps84
  go_wp2
  exact bodyPost_ret (v := .agg #[.int .i64 7, .slice none 0 0, .bool false, .bool false, .int .i64 0, .bool false, .int .i64 a, .int .u8 0]) (results_cell_row rfl _ _ (w.heap.size + 1) 76 _ (0, 0) _ rfl (mid3 ..) Tryz.underlying76 rfl (by kernel_rfl)) rfl ⟨rfl, below3 ..⟩
end Ord
end Go.Proofs.YtpdlpmbjhopnnaaGreatDoor
/- Same of package order. -/
namespace Go.Proofs.YtpdlpmbjhopnnaaGreatDoor
open Go.RowKit Sha Cut Err Six
namespace Ord
set_option maxRecDepth 100000 in
set_option maxHeartbeats 2000000 in
theorem same_any (x y : O) (a1 : Option Addr) (l1 c1 : Nat) (a2 : Option Addr) (l2 c2 : Nat) (w : World) (h1 : BytesIn w (.slice a1 l1 c1) x.t) (h2 : BytesIn w (.slice a2 l2 c2) y.t) (hx8 : ∀ b ∈ x.t, b < 256) (hy8 : ∀ b ∈ y.t, b < 256) (hl : x.t.length < 1000000) :
    Calls Tryz.prog 83 #[.agg #[.int .i64 x.k, .slice a1 l1 c1, .bool x.p, .bool x.n, .int .i64 x.s, .bool x.m, .int .i64 x.a, .int .u8 (x.c : Int)], .agg #[.int .i64 y.k, .slice a2 l2 c2, .bool y.p, .bool y.n, .int .i64 y.s, .bool y.m, .int .i64 y.a, .int .u8 (y.c : Int)]] w fun e w' => e = .returned (.bool (same x y)) ∧ Below w.heap.size w w' := by
  obtain ⟨xk, xt, xp, xn, xs, xm, xa, xc⟩ := x
  obtain ⟨yk, yt, yp, yn, ys, ym, ya, yc⟩ := y
  simp only at h1 h2 hx8 hy8 hl ⊢
  have HE := Lib.hid fun W hb => equal_any _ _ xt yt W (bytes_below h1 hb) (bytes_below h2 hb) hx8 hy8 hl
  have HS := Lib.hid (show same ⟨xk, xt, xp, xn, xs, xm, xa, xc⟩ ⟨yk, yt, yp, yn, ys, ym, ya, yc⟩ = ((xk == yk) && (decide (xt = yt) && ((xp == yp && (xn == yn && (xs == ys && xm == ym))) && ((xa == ya) && ((xc : Int) == (yc : Int)))))) by
    simp only [same]
    have e1 : decide (xk = yk) = (xk == yk) := by rw [Bool.eq_iff_iff]; simp
    have e2 : decide (xs = ys) = (xs == ys) := by rw [Bool.eq_iff_iff]; simp
    have e3 : decide (xa = ya) = (xa == ya) := by rw [Bool.eq_iff_iff]; simp
    have e4 : decide (xc = yc) = ((xc : Int) == (yc : Int)) := by rw [Bool.eq_iff_iff]; simp; omega
    rw [e1, e2, e3, e4])
  generalize same _ _ = r at HS ⊢
  generalize decide (xt = yt) = bt at HE HS
  clear h1 h2 hx8 hy8 hl
  generalize hk : (xk == yk) = bk at HS
  cases bk with
  | false =>
    go_enter Tryz.func83, Tryz.ntmps83
    go_wp2
    go_ret
    rw [HS.out]
    refine ⟨rfl, ?_⟩
    exact ((Below.refl _ _).alloc (Nat.le_refl _) _).alloc (by simp) _
  | true =>
    go_enter Tryz.func83, Tryz.ntmps83
    go_wp2_with fail
    refine (HE.out _ (al2 ..)).mono ?_
    rintro e w1 ⟨rfl, m, rfl⟩
    cases bt with
    | false =>
      go_wp2
      go_ret
      rw [HS.out]
      exact ⟨rfl, (al2 ..).trans (below_drewN _ _ _)⟩
    | true =>
      generalize hp : (xp == yp && (xn == yn && (xs == ys && xm == ym))) = bp at HS
      go_wp2
      all_goals
        go_ret
        refine ⟨?_, (al2 ..).trans (below_drewN _ _ _)⟩
        have hr := HS.out
        subst hp
        clear HS HE
        simp_all
end Ord
end Go.Proofs.YtpdlpmbjhopnnaaGreatDoor
/- begins of package order. Written by tools/gen_ord_put.py. -/
namespace Go.Proofs.YtpdlpmbjhopnnaaGreatDoor
open Go.RowKit
namespace Ord
theorem begins_2 (w : World) : Calls Tryz.prog 141 #[.int .i64 2] w fun e w' => e = .returned (.int .u8 29) ∧ w = w' := by
  go_enter Tryz.func141, Tryz.ntmps141
  go_wp2
  go_ret
  exact ⟨rfl, rfl⟩
theorem begins_3 (w : World) : Calls Tryz.prog 141 #[.int .i64 3] w fun e w' => e = .returned (.int .u8 17) ∧ w = w' := by
  go_enter Tryz.func141, Tryz.ntmps141
  go_wp2
  go_ret
  exact ⟨rfl, rfl⟩
theorem begins_4 (w : World) : Calls Tryz.prog 141 #[.int .i64 4] w fun e w' => e = .returned (.int .u8 19) ∧ w = w' := by
  go_enter Tryz.func141, Tryz.ntmps141
  go_wp2
  go_ret
  exact ⟨rfl, rfl⟩
theorem begins_5 (w : World) : Calls Tryz.prog 141 #[.int .i64 5] w fun e w' => e = .returned (.int .u8 5) ∧ w = w' := by
  go_enter Tryz.func141, Tryz.ntmps141
  go_wp2
  go_ret
  exact ⟨rfl, rfl⟩
theorem begins_6 (w : World) : Calls Tryz.prog 141 #[.int .i64 6] w fun e w' => e = .returned (.int .u8 60) ∧ w = w' := by
  go_enter Tryz.func141, Tryz.ntmps141
  go_wp2
  go_ret
  exact ⟨rfl, rfl⟩
theorem begins_7 (w : World) : Calls Tryz.prog 141 #[.int .i64 7] w fun e w' => e = .returned (.int .u8 18) ∧ w = w' := by
  go_enter Tryz.func141, Tryz.ntmps141
  go_wp2
  go_ret
  exact ⟨rfl, rfl⟩
end Ord
end Go.Proofs.YtpdlpmbjhopnnaaGreatDoor
/- checkText of package order. -/
namespace Go.Proofs.YtpdlpmbjhopnnaaGreatDoor
open Go.RowKit Sha Cut Err Six Att
namespace Ord
/-- An error that is a number (0: nil). -/
def errv (c : Nat) : Value := if c = 0 then .nilIface else .iface 71 (.int .i64 (c : Int))
/-- What is wrong with characters. -/
def tcode (xs : List Nat) : Nat := if xs = [] ∨ xs.all char = false then 1 else 0
theorem all_to {xs : List Nat} {f : Nat → Bool} (h : ∀ i, i < xs.length → f (xs.getD i 0) = true) : xs.all f = true := by
  rw [List.all_eq_true]
  intro x hx
  obtain ⟨i, hi, rfl⟩ := List.getElem_of_mem hx
  have := h i hi
  rwa [List.getD_eq_getElem?_getD, List.getElem?_eq_getElem hi] at this
theorem not_all {xs : List Nat} {f : Nat → Bool} {i : Nat} (hi : i < xs.length) (h : f (xs.getD i 0) = false) : xs.all f = false := by
  rw [List.getD_eq_getElem?_getD, List.getElem?_eq_getElem hi] at h
  rw [List.all_eq_false]
  exact ⟨_, List.getElem_mem hi, by simpa using h⟩
set_option maxRecDepth 100000 in
set_option maxHeartbeats 1000000 in
theorem text_empty (ad : Option Addr) (cap : Nat) (w : World) :
    Calls Tryz.prog 85 #[.slice ad 0 cap] w fun e w' => e = .returned (.iface 71 (.int .i64 1)) ∧ w = w' := by
  go_enter Tryz.func85, Tryz.ntmps85
  go_wp2_with fail
  go_ret
  exact ⟨rfl, rfl⟩
set_option maxRecDepth 100000 in
set_option maxHeartbeats 1000000 in
theorem text_any (ad : Option Addr) (len cap : Nat) (xs : List Nat) (w : World) (hB : BytesIn w (.slice ad len cap) xs) (h8 : ∀ x ∈ xs, x < 256) (hl : xs.length < 1000000) (h0 : xs ≠ []) :
    Calls Tryz.prog 85 #[.slice ad len cap] w fun e w' => e = .returned (errv (tcode xs)) ∧ w = w' := by
  obtain ⟨ad1, c1, hv, _, h1⟩ := hB
  injection hv with e1 e2 e3
  subst e1 e2 e3
  have hpos : 0 < xs.length := List.length_pos_iff.2 h0
  have hne : ((xs.length : Int) == 0) = false := by simp; omega
  rcases h1 with h1 | ⟨g, o, rfl, hc⟩
  · exact absurd h1 h0
  have HC := Lib.hid fun b W hb => char_any b W hb
  have HA := Lib.hid hc
  have H8 := Lib.hid fun k => byte_lt h8 (by decide) k
  clear h0 h8 hc
  go_enter Tryz.func85, Tryz.ntmps85
  go_wp2_with fail
  go_loopg [11] (xs.length + 1) (fun n i wr => wr = w ∧ ∃ k : Nat, k ≤ xs.length ∧ n = xs.length + 1 - k ∧ i = .int .i64 k ∧ Hid (∀ i, i < k → char (xs.getD i 0) = true))
  case atStart => exact ⟨rfl, 0, Nat.zero_le _, rfl, rfl, Lib.hid fun i hi => absurd hi (by omega)⟩
  case round =>
    obtain ⟨rfl, k, hk, rfl, rfl, hall⟩ := hrel
    by_cases hlt : k < xs.length
    · have c0 := HA.out k hlt
      have hb := H8.out k
      have HN := Lib.hid (show char (xs.getD k 0) = true → ∀ i, i < k + 1 → char (xs.getD i 0) = true from fun h i hi => by
          rcases Nat.lt_or_ge i k with h' | h'
          · exact hall.out i h'
          · obtain rfl : i = k := by omega
            exact h)
      have HF := Lib.hid (show char (xs.getD k 0) = false → tcode xs = 1 from fun h => by unfold tcode; rw [if_pos (.inr (not_all hlt h))])
      generalize xs.getD k 0 = b at c0 hb HN HF
      have hi0 : (0 : Int) ≤ (k : Int) := by omega
      have hi1 : (k : Int) < (xs.length : Int) := by omega
      have ew : IntKind.i64.wrap ((k : Int) + 1) = (k : Int) + 1 := by
        rw [IntWalk.i64_in] <;> omega
      clear hall
      go_wp2_with fail
      refine (HC.out b _ hb).mono ?_
      rintro e w' ⟨rfl, rfl⟩
      cases hcb : char b with
      | true =>
        have HN2 := Lib.hid (HN.out hcb)
        clear HN HF hcb
        go_wp2_with fail
        go_roundg (xs.length + 1 - (k + 1))
        case measure => omega
        case rel => exact ⟨rfl, k + 1, by omega, rfl, by go_num, HN2⟩
      | false =>
        have HF2 := Lib.hid (HF.out hcb)
        clear HN HF hcb
        go_wp2_with fail
        go_ret
        refine ⟨?_, rfl⟩
        rw [HF2.out]; rfl
    · have HE := Lib.hid (show tcode xs = 0 by
        have h1 := all_to (xs := xs) (f := char) fun i hi => hall.out i (by omega)
        have h2 : xs ≠ [] := List.length_pos_iff.1 hpos
        unfold tcode; rw [if_neg (by rw [h1]; simp [h2])])
      have hge : xs.length ≤ k := by omega
      clear hlt hall
      go_wp2_with fail
      go_ret
      refine ⟨?_, rfl⟩
      rw [HE.out]; rfl
end Ord
end Go.Proofs.YtpdlpmbjhopnnaaGreatDoor
/- Right of package order. Written by tools/gen_ord_right.py. -/
namespace Go.Proofs.YtpdlpmbjhopnnaaGreatDoor
open Go.RowKit Sha Cut Err Six Att
namespace Ord
theorem int_cases (s : Int) (n : Nat) : (s < 0 ∨ (n : Int) ≤ s) ∨ ∃ u : Nat, s = u ∧ u < n := by
  by_cases h : s < 0 ∨ (n : Int) ≤ s
  · exact .inl h
  · obtain ⟨u, rfl⟩ := Int.eq_ofNat_of_zero_le (a := s) (by omega)
    exact .inr ⟨u, rfl, by omega⟩
theorem errv_0 : errv 0 = .nilIface := rfl
theorem errv_1 : errv 1 = .iface 71 (.int .i64 1) := rfl
theorem errv_4 : errv 4 = .iface 71 (.int .i64 4) := rfl
theorem errv_5 : errv 5 = .iface 71 (.int .i64 5) := rfl
theorem bytes_nil (w : World) : BytesIn w (.slice none 0 0) [] := ⟨none, 0, rfl, Nat.le_refl _, .inl rfl⟩
set_option maxRecDepth 100000 in
set_option maxHeartbeats 4000000 in
theorem right_1 (ad : Option Addr) (len cap : Nat) (t : List Nat) (p n : Bool) (s : Int) (m : Bool) (a : Int) (c z : Nat) (w : World) (hB : BytesIn w (.slice ad len cap) t) (h8 : ∀ x ∈ t, x < 256) (hl : t.length < 1000000) (_hc : c < 256) (_h1 : 1 ≤ z) (_h2 : z ≤ 16383) :
    Calls Tryz.prog 45 #[.agg #[.int .i64 1, .slice ad len cap, .bool p, .bool n, .int .i64 s, .bool m, .int .i64 a, .int .u8 (c : Int)], .int .i64 (z : Int)] w fun e w' => e = .returned (errv (wrong ⟨1, t, p, n, s, m, a, c⟩ z)) ∧ Below w.heap.size w w' := by
  have HW : Hid (wrong ⟨1, t, p, n, s, m, a, c⟩ z = if same ⟨1, t, p, n, s, m, a, c⟩ (own ⟨1, t, p, n, s, m, a, c⟩) = false then 1 else tcode t) := by
    show wrong _ z = _
    unfold wrong tcode
    rw [if_neg (by simp)]
    simp
  have HA : Hid (Below w.heap.size w (w.alloc (.cells #[.int .i64 1, .slice ad len cap, .bool p, .bool n, .int .i64 s, .bool m, .int .i64 a, .int .u8 (c : Int)] 76))) := (Below.refl _ _).alloc (Nat.le_refl _) _
  have HG := Lib.hid (heap_alloc_new w (.cells #[.int .i64 1, .slice ad len cap, .bool p, .bool n, .int .i64 s, .bool m, .int .i64 a, .int .u8 (c : Int)] 76))
  have HO := Lib.hid fun W => own_1 ad len cap p n s m a (c : Int) W
  have HS := Lib.hid fun W hb => same_any ⟨1, t, p, n, s, m, a, c⟩ ⟨1, t, false, false, 0, false, 0, 0⟩ ad len cap ad len cap W (bytes_below hB hb) (bytes_below hB hb) h8 h8 hl
  have e0 : own ⟨1, t, p, n, s, m, a, c⟩ = ⟨1, t, false, false, 0, false, 0, 0⟩ := rfl
  rw [e0] at HW
  have e1 : ((0 : Nat) : Int) = 0 := rfl
  simp only [e1] at HS
  clear e1
  generalize same ⟨1, t, p, n, s, m, a, c⟩ ⟨1, t, false, false, 0, false, 0, 0⟩ = b at HW HS
  clear e0
  have HB := Lib.hid hB
  have H8 := Lib.hid h8
  clear hB h8
  go_enter Tryz.func45, Tryz.ntmps45
  go_wp2_with fail
  generalize w.alloc (.cells #[.int .i64 1, .slice ad len cap, .bool p, .bool n, .int .i64 s, .bool m, .int .i64 a, .int .u8 (c : Int)] 76) = w1 at HA HG ⊢
  go_region_held3 (fun w' => Below w1.heap.size w1 w' ∧ w'.cell? ⟨w.heap.size, 0, none⟩ = some (.int .i64 1) ∧ w'.cell? ⟨w.heap.size, 1, none⟩ = some (.slice ad len cap) ∧ w'.cell? ⟨w.heap.size, 2, none⟩ = some (.bool p) ∧ w'.cell? ⟨w.heap.size, 3, none⟩ = some (.bool n) ∧ w'.cell? ⟨w.heap.size, 4, none⟩ = some (.int .i64 s) ∧ w'.cell? ⟨w.heap.size, 5, none⟩ = some (.bool m) ∧ w'.cell? ⟨w.heap.size, 6, none⟩ = some (.int .i64 a) ∧ w'.cell? ⟨w.heap.size, 7, none⟩ = some (.int .u8 (c : Int)))
    (first | exact held8 HG.out (Below.refl _ _).drew | exact held8 HG.out (Below.refl _ _) | exact held8 HG.out (kept_trans (And.left (by assumption)) hb))
    (first
      | (go_at_call 84; with_reducible refine (HO.out _).mono ?_; rintro e wa ⟨rfl, hb⟩)
      | (go_at_call 83; with_reducible refine (HS.out _ (kept_trans HA.out (And.left (by assumption)))).mono ?_; rintro e wb ⟨rfl, hb⟩))
  have hS := And.left (by assumption : Below w1.heap.size w1 _ ∧ _)
  have H2 := kept_hid HA hS
  clear HO HS
  cases b with
  | false =>
    replace HW := Lib.hid (show wrong ⟨1, t, p, n, s, m, a, c⟩ z = 1 by have := HW.out; simp at this; exact this)
    clear hS
    go_wp2_with fail
    go_ret
    rw [HW.out, errv_1]
    exact ⟨rfl, H2.out⟩
  | true =>
    obtain ⟨_, c0, c1, c2, c3, c4, c5, c6, c7⟩ := held8 HG.out hS
    by_cases ht : t = []
    · replace HW := Lib.hid (show wrong ⟨1, t, p, n, s, m, a, c⟩ z = 1 by have := HW.out; simp at this; rw [this]; unfold tcode; rw [if_pos (.inl ht)])
      have HB0 := HB.out
      obtain ⟨ad', cap', hv, _⟩ := HB0
      injection hv with e1 e2 e3
      rw [ht] at e2
      simp only [List.length_nil] at e2
      subst e2
      clear ht
      go_wp2_with fail
      with_reducible refine (text_empty _ _ _).mono ?_
      rintro e w5 ⟨rfl, rfl⟩
      go_wp2_with fail
      go_ret
      rw [HW.out, errv_1]
      exact ⟨rfl, H2.out⟩
    · have HT := Lib.hid fun W hb => text_any ad len cap t W (bytes_below HB.out hb) H8.out hl ht
      replace HW := Lib.hid (show wrong ⟨1, t, p, n, s, m, a, c⟩ z = tcode t by have := HW.out; simpa using this)
      clear ht
      go_wp2_with fail
      with_reducible refine (HT.out _ H2.out).mono ?_
      rintro e w5 ⟨rfl, rfl⟩
      rcases (show tcode t = 0 ∨ tcode t = 1 by unfold tcode; split <;> simp) with e1 | e1
      · rw [e1, errv_0]
        rw [e1] at HW
        go_wp2_with fail
        go_ret
        rw [HW.out, errv_0]
        exact ⟨rfl, H2.out⟩
      · rw [e1, errv_1]
        rw [e1] at HW
        go_wp2_with fail
        go_ret
        rw [HW.out, errv_1]
        exact ⟨rfl, H2.out⟩
set_option maxRecDepth 100000 in
set_option maxHeartbeats 4000000 in
theorem right_2 (ad : Option Addr) (len cap : Nat) (t : List Nat) (p n : Bool) (s : Int) (m : Bool) (a : Int) (c z : Nat) (w : World) (hB : BytesIn w (.slice ad len cap) t) (h8 : ∀ x ∈ t, x < 256) (hl : t.length < 1000000) (_hc : c < 256) (_h1 : 1 ≤ z) (_h2 : z ≤ 16383) :
    Calls Tryz.prog 45 #[.agg #[.int .i64 2, .slice ad len cap, .bool p, .bool n, .int .i64 s, .bool m, .int .i64 a, .int .u8 (c : Int)], .int .i64 (z : Int)] w fun e w' => e = .returned (errv (wrong ⟨2, t, p, n, s, m, a, c⟩ z)) ∧ Below w.heap.size w w' := by
  have HW : Hid (wrong ⟨2, t, p, n, s, m, a, c⟩ z = if same ⟨2, t, p, n, s, m, a, c⟩ (own ⟨2, t, p, n, s, m, a, c⟩) = false then 1 else if s < 0 ∨ 4 ≤ s then 1 else 0) := by
    show wrong _ z = _
    unfold wrong
    rw [if_neg (by simp)]
    simp
  have HA : Hid (Below w.heap.size w (w.alloc (.cells #[.int .i64 2, .slice ad len cap, .bool p, .bool n, .int .i64 s, .bool m, .int .i64 a, .int .u8 (c : Int)] 76))) := (Below.refl _ _).alloc (Nat.le_refl _) _
  have HG := Lib.hid (heap_alloc_new w (.cells #[.int .i64 2, .slice ad len cap, .bool p, .bool n, .int .i64 s, .bool m, .int .i64 a, .int .u8 (c : Int)] 76))
  have HO := Lib.hid fun W => own_2 ad len cap p n s m a (c : Int) W
  have HS := Lib.hid fun W hb => same_any ⟨2, t, p, n, s, m, a, c⟩ ⟨2, [], p, n, s, m, 0, 0⟩ ad len cap none 0 0 W (bytes_below hB hb) (bytes_nil _) h8 (by simp) hl
  have e0 : own ⟨2, t, p, n, s, m, a, c⟩ = ⟨2, [], p, n, s, m, 0, 0⟩ := rfl
  rw [e0] at HW
  have e1 : ((0 : Nat) : Int) = 0 := rfl
  simp only [e1] at HS
  clear e1
  generalize same ⟨2, t, p, n, s, m, a, c⟩ ⟨2, [], p, n, s, m, 0, 0⟩ = b at HW HS
  clear e0
  clear hB h8
  go_enter Tryz.func45, Tryz.ntmps45
  go_wp2_with fail
  generalize w.alloc (.cells #[.int .i64 2, .slice ad len cap, .bool p, .bool n, .int .i64 s, .bool m, .int .i64 a, .int .u8 (c : Int)] 76) = w1 at HA HG ⊢
  go_region_held3 (fun w' => Below w1.heap.size w1 w' ∧ w'.cell? ⟨w.heap.size, 0, none⟩ = some (.int .i64 2) ∧ w'.cell? ⟨w.heap.size, 1, none⟩ = some (.slice ad len cap) ∧ w'.cell? ⟨w.heap.size, 2, none⟩ = some (.bool p) ∧ w'.cell? ⟨w.heap.size, 3, none⟩ = some (.bool n) ∧ w'.cell? ⟨w.heap.size, 4, none⟩ = some (.int .i64 s) ∧ w'.cell? ⟨w.heap.size, 5, none⟩ = some (.bool m) ∧ w'.cell? ⟨w.heap.size, 6, none⟩ = some (.int .i64 a) ∧ w'.cell? ⟨w.heap.size, 7, none⟩ = some (.int .u8 (c : Int)))
    (first | exact held8 HG.out (Below.refl _ _).drew | exact held8 HG.out (Below.refl _ _) | exact held8 HG.out (kept_trans (And.left (by assumption)) hb))
    (first
      | (go_at_call 84; with_reducible refine (HO.out _).mono ?_; rintro e wa ⟨rfl, hb⟩)
      | (go_at_call 83; with_reducible refine (HS.out _ (kept_trans HA.out (And.left (by assumption)))).mono ?_; rintro e wb ⟨rfl, hb⟩))
  have hS := And.left (by assumption : Below w1.heap.size w1 _ ∧ _)
  have H2 := kept_hid HA hS
  clear HO HS
  cases b with
  | false =>
    replace HW := Lib.hid (show wrong ⟨2, t, p, n, s, m, a, c⟩ z = 1 by have := HW.out; simp at this; exact this)
    clear hS
    go_wp2_with fail
    go_ret
    rw [HW.out, errv_1]
    exact ⟨rfl, H2.out⟩
  | true =>
    obtain ⟨_, c0, c1, c2, c3, c4, c5, c6, c7⟩ := held8 HG.out hS
    rcases int_cases s 4 with hs | ⟨u, rfl, hs⟩
    · replace HW := Lib.hid (show wrong ⟨2, t, p, n, s, m, a, c⟩ z = 1 by
          have := HW.out
          have hs' : s < 0 ∨ 4 ≤ s := by omega
          simpa [hs'] using this)
      have HP := Lib.hid fun W => put_bad p n m s W hs
      clear hs
      go_wp2_with fail
      with_reducible refine (HP.out _).mono ?_
      rintro e w5 ⟨rfl, hb5⟩
      have H5 := kept_hid H2 hb5
      clear hb5
      go_wp2_with fail
      go_ret
      rw [HW.out, errv_1]
      exact ⟨rfl, H5.out⟩
    · replace HW := Lib.hid (show wrong ⟨2, t, p, n, (u : Int), m, a, c⟩ z = 0 by
          have := HW.out
          have hu : ¬ ((u : Int) < 0 ∨ 4 ≤ (u : Int)) := by omega
          simpa [hu] using this)
      have HP := Lib.hid fun W => put_ok p n m u W hs
      clear hs
      go_wp2_with fail
      with_reducible refine (HP.out _).mono ?_
      rintro e w5 ⟨rfl, hb5⟩
      have H5 := kept_hid H2 hb5
      clear hb5
      go_wp2_with fail
      go_ret
      rw [HW.out, errv_0]
      exact ⟨rfl, H5.out⟩
set_option maxRecDepth 100000 in
set_option maxHeartbeats 4000000 in
theorem right_3 (ad : Option Addr) (len cap : Nat) (t : List Nat) (p n : Bool) (s : Int) (m : Bool) (a : Int) (c z : Nat) (w : World) (hB : BytesIn w (.slice ad len cap) t) (h8 : ∀ x ∈ t, x < 256) (hl : t.length < 1000000) (_hc : c < 256) (h1 : 1 ≤ z) (h2 : z ≤ 16383) :
    Calls Tryz.prog 45 #[.agg #[.int .i64 3, .slice ad len cap, .bool p, .bool n, .int .i64 s, .bool m, .int .i64 a, .int .u8 (c : Int)], .int .i64 (z : Int)] w fun e w' => e = .returned (errv (wrong ⟨3, t, p, n, s, m, a, c⟩ z)) ∧ Below w.heap.size w w' := by
  have HW : Hid (wrong ⟨3, t, p, n, s, m, a, c⟩ z = if same ⟨3, t, p, n, s, m, a, c⟩ (own ⟨3, t, p, n, s, m, a, c⟩) = false then 1 else if a < 0 ∨ (z : Int) ≤ a then 4 else 0) := by
    show wrong _ z = _
    unfold wrong
    rw [if_neg (by simp)]
    simp
  have HA : Hid (Below w.heap.size w (w.alloc (.cells #[.int .i64 3, .slice ad len cap, .bool p, .bool n, .int .i64 s, .bool m, .int .i64 a, .int .u8 (c : Int)] 76))) := (Below.refl _ _).alloc (Nat.le_refl _) _
  have HG := Lib.hid (heap_alloc_new w (.cells #[.int .i64 3, .slice ad len cap, .bool p, .bool n, .int .i64 s, .bool m, .int .i64 a, .int .u8 (c : Int)] 76))
  have HO := Lib.hid fun W => own_3 ad len cap p n s m a (c : Int) W
  have HS := Lib.hid fun W hb => same_any ⟨3, t, p, n, s, m, a, c⟩ ⟨3, [], false, false, 0, false, a, 0⟩ ad len cap none 0 0 W (bytes_below hB hb) (bytes_nil _) h8 (by simp) hl
  have e0 : own ⟨3, t, p, n, s, m, a, c⟩ = ⟨3, [], false, false, 0, false, a, 0⟩ := rfl
  rw [e0] at HW
  have e1 : ((0 : Nat) : Int) = 0 := rfl
  simp only [e1] at HS
  clear e1
  generalize same ⟨3, t, p, n, s, m, a, c⟩ ⟨3, [], false, false, 0, false, a, 0⟩ = b at HW HS
  clear e0
  clear hB h8
  go_enter Tryz.func45, Tryz.ntmps45
  go_wp2_with fail
  generalize w.alloc (.cells #[.int .i64 3, .slice ad len cap, .bool p, .bool n, .int .i64 s, .bool m, .int .i64 a, .int .u8 (c : Int)] 76) = w1 at HA HG ⊢
  go_region_held3 (fun w' => Below w1.heap.size w1 w' ∧ w'.cell? ⟨w.heap.size, 0, none⟩ = some (.int .i64 3) ∧ w'.cell? ⟨w.heap.size, 1, none⟩ = some (.slice ad len cap) ∧ w'.cell? ⟨w.heap.size, 2, none⟩ = some (.bool p) ∧ w'.cell? ⟨w.heap.size, 3, none⟩ = some (.bool n) ∧ w'.cell? ⟨w.heap.size, 4, none⟩ = some (.int .i64 s) ∧ w'.cell? ⟨w.heap.size, 5, none⟩ = some (.bool m) ∧ w'.cell? ⟨w.heap.size, 6, none⟩ = some (.int .i64 a) ∧ w'.cell? ⟨w.heap.size, 7, none⟩ = some (.int .u8 (c : Int)))
    (first | exact held8 HG.out (Below.refl _ _).drew | exact held8 HG.out (Below.refl _ _) | exact held8 HG.out (kept_trans (And.left (by assumption)) hb))
    (first
      | (go_at_call 84; with_reducible refine (HO.out _).mono ?_; rintro e wa ⟨rfl, hb⟩)
      | (go_at_call 83; with_reducible refine (HS.out _ (kept_trans HA.out (And.left (by assumption)))).mono ?_; rintro e wb ⟨rfl, hb⟩))
  have hS := And.left (by assumption : Below w1.heap.size w1 _ ∧ _)
  have H2 := kept_hid HA hS
  clear HO HS
  cases b with
  | false =>
    replace HW := Lib.hid (show wrong ⟨3, t, p, n, s, m, a, c⟩ z = 1 by have := HW.out; simp at this; exact this)
    clear hS
    go_wp2_with fail
    go_ret
    rw [HW.out, errv_1]
    exact ⟨rfl, H2.out⟩
  | true =>
    obtain ⟨_, c0, c1, c2, c3, c4, c5, c6, c7⟩ := held8 HG.out hS
    rcases int_cases a z with ha | ⟨u, rfl, ha⟩
    · replace HW := Lib.hid (show wrong ⟨3, t, p, n, s, m, a, c⟩ z = 4 by have := HW.out; simp only [if_pos ha] at this; simpa using this)
      go_wp2_with fail
      with_reducible refine (Adr.put_none a z _ h1 h2 ha).mono ?_
      rintro e w5 ⟨rfl, hb5⟩
      have H5 := kept_hid H2 hb5
      clear hb5
      go_wp2_with fail
      go_ret
      rw [HW.out, errv_4]
      exact ⟨rfl, (kept_alloc H5 _).out⟩
    · replace HW := Lib.hid (show wrong ⟨3, t, p, n, s, m, (u : Int), c⟩ z = 0 by have := HW.out; simp only [if_neg (show ¬ ((u : Int) < 0 ∨ (z : Int) ≤ (u : Int)) by omega)] at this; simpa using this)
      go_wp2_with fail
      with_reducible refine (Adr.put_all u z _ ha h2).mono ?_
      rintro e w5 ⟨rfl, hb5⟩
      have H5 := kept_hid H2 hb5
      clear hb5
      go_wp2_with fail
      go_ret
      rw [HW.out, errv_0]
      exact ⟨rfl, (kept_alloc H5 _).out⟩
set_option maxRecDepth 100000 in
set_option maxHeartbeats 4000000 in
theorem right_4 (ad : Option Addr) (len cap : Nat) (t : List Nat) (p n : Bool) (s : Int) (m : Bool) (a : Int) (c z : Nat) (w : World) (hB : BytesIn w (.slice ad len cap) t) (h8 : ∀ x ∈ t, x < 256) (hl : t.length < 1000000) (_hc : c < 256) (_h1 : 1 ≤ z) (_h2 : z ≤ 16383) :
    Calls Tryz.prog 45 #[.agg #[.int .i64 4, .slice ad len cap, .bool p, .bool n, .int .i64 s, .bool m, .int .i64 a, .int .u8 (c : Int)], .int .i64 (z : Int)] w fun e w' => e = .returned (errv (wrong ⟨4, t, p, n, s, m, a, c⟩ z)) ∧ Below w.heap.size w w' := by
  have HW : Hid (wrong ⟨4, t, p, n, s, m, a, c⟩ z = if same ⟨4, t, p, n, s, m, a, c⟩ (own ⟨4, t, p, n, s, m, a, c⟩) = false then 1 else 0) := by
    show wrong _ z = _
    unfold wrong
    rw [if_neg (by simp)]
    simp
  have HA : Hid (Below w.heap.size w (w.alloc (.cells #[.int .i64 4, .slice ad len cap, .bool p, .bool n, .int .i64 s, .bool m, .int .i64 a, .int .u8 (c : Int)] 76))) := (Below.refl _ _).alloc (Nat.le_refl _) _
  have HG := Lib.hid (heap_alloc_new w (.cells #[.int .i64 4, .slice ad len cap, .bool p, .bool n, .int .i64 s, .bool m, .int .i64 a, .int .u8 (c : Int)] 76))
  have HO := Lib.hid fun W => own_4 ad len cap p n s m a (c : Int) W
  have HS := Lib.hid fun W hb => same_any ⟨4, t, p, n, s, m, a, c⟩ ⟨4, [], false, false, 0, false, 0, 0⟩ ad len cap none 0 0 W (bytes_below hB hb) (bytes_nil _) h8 (by simp) hl
  have e0 : own ⟨4, t, p, n, s, m, a, c⟩ = ⟨4, [], false, false, 0, false, 0, 0⟩ := rfl
  rw [e0] at HW
  have e1 : ((0 : Nat) : Int) = 0 := rfl
  simp only [e1] at HS
  clear e1
  generalize same ⟨4, t, p, n, s, m, a, c⟩ ⟨4, [], false, false, 0, false, 0, 0⟩ = b at HW HS
  clear e0
  clear hB h8
  go_enter Tryz.func45, Tryz.ntmps45
  go_wp2_with fail
  generalize w.alloc (.cells #[.int .i64 4, .slice ad len cap, .bool p, .bool n, .int .i64 s, .bool m, .int .i64 a, .int .u8 (c : Int)] 76) = w1 at HA HG ⊢
  go_region_held3 (fun w' => Below w1.heap.size w1 w' ∧ w'.cell? ⟨w.heap.size, 0, none⟩ = some (.int .i64 4) ∧ w'.cell? ⟨w.heap.size, 1, none⟩ = some (.slice ad len cap) ∧ w'.cell? ⟨w.heap.size, 2, none⟩ = some (.bool p) ∧ w'.cell? ⟨w.heap.size, 3, none⟩ = some (.bool n) ∧ w'.cell? ⟨w.heap.size, 4, none⟩ = some (.int .i64 s) ∧ w'.cell? ⟨w.heap.size, 5, none⟩ = some (.bool m) ∧ w'.cell? ⟨w.heap.size, 6, none⟩ = some (.int .i64 a) ∧ w'.cell? ⟨w.heap.size, 7, none⟩ = some (.int .u8 (c : Int)))
    (first | exact held8 HG.out (Below.refl _ _).drew | exact held8 HG.out (Below.refl _ _) | exact held8 HG.out (kept_trans (And.left (by assumption)) hb))
    (first
      | (go_at_call 84; with_reducible refine (HO.out _).mono ?_; rintro e wa ⟨rfl, hb⟩)
      | (go_at_call 83; with_reducible refine (HS.out _ (kept_trans HA.out (And.left (by assumption)))).mono ?_; rintro e wb ⟨rfl, hb⟩))
  have hS := And.left (by assumption : Below w1.heap.size w1 _ ∧ _)
  have H2 := kept_hid HA hS
  clear HO HS
  cases b with
  | false =>
    replace HW := Lib.hid (show wrong ⟨4, t, p, n, s, m, a, c⟩ z = 1 by have := HW.out; simp at this; exact this)
    clear hS
    go_wp2_with fail
    go_ret
    rw [HW.out, errv_1]
    exact ⟨rfl, H2.out⟩
  | true =>
    obtain ⟨_, c0, c1, c2, c3, c4, c5, c6, c7⟩ := held8 HG.out hS
    replace HW := Lib.hid (show wrong ⟨4, t, p, n, s, m, a, c⟩ z = 0 by have := HW.out; simpa using this)
    go_wp2_with fail
    go_ret
    rw [HW.out, errv_0]
    exact ⟨rfl, H2.out⟩
set_option maxRecDepth 100000 in
set_option maxHeartbeats 4000000 in
theorem right_5 (ad : Option Addr) (len cap : Nat) (t : List Nat) (p n : Bool) (s : Int) (m : Bool) (a : Int) (c z : Nat) (w : World) (hB : BytesIn w (.slice ad len cap) t) (h8 : ∀ x ∈ t, x < 256) (hl : t.length < 1000000) (_hc : c < 256) (_h1 : 1 ≤ z) (_h2 : z ≤ 16383) :
    Calls Tryz.prog 45 #[.agg #[.int .i64 5, .slice ad len cap, .bool p, .bool n, .int .i64 s, .bool m, .int .i64 a, .int .u8 (c : Int)], .int .i64 (z : Int)] w fun e w' => e = .returned (errv (wrong ⟨5, t, p, n, s, m, a, c⟩ z)) ∧ Below w.heap.size w w' := by
  have HW : Hid (wrong ⟨5, t, p, n, s, m, a, c⟩ z = if same ⟨5, t, p, n, s, m, a, c⟩ (own ⟨5, t, p, n, s, m, a, c⟩) = false then 1 else 0) := by
    show wrong _ z = _
    unfold wrong
    rw [if_neg (by simp)]
    simp
  have HA : Hid (Below w.heap.size w (w.alloc (.cells #[.int .i64 5, .slice ad len cap, .bool p, .bool n, .int .i64 s, .bool m, .int .i64 a, .int .u8 (c : Int)] 76))) := (Below.refl _ _).alloc (Nat.le_refl _) _
  have HG := Lib.hid (heap_alloc_new w (.cells #[.int .i64 5, .slice ad len cap, .bool p, .bool n, .int .i64 s, .bool m, .int .i64 a, .int .u8 (c : Int)] 76))
  have HO := Lib.hid fun W => own_5 ad len cap p n s m a (c : Int) W
  have HS := Lib.hid fun W hb => same_any ⟨5, t, p, n, s, m, a, c⟩ ⟨5, [], false, false, 0, false, 0, 0⟩ ad len cap none 0 0 W (bytes_below hB hb) (bytes_nil _) h8 (by simp) hl
  have e0 : own ⟨5, t, p, n, s, m, a, c⟩ = ⟨5, [], false, false, 0, false, 0, 0⟩ := rfl
  rw [e0] at HW
  have e1 : ((0 : Nat) : Int) = 0 := rfl
  simp only [e1] at HS
  clear e1
  generalize same ⟨5, t, p, n, s, m, a, c⟩ ⟨5, [], false, false, 0, false, 0, 0⟩ = b at HW HS
  clear e0
  clear hB h8
  go_enter Tryz.func45, Tryz.ntmps45
  go_wp2_with fail
  generalize w.alloc (.cells #[.int .i64 5, .slice ad len cap, .bool p, .bool n, .int .i64 s, .bool m, .int .i64 a, .int .u8 (c : Int)] 76) = w1 at HA HG ⊢
  go_region_held3 (fun w' => Below w1.heap.size w1 w' ∧ w'.cell? ⟨w.heap.size, 0, none⟩ = some (.int .i64 5) ∧ w'.cell? ⟨w.heap.size, 1, none⟩ = some (.slice ad len cap) ∧ w'.cell? ⟨w.heap.size, 2, none⟩ = some (.bool p) ∧ w'.cell? ⟨w.heap.size, 3, none⟩ = some (.bool n) ∧ w'.cell? ⟨w.heap.size, 4, none⟩ = some (.int .i64 s) ∧ w'.cell? ⟨w.heap.size, 5, none⟩ = some (.bool m) ∧ w'.cell? ⟨w.heap.size, 6, none⟩ = some (.int .i64 a) ∧ w'.cell? ⟨w.heap.size, 7, none⟩ = some (.int .u8 (c : Int)))
    (first | exact held8 HG.out (Below.refl _ _).drew | exact held8 HG.out (Below.refl _ _) | exact held8 HG.out (kept_trans (And.left (by assumption)) hb))
    (first
      | (go_at_call 84; with_reducible refine (HO.out _).mono ?_; rintro e wa ⟨rfl, hb⟩)
      | (go_at_call 83; with_reducible refine (HS.out _ (kept_trans HA.out (And.left (by assumption)))).mono ?_; rintro e wb ⟨rfl, hb⟩))
  have hS := And.left (by assumption : Below w1.heap.size w1 _ ∧ _)
  have H2 := kept_hid HA hS
  clear HO HS
  cases b with
  | false =>
    replace HW := Lib.hid (show wrong ⟨5, t, p, n, s, m, a, c⟩ z = 1 by have := HW.out; simp at this; exact this)
    clear hS
    go_wp2_with fail
    go_ret
    rw [HW.out, errv_1]
    exact ⟨rfl, H2.out⟩
  | true =>
    obtain ⟨_, c0, c1, c2, c3, c4, c5, c6, c7⟩ := held8 HG.out hS
    replace HW := Lib.hid (show wrong ⟨5, t, p, n, s, m, a, c⟩ z = 0 by have := HW.out; simpa using this)
    go_wp2_with fail
    go_ret
    rw [HW.out, errv_0]
    exact ⟨rfl, H2.out⟩
set_option maxRecDepth 100000 in
set_option maxHeartbeats 4000000 in
theorem right_6 (ad : Option Addr) (len cap : Nat) (t : List Nat) (p n : Bool) (s : Int) (m : Bool) (a : Int) (c z : Nat) (w : World) (hB : BytesIn w (.slice ad len cap) t) (h8 : ∀ x ∈ t, x < 256) (hl : t.length < 1000000) (hc : c < 256) (h1 : 1 ≤ z) (h2 : z ≤ 16383) :
    Calls Tryz.prog 45 #[.agg #[.int .i64 6, .slice ad len cap, .bool p, .bool n, .int .i64 s, .bool m, .int .i64 a, .int .u8 (c : Int)], .int .i64 (z : Int)] w fun e w' => e = .returned (errv (wrong ⟨6, t, p, n, s, m, a, c⟩ z)) ∧ Below w.heap.size w w' := by
  have HW : Hid (wrong ⟨6, t, p, n, s, m, a, c⟩ z = if same ⟨6, t, p, n, s, m, a, c⟩ (own ⟨6, t, p, n, s, m, a, c⟩) = false then 1 else if char c = false then 1 else if a < 0 ∨ (z : Int) ≤ a then 4 else 0) := by
    show wrong _ z = _
    unfold wrong
    rw [if_neg (by simp)]
    simp
  have HA : Hid (Below w.heap.size w (w.alloc (.cells #[.int .i64 6, .slice ad len cap, .bool p, .bool n, .int .i64 s, .bool m, .int .i64 a, .int .u8 (c : Int)] 76))) := (Below.refl _ _).alloc (Nat.le_refl _) _
  have HG := Lib.hid (heap_alloc_new w (.cells #[.int .i64 6, .slice ad len cap, .bool p, .bool n, .int .i64 s, .bool m, .int .i64 a, .int .u8 (c : Int)] 76))
  have HO := Lib.hid fun W => own_6 ad len cap p n s m a (c : Int) W
  have HS := Lib.hid fun W hb => same_any ⟨6, t, p, n, s, m, a, c⟩ ⟨6, [], false, false, 0, false, a, c⟩ ad len cap none 0 0 W (bytes_below hB hb) (bytes_nil _) h8 (by simp) hl
  have e0 : own ⟨6, t, p, n, s, m, a, c⟩ = ⟨6, [], false, false, 0, false, a, c⟩ := rfl
  rw [e0] at HW
  have e1 : ((0 : Nat) : Int) = 0 := rfl
  simp only at HS
  clear e1
  generalize same ⟨6, t, p, n, s, m, a, c⟩ ⟨6, [], false, false, 0, false, a, c⟩ = b at HW HS
  clear e0
  clear hB h8
  go_enter Tryz.func45, Tryz.ntmps45
  go_wp2_with fail
  generalize w.alloc (.cells #[.int .i64 6, .slice ad len cap, .bool p, .bool n, .int .i64 s, .bool m, .int .i64 a, .int .u8 (c : Int)] 76) = w1 at HA HG ⊢
  go_region_held3 (fun w' => Below w1.heap.size w1 w' ∧ w'.cell? ⟨w.heap.size, 0, none⟩ = some (.int .i64 6) ∧ w'.cell? ⟨w.heap.size, 1, none⟩ = some (.slice ad len cap) ∧ w'.cell? ⟨w.heap.size, 2, none⟩ = some (.bool p) ∧ w'.cell? ⟨w.heap.size, 3, none⟩ = some (.bool n) ∧ w'.cell? ⟨w.heap.size, 4, none⟩ = some (.int .i64 s) ∧ w'.cell? ⟨w.heap.size, 5, none⟩ = some (.bool m) ∧ w'.cell? ⟨w.heap.size, 6, none⟩ = some (.int .i64 a) ∧ w'.cell? ⟨w.heap.size, 7, none⟩ = some (.int .u8 (c : Int)))
    (first | exact held8 HG.out (Below.refl _ _).drew | exact held8 HG.out (Below.refl _ _) | exact held8 HG.out (kept_trans (And.left (by assumption)) hb))
    (first
      | (go_at_call 84; with_reducible refine (HO.out _).mono ?_; rintro e wa ⟨rfl, hb⟩)
      | (go_at_call 83; with_reducible refine (HS.out _ (kept_trans HA.out (And.left (by assumption)))).mono ?_; rintro e wb ⟨rfl, hb⟩))
  have hS := And.left (by assumption : Below w1.heap.size w1 _ ∧ _)
  have H2 := kept_hid HA hS
  clear HO HS
  cases b with
  | false =>
    replace HW := Lib.hid (show wrong ⟨6, t, p, n, s, m, a, c⟩ z = 1 by have := HW.out; simp at this; exact this)
    clear hS
    go_wp2_with fail
    go_ret
    rw [HW.out, errv_1]
    exact ⟨rfl, H2.out⟩
  | true =>
    obtain ⟨_, c0, c1, c2, c3, c4, c5, c6, c7⟩ := held8 HG.out hS
    have HC := Lib.hid fun W => char_any c W hc
    cases hcc : char c with
    | false =>
      replace HW := Lib.hid (show wrong ⟨6, t, p, n, s, m, a, c⟩ z = 1 by have := HW.out; simp [hcc] at this; exact this)
      rw [hcc] at HC
      clear hcc
      go_wp2_with fail
      with_reducible refine (HC.out _).mono ?_
      rintro e w5 ⟨rfl, rfl⟩
      go_wp2_with fail
      go_ret
      rw [HW.out, errv_1]
      exact ⟨rfl, H2.out⟩
    | true =>
      replace HW := Lib.hid (show wrong ⟨6, t, p, n, s, m, a, c⟩ z = if a < 0 ∨ (z : Int) ≤ a then 4 else 0 by have := HW.out; simpa [hcc] using this)
      rw [hcc] at HC
      clear hcc
      go_wp2_with fail
      with_reducible refine (HC.out _).mono ?_
      rintro e w5 ⟨rfl, rfl⟩
      rcases int_cases a z with ha | ⟨u, rfl, ha⟩
      · replace HW := Lib.hid (show wrong ⟨6, t, p, n, s, m, a, c⟩ z = 4 by have := HW.out; rw [if_pos ha] at this; exact this)
        go_wp2_with fail
        with_reducible refine (Adr.put_none a z _ h1 h2 ha).mono ?_
        rintro e w5 ⟨rfl, hb5⟩
        have H5 := kept_hid H2 hb5
        clear hb5
        go_wp2_with fail
        go_ret
        rw [HW.out, errv_4]
        exact ⟨rfl, (kept_alloc H5 _).out⟩
      · replace HW := Lib.hid (show wrong ⟨6, t, p, n, s, m, (u : Int), c⟩ z = 0 by have := HW.out; rw [if_neg (show ¬ ((u : Int) < 0 ∨ (z : Int) ≤ (u : Int)) by omega)] at this; exact this)
        go_wp2_with fail
        with_reducible refine (Adr.put_all u z _ ha h2).mono ?_
        rintro e w5 ⟨rfl, hb5⟩
        have H5 := kept_hid H2 hb5
        clear hb5
        go_wp2_with fail
        go_ret
        rw [HW.out, errv_0]
        exact ⟨rfl, (kept_alloc H5 _).out⟩
set_option maxRecDepth 100000 in
set_option maxHeartbeats 4000000 in
theorem right_7 (ad : Option Addr) (len cap : Nat) (t : List Nat) (p n : Bool) (s : Int) (m : Bool) (a : Int) (c z : Nat) (w : World) (hB : BytesIn w (.slice ad len cap) t) (h8 : ∀ x ∈ t, x < 256) (hl : t.length < 1000000) (_hc : c < 256) (h1 : 1 ≤ z) (h2 : z ≤ 16383) :
    Calls Tryz.prog 45 #[.agg #[.int .i64 7, .slice ad len cap, .bool p, .bool n, .int .i64 s, .bool m, .int .i64 a, .int .u8 (c : Int)], .int .i64 (z : Int)] w fun e w' => e = .returned (errv (wrong ⟨7, t, p, n, s, m, a, c⟩ z)) ∧ Below w.heap.size w w' := by
  have HW : Hid (wrong ⟨7, t, p, n, s, m, a, c⟩ z = if same ⟨7, t, p, n, s, m, a, c⟩ (own ⟨7, t, p, n, s, m, a, c⟩) = false then 1 else if a < 0 ∨ (z : Int) ≤ a then 4 else 0) := by
    show wrong _ z = _
    unfold wrong
    rw [if_neg (by simp)]
    simp
  have HA : Hid (Below w.heap.size w (w.alloc (.cells #[.int .i64 7, .slice ad len cap, .bool p, .bool n, .int .i64 s, .bool m, .int .i64 a, .int .u8 (c : Int)] 76))) := (Below.refl _ _).alloc (Nat.le_refl _) _
  have HG := Lib.hid (heap_alloc_new w (.cells #[.int .i64 7, .slice ad len cap, .bool p, .bool n, .int .i64 s, .bool m, .int .i64 a, .int .u8 (c : Int)] 76))
  have HO := Lib.hid fun W => own_7 ad len cap p n s m a (c : Int) W
  have HS := Lib.hid fun W hb => same_any ⟨7, t, p, n, s, m, a, c⟩ ⟨7, [], false, false, 0, false, a, 0⟩ ad len cap none 0 0 W (bytes_below hB hb) (bytes_nil _) h8 (by simp) hl
  have e0 : own ⟨7, t, p, n, s, m, a, c⟩ = ⟨7, [], false, false, 0, false, a, 0⟩ := rfl
  rw [e0] at HW
  have e1 : ((0 : Nat) : Int) = 0 := rfl
  simp only [e1] at HS
  clear e1
  generalize same ⟨7, t, p, n, s, m, a, c⟩ ⟨7, [], false, false, 0, false, a, 0⟩ = b at HW HS
  clear e0
  clear hB h8
  go_enter Tryz.func45, Tryz.ntmps45
  go_wp2_with fail
  generalize w.alloc (.cells #[.int .i64 7, .slice ad len cap, .bool p, .bool n, .int .i64 s, .bool m, .int .i64 a, .int .u8 (c : Int)] 76) = w1 at HA HG ⊢
  go_region_held3 (fun w' => Below w1.heap.size w1 w' ∧ w'.cell? ⟨w.heap.size, 0, none⟩ = some (.int .i64 7) ∧ w'.cell? ⟨w.heap.size, 1, none⟩ = some (.slice ad len cap) ∧ w'.cell? ⟨w.heap.size, 2, none⟩ = some (.bool p) ∧ w'.cell? ⟨w.heap.size, 3, none⟩ = some (.bool n) ∧ w'.cell? ⟨w.heap.size, 4, none⟩ = some (.int .i64 s) ∧ w'.cell? ⟨w.heap.size, 5, none⟩ = some (.bool m) ∧ w'.cell? ⟨w.heap.size, 6, none⟩ = some (.int .i64 a) ∧ w'.cell? ⟨w.heap.size, 7, none⟩ = some (.int .u8 (c : Int)))
    (first | exact held8 HG.out (Below.refl _ _).drew | exact held8 HG.out (Below.refl _ _) | exact held8 HG.out (kept_trans (And.left (by assumption)) hb))
    (first
      | (go_at_call 84; with_reducible refine (HO.out _).mono ?_; rintro e wa ⟨rfl, hb⟩)
      | (go_at_call 83; with_reducible refine (HS.out _ (kept_trans HA.out (And.left (by assumption)))).mono ?_; rintro e wb ⟨rfl, hb⟩))
  have hS := And.left (by assumption : Below w1.heap.size w1 _ ∧ _)
  have H2 := kept_hid HA hS
  clear HO HS
  cases b with
  | false =>
    replace HW := Lib.hid (show wrong ⟨7, t, p, n, s, m, a, c⟩ z = 1 by have := HW.out; simp at this; exact this)
    clear hS
    go_wp2_with fail
    go_ret
    rw [HW.out, errv_1]
    exact ⟨rfl, H2.out⟩
  | true =>
    obtain ⟨_, c0, c1, c2, c3, c4, c5, c6, c7⟩ := held8 HG.out hS
    rcases int_cases a z with ha | ⟨u, rfl, ha⟩
    · replace HW := Lib.hid (show wrong ⟨7, t, p, n, s, m, a, c⟩ z = 4 by have := HW.out; simp only [if_pos ha] at this; simpa using this)
      go_wp2_with fail
      with_reducible refine (Adr.put_none a z _ h1 h2 ha).mono ?_
      rintro e w5 ⟨rfl, hb5⟩
      have H5 := kept_hid H2 hb5
      clear hb5
      go_wp2_with fail
      go_ret
      rw [HW.out, errv_4]
      exact ⟨rfl, (kept_alloc H5 _).out⟩
    · replace HW := Lib.hid (show wrong ⟨7, t, p, n, s, m, (u : Int), c⟩ z = 0 by have := HW.out; simp only [if_neg (show ¬ ((u : Int) < 0 ∨ (z : Int) ≤ (u : Int)) by omega)] at this; simpa using this)
      go_wp2_with fail
      with_reducible refine (Adr.put_all u z _ ha h2).mono ?_
      rintro e w5 ⟨rfl, hb5⟩
      have H5 := kept_hid H2 hb5
      clear hb5
      go_wp2_with fail
      go_ret
      rw [HW.out, errv_0]
      exact ⟨rfl, (kept_alloc H5 _).out⟩
set_option maxHeartbeats 1000000 in
theorem right_no (ad : Option Addr) (len cap : Nat) (k : Int) (p n : Bool) (s : Int) (m : Bool) (a : Int) (c : Int) (z : Int) (w : World) (hk : k < 1 ∨ 7 < k) :
    Calls Tryz.prog 45 #[.agg #[.int .i64 k, .slice ad len cap, .bool p, .bool n, .int .i64 s, .bool m, .int .i64 a, .int .u8 c], .int .i64 z] w fun e w' => e = .returned (errv 5) ∧ Below w.heap.size w w' := by
  rw [errv_5]
  by_cases h : k < 1
  · go_enter Tryz.func45, Tryz.ntmps45
    go_wp2_with fail
    go_ret
    exact ⟨rfl, (Below.refl _ _).alloc (Nat.le_refl _) _⟩
  · have h7 : 7 < k := by omega
    clear hk
    go_enter Tryz.func45, Tryz.ntmps45
    go_wp2_with fail
    go_ret
    exact ⟨rfl, (Below.refl _ _).alloc (Nat.le_refl _) _⟩
/-- Right tells what is wrong. -/
theorem right_any (o : O) (ad : Option Addr) (len cap z : Nat) (w : World) (hB : BytesIn w (.slice ad len cap) o.t) (h8 : ∀ x ∈ o.t, x < 256) (hl : o.t.length < 1000000) (hc : o.c < 256) (h1 : 1 ≤ z) (h2 : z ≤ 16383) :
    Calls Tryz.prog 45 #[.agg #[.int .i64 o.k, .slice ad len cap, .bool o.p, .bool o.n, .int .i64 o.s, .bool o.m, .int .i64 o.a, .int .u8 (o.c : Int)], .int .i64 (z : Int)] w fun e w' => e = .returned (errv (wrong o z)) ∧ Below w.heap.size w w' := by
  obtain ⟨k, t, p, n, s, m, a, c⟩ := o
  simp only at hB h8 hl hc ⊢
  by_cases hk : k < 1 ∨ 7 < k
  · have e : wrong ⟨k, t, p, n, s, m, a, c⟩ z = 5 := by unfold wrong; rw [if_pos hk]
    rw [e]
    exact right_no ad len cap k p n s m a c z w hk
  have hk : k = 1 ∨ k = 2 ∨ k = 3 ∨ k = 4 ∨ k = 5 ∨ k = 6 ∨ k = 7 := by omega
  rcases hk with rfl | rfl | rfl | rfl | rfl | rfl | rfl
  · exact right_1 ad len cap t p n s m a c z w hB h8 hl hc h1 h2
  · exact right_2 ad len cap t p n s m a c z w hB h8 hl hc h1 h2
  · exact right_3 ad len cap t p n s m a c z w hB h8 hl hc h1 h2
  · exact right_4 ad len cap t p n s m a c z w hB h8 hl hc h1 h2
  · exact right_5 ad len cap t p n s m a c z w hB h8 hl hc h1 h2
  · exact right_6 ad len cap t p n s m a c z w hB h8 hl hc h1 h2
  · exact right_7 ad len cap t p n s m a c z w hB h8 hl hc h1 h2
end Ord
end Go.Proofs.YtpdlpmbjhopnnaaGreatDoor
/- Put of package order: an order's bytes, in new memory. Written by tools/gen_ord_put.py. -/
namespace Go.Proofs.YtpdlpmbjhopnnaaGreatDoor
open Go.RowKit Sha Cut Err Six Att Apd
namespace Ord
set_option maxRecDepth 100000 in
set_option maxHeartbeats 4000000 in
theorem put_1 (ad : Option Addr) (len cap z : Nat)  (w : World) (t : List Nat) (h8 : ∀ x ∈ t, x < 256) (hl : t.length < 1000000) (hn : ad = none → len = 0 ∧ cap = 0) (hB : BytesIn w (.slice ad len cap) t)  (h0 : wrong ⟨1, t, false, false, 0, false, 0, 0⟩ z = 0) (h1 : 1 ≤ z) (h2 : z ≤ 16383) :
    Calls Tryz.prog 129 #[.agg #[.int .i64 1, .slice ad len cap, .bool false, .bool false, .int .i64 0, .bool false, .int .i64 0, .int .u8 0], .int .i64 (z : Int)] w fun e w' => ∃ v, e = .returned (.tuple #[v, .nilIface]) ∧ w'.ownsRow w.heap.size 5 1 v t.length (u8s t) ∧ Below w.heap.size w w' := by
  have HA : Hid (Below w.heap.size w (w.alloc (.cells #[.int .i64 1, .slice ad len cap, .bool false, .bool false, .int .i64 0, .bool false, .int .i64 0, .int .u8 0] 76))) := (Below.refl _ _).alloc (Nat.le_refl _) _
  have HG := Lib.hid (heap_alloc_new w (.cells #[.int .i64 1, .slice ad len cap, .bool false, .bool false, .int .i64 0, .bool false, .int .i64 0, .int .u8 0] 76))
  have HR := Lib.hid fun W hb => right_any ⟨1, t, false, false, 0, false, 0, 0⟩ ad len cap z W (bytes_below hB hb) h8 hl (by show (0 : Nat) < 256; decide) h1 h2
  simp only [h0, errv_0, show ((0 : Nat) : Int) = 0 from rfl] at HR
  have HB := Lib.hid hB
  have HN := Lib.hid hn
  have H8 := Lib.hid h8
  clear hn h8
  clear hB h0
  go_enter Tryz.func129, Tryz.ntmps129
  go_wp2_with fail
  generalize w.alloc (.cells #[.int .i64 1, .slice ad len cap, .bool false, .bool false, .int .i64 0, .bool false, .int .i64 0, .int .u8 0] 76) = w1 at HA HG ⊢
  with_reducible refine (HR.out _ HA.out).mono ?_
  rintro e w2 ⟨rfl, hb⟩
  have K2 := Lib.hid hb
  obtain ⟨c0, c1, c2, c3, c4, c5, c6, c7⟩ := cells8 (blk HG.out K2.out)
  have l2 : w.heap.size < w2.heap.size := Byt.lt_heap (blk HG.out K2.out)
  clear hb HR
  go_wp2_with fail
  have hlen : t.length = len := by obtain ⟨_, _, hv, _⟩ := HB.out; injection hv with _ e2 _; exact e2.symm
  subst hlen
  with_reducible refine (Byt.clone_any ad _ cap t _ (bytes_below HB.out (kept_hid HA K2.out).out) HN.out (by omega)).mono ?_
  rintro e w3 ⟨v, rfl, ho, hb⟩
  have K3 := kept_hid K2 hb
  have HO := Lib.hid (own_mono (b := w.heap.size) ho (Nat.le_trans HA.out.size K2.out.size))
  obtain ⟨va, vc, rfl⟩ := own_form ho
  clear ho hb c0 c1 c2 c3 c4 c5 c6 c7
  go_wp2_with fail
  go_ret2
  exact ⟨_, rfl, HO.out, (kept_hid HA K3.out).out⟩
set_option maxRecDepth 100000 in
set_option maxHeartbeats 4000000 in
theorem put_2 (ad : Option Addr) (len cap z : Nat) (p n m : Bool) (s : Nat) (w : World) (hB : BytesIn w (.slice ad len cap) []) (hs : s < 4) (h0 : wrong ⟨2, [], p, n, (s : Int), m, 0, 0⟩ z = 0) (h1 : 1 ≤ z) (h2 : z ≤ 16383) :
    Calls Tryz.prog 129 #[.agg #[.int .i64 2, .slice ad len cap, .bool p, .bool n, .int .i64 (s : Int), .bool m, .int .i64 0, .int .u8 0], .int .i64 (z : Int)] w fun e w' => ∃ v, e = .returned (.tuple #[v, .nilIface]) ∧ w'.ownsRow w.heap.size 5 1 v 2 (u8s [29, put (num p n m s)]) ∧ Below w.heap.size w w' := by
  have HA : Hid (Below w.heap.size w (w.alloc (.cells #[.int .i64 2, .slice ad len cap, .bool p, .bool n, .int .i64 (s : Int), .bool m, .int .i64 0, .int .u8 0] 76))) := (Below.refl _ _).alloc (Nat.le_refl _) _
  have HG := Lib.hid (heap_alloc_new w (.cells #[.int .i64 2, .slice ad len cap, .bool p, .bool n, .int .i64 (s : Int), .bool m, .int .i64 0, .int .u8 0] 76))
  have HR := Lib.hid fun W hb => right_any ⟨2, [], p, n, (s : Int), m, 0, 0⟩ ad len cap z W (bytes_below hB hb) (by simp) (by show (0 : Nat) < 1000000; decide) (by show (0 : Nat) < 256; decide) h1 h2
  simp only [h0, errv_0, show ((0 : Nat) : Int) = 0 from rfl] at HR
  clear hB h0
  go_enter Tryz.func129, Tryz.ntmps129
  go_wp2_with fail
  generalize w.alloc (.cells #[.int .i64 2, .slice ad len cap, .bool p, .bool n, .int .i64 (s : Int), .bool m, .int .i64 0, .int .u8 0] 76) = w1 at HA HG ⊢
  with_reducible refine (HR.out _ HA.out).mono ?_
  rintro e w2 ⟨rfl, hb⟩
  have K2 := Lib.hid hb
  obtain ⟨c0, c1, c2, c3, c4, c5, c6, c7⟩ := cells8 (blk HG.out K2.out)
  have l2 : w.heap.size < w2.heap.size := Byt.lt_heap (blk HG.out K2.out)
  clear hb HR
  go_wp2_with fail
  with_reducible refine (begins_2 _).mono ?_
  rintro e w' ⟨rfl, rfl⟩
  go_wp2_with fail
  with_reducible refine (put_ok p n m s _ hs).mono ?_
  rintro e w3 ⟨rfl, hb⟩
  have K3 := kept_hid (kept_alloc K2 _) hb
  have HO := Lib.hid (own_below (own_lit w2 w1.heap.size [29] K2.out.size (by decide)) hb)
  clear hb c0 c1 c2 c3 c4 c5 c6 c7
  have HS := Lib.hid (bytes_src (lit_in w3 [put (num p n m s)]))
  go_wp2_with (at_builtin; refine wpList_mark ?_)
  refine Lib.hid ?_
  refine append_own rfl (.tmp 38) (.tmp 40) rfl w1.heap.size _ 1 _ rfl (own_below HO.out (al_any _ _)) (some ⟨w3.heap.size, 0, none⟩) 1 1 [put (num p n m s)] rfl rfl nofun HS.out (by decide) ?_ ?_
  · exact Nat.le_trans K3.out.size (by simp)
  intro v4 w4 hown hgr _
  have HO4 := Lib.hid (show w4.ownsRow w1.heap.size 5 1 v4 2 (u8s [29, put (num p n m s)]) from hown)
  have K4 := Lib.hid (below_own (kept_alloc K3 _).out hgr (own_below HO.out (al_any _ _)))
  obtain ⟨va, vc, rfl⟩ := own_form hown
  obtain ⟨c0, c1, c2, c3, c4, c5, c6, c7⟩ := cells8 (blk HG.out K4.out)
  have l4 : w.heap.size < w4.heap.size := Byt.lt_heap (blk HG.out K4.out)
  clear hown hgr HO HS K3
  go_wp2_with fail
  go_ret2
  exact ⟨_, rfl, own_mono HO4.out HA.out.size, (kept_hid HA K4.out).out⟩
set_option maxRecDepth 100000 in
set_option maxHeartbeats 4000000 in
theorem put_3 (ad : Option Addr) (len cap z : Nat) (a : Nat) (w : World) (hB : BytesIn w (.slice ad len cap) []) (ha : a < z) (h0 : wrong ⟨3, [], false, false, 0, false, (a : Int), 0⟩ z = 0) (h1 : 1 ≤ z) (h2 : z ≤ 16383) :
    Calls Tryz.prog 129 #[.agg #[.int .i64 3, .slice ad len cap, .bool false, .bool false, .int .i64 0, .bool false, .int .i64 (a : Int), .int .u8 0], .int .i64 (z : Int)] w fun e w' => ∃ v, e = .returned (.tuple #[v, .nilIface]) ∧ w'.ownsRow w.heap.size 5 1 v 3 (u8s [17, Adr.first a z, Adr.second a z]) ∧ Below w.heap.size w w' := by
  have HA : Hid (Below w.heap.size w (w.alloc (.cells #[.int .i64 3, .slice ad len cap, .bool false, .bool false, .int .i64 0, .bool false, .int .i64 (a : Int), .int .u8 0] 76))) := (Below.refl _ _).alloc (Nat.le_refl _) _
  have HG := Lib.hid (heap_alloc_new w (.cells #[.int .i64 3, .slice ad len cap, .bool false, .bool false, .int .i64 0, .bool false, .int .i64 (a : Int), .int .u8 0] 76))
  have HR := Lib.hid fun W hb => right_any ⟨3, [], false, false, 0, false, (a : Int), 0⟩ ad len cap z W (bytes_below hB hb) (by simp) (by show (0 : Nat) < 1000000; decide) (by show (0 : Nat) < 256; decide) h1 h2
  simp only [h0, errv_0, show ((0 : Nat) : Int) = 0 from rfl] at HR
  clear hB h0
  go_enter Tryz.func129, Tryz.ntmps129
  go_wp2_with fail
  generalize w.alloc (.cells #[.int .i64 3, .slice ad len cap, .bool false, .bool false, .int .i64 0, .bool false, .int .i64 (a : Int), .int .u8 0] 76) = w1 at HA HG ⊢
  with_reducible refine (HR.out _ HA.out).mono ?_
  rintro e w2 ⟨rfl, hb⟩
  have K2 := Lib.hid hb
  obtain ⟨c0, c1, c2, c3, c4, c5, c6, c7⟩ := cells8 (blk HG.out K2.out)
  have l2 : w.heap.size < w2.heap.size := Byt.lt_heap (blk HG.out K2.out)
  clear hb HR
  go_wp2_with fail
  with_reducible refine (begins_3 _).mono ?_
  rintro e w' ⟨rfl, rfl⟩
  go_wp2_with fail
  with_reducible refine (Adr.put_all a z _ ha h2).mono ?_
  rintro e w3 ⟨rfl, hb⟩
  have K3 := kept_hid (kept_alloc K2 _) hb
  have HO := Lib.hid (own_below (own_lit w2 w1.heap.size [17] K2.out.size (by decide)) hb)
  clear hb c0 c1 c2 c3 c4 c5 c6 c7
  have HT := Lib.hid (heap_alloc_new w3 (.cells #[.int .u8 (Adr.first a z : Nat), .int .u8 (Adr.second a z : Nat)] 104))
  have HS := Lib.hid (bytes_src (two_in HT.out))
  go_wp2_with (at_builtin; refine wpList_mark ?_)
  refine Lib.hid ?_
  refine append_own rfl (.tmp 53) (.tmp 54) rfl w1.heap.size _ 1 _ rfl (own_below HO.out (al_any _ _)) (some ⟨w3.heap.size, 0, none⟩) 2 2 [Adr.first a z, Adr.second a z] rfl rfl nofun HS.out (by decide) ?_ ?_
  · exact Nat.le_trans K3.out.size (by simp)
  intro v4 w4 hown hgr _
  have HO4 := Lib.hid (show w4.ownsRow w1.heap.size 5 1 v4 3 (u8s [17, Adr.first a z, Adr.second a z]) from hown)
  have K4 := Lib.hid (below_own (kept_alloc K3 _).out hgr (own_below HO.out (al_any _ _)))
  obtain ⟨va, vc, rfl⟩ := own_form hown
  obtain ⟨c0, c1, c2, c3, c4, c5, c6, c7⟩ := cells8 (blk HG.out K4.out)
  have l4 : w.heap.size < w4.heap.size := Byt.lt_heap (blk HG.out K4.out)
  clear hown hgr HO HS HT K3
  go_wp2_with fail
  go_ret2
  exact ⟨_, rfl, own_mono HO4.out HA.out.size, (kept_hid HA K4.out).out⟩
set_option maxRecDepth 100000 in
set_option maxHeartbeats 4000000 in
theorem put_4 (ad : Option Addr) (len cap z : Nat)  (w : World) (hB : BytesIn w (.slice ad len cap) [])  (h0 : wrong ⟨4, [], false, false, 0, false, 0, 0⟩ z = 0) (h1 : 1 ≤ z) (h2 : z ≤ 16383) :
    Calls Tryz.prog 129 #[.agg #[.int .i64 4, .slice ad len cap, .bool false, .bool false, .int .i64 0, .bool false, .int .i64 0, .int .u8 0], .int .i64 (z : Int)] w fun e w' => ∃ v, e = .returned (.tuple #[v, .nilIface]) ∧ w'.ownsRow w.heap.size 5 1 v 1 (u8s [19]) ∧ Below w.heap.size w w' := by
  have HA : Hid (Below w.heap.size w (w.alloc (.cells #[.int .i64 4, .slice ad len cap, .bool false, .bool false, .int .i64 0, .bool false, .int .i64 0, .int .u8 0] 76))) := (Below.refl _ _).alloc (Nat.le_refl _) _
  have HG := Lib.hid (heap_alloc_new w (.cells #[.int .i64 4, .slice ad len cap, .bool false, .bool false, .int .i64 0, .bool false, .int .i64 0, .int .u8 0] 76))
  have HR := Lib.hid fun W hb => right_any ⟨4, [], false, false, 0, false, 0, 0⟩ ad len cap z W (bytes_below hB hb) (by simp) (by show (0 : Nat) < 1000000; decide) (by show (0 : Nat) < 256; decide) h1 h2
  simp only [h0, errv_0, show ((0 : Nat) : Int) = 0 from rfl] at HR
  clear hB h0
  go_enter Tryz.func129, Tryz.ntmps129
  go_wp2_with fail
  generalize w.alloc (.cells #[.int .i64 4, .slice ad len cap, .bool false, .bool false, .int .i64 0, .bool false, .int .i64 0, .int .u8 0] 76) = w1 at HA HG ⊢
  with_reducible refine (HR.out _ HA.out).mono ?_
  rintro e w2 ⟨rfl, hb⟩
  have K2 := Lib.hid hb
  obtain ⟨c0, c1, c2, c3, c4, c5, c6, c7⟩ := cells8 (blk HG.out K2.out)
  have l2 : w.heap.size < w2.heap.size := Byt.lt_heap (blk HG.out K2.out)
  clear hb HR
  go_wp2_with fail
  with_reducible refine (begins_4 _).mono ?_
  rintro e w' ⟨rfl, rfl⟩
  have HO := Lib.hid (own_mono (b := w.heap.size) (own_lit w2 w1.heap.size [19] K2.out.size (by decide)) HA.out.size)
  have K3 := kept_alloc K2 (.cells #[.int .u8 19] 5)
  go_wp2_with fail
  go_ret2
  exact ⟨_, rfl, HO.out, (kept_hid HA K3.out).out⟩
set_option maxRecDepth 100000 in
set_option maxHeartbeats 4000000 in
theorem put_5 (ad : Option Addr) (len cap z : Nat)  (w : World) (hB : BytesIn w (.slice ad len cap) [])  (h0 : wrong ⟨5, [], false, false, 0, false, 0, 0⟩ z = 0) (h1 : 1 ≤ z) (h2 : z ≤ 16383) :
    Calls Tryz.prog 129 #[.agg #[.int .i64 5, .slice ad len cap, .bool false, .bool false, .int .i64 0, .bool false, .int .i64 0, .int .u8 0], .int .i64 (z : Int)] w fun e w' => ∃ v, e = .returned (.tuple #[v, .nilIface]) ∧ w'.ownsRow w.heap.size 5 1 v 1 (u8s [5]) ∧ Below w.heap.size w w' := by
  have HA : Hid (Below w.heap.size w (w.alloc (.cells #[.int .i64 5, .slice ad len cap, .bool false, .bool false, .int .i64 0, .bool false, .int .i64 0, .int .u8 0] 76))) := (Below.refl _ _).alloc (Nat.le_refl _) _
  have HG := Lib.hid (heap_alloc_new w (.cells #[.int .i64 5, .slice ad len cap, .bool false, .bool false, .int .i64 0, .bool false, .int .i64 0, .int .u8 0] 76))
  have HR := Lib.hid fun W hb => right_any ⟨5, [], false, false, 0, false, 0, 0⟩ ad len cap z W (bytes_below hB hb) (by simp) (by show (0 : Nat) < 1000000; decide) (by show (0 : Nat) < 256; decide) h1 h2
  simp only [h0, errv_0, show ((0 : Nat) : Int) = 0 from rfl] at HR
  clear hB h0
  go_enter Tryz.func129, Tryz.ntmps129
  go_wp2_with fail
  generalize w.alloc (.cells #[.int .i64 5, .slice ad len cap, .bool false, .bool false, .int .i64 0, .bool false, .int .i64 0, .int .u8 0] 76) = w1 at HA HG ⊢
  with_reducible refine (HR.out _ HA.out).mono ?_
  rintro e w2 ⟨rfl, hb⟩
  have K2 := Lib.hid hb
  obtain ⟨c0, c1, c2, c3, c4, c5, c6, c7⟩ := cells8 (blk HG.out K2.out)
  have l2 : w.heap.size < w2.heap.size := Byt.lt_heap (blk HG.out K2.out)
  clear hb HR
  go_wp2_with fail
  with_reducible refine (begins_5 _).mono ?_
  rintro e w' ⟨rfl, rfl⟩
  have HO := Lib.hid (own_mono (b := w.heap.size) (own_lit w2 w1.heap.size [5] K2.out.size (by decide)) HA.out.size)
  have K3 := kept_alloc K2 (.cells #[.int .u8 5] 5)
  go_wp2_with fail
  go_ret2
  exact ⟨_, rfl, HO.out, (kept_hid HA K3.out).out⟩
set_option maxRecDepth 100000 in
set_option maxHeartbeats 4000000 in
theorem put_6 (ad : Option Addr) (len cap z : Nat) (a c : Nat) (w : World) (hB : BytesIn w (.slice ad len cap) []) (ha : a < z) (hc : c < 256) (h0 : wrong ⟨6, [], false, false, 0, false, (a : Int), c⟩ z = 0) (h1 : 1 ≤ z) (h2 : z ≤ 16383) :
    Calls Tryz.prog 129 #[.agg #[.int .i64 6, .slice ad len cap, .bool false, .bool false, .int .i64 0, .bool false, .int .i64 (a : Int), .int .u8 (c : Int)], .int .i64 (z : Int)] w fun e w' => ∃ v, e = .returned (.tuple #[v, .nilIface]) ∧ w'.ownsRow w.heap.size 5 1 v 4 (u8s [60, Adr.first a z, Adr.second a z, c]) ∧ Below w.heap.size w w' := by
  have HA : Hid (Below w.heap.size w (w.alloc (.cells #[.int .i64 6, .slice ad len cap, .bool false, .bool false, .int .i64 0, .bool false, .int .i64 (a : Int), .int .u8 (c : Int)] 76))) := (Below.refl _ _).alloc (Nat.le_refl _) _
  have HG := Lib.hid (heap_alloc_new w (.cells #[.int .i64 6, .slice ad len cap, .bool false, .bool false, .int .i64 0, .bool false, .int .i64 (a : Int), .int .u8 (c : Int)] 76))
  have HR := Lib.hid fun W hb => right_any ⟨6, [], false, false, 0, false, (a : Int), c⟩ ad len cap z W (bytes_below hB hb) (by simp) (by show (0 : Nat) < 1000000; decide) hc h1 h2
  simp only [h0, errv_0] at HR
  clear hB h0
  go_enter Tryz.func129, Tryz.ntmps129
  go_wp2_with fail
  generalize w.alloc (.cells #[.int .i64 6, .slice ad len cap, .bool false, .bool false, .int .i64 0, .bool false, .int .i64 (a : Int), .int .u8 (c : Int)] 76) = w1 at HA HG ⊢
  with_reducible refine (HR.out _ HA.out).mono ?_
  rintro e w2 ⟨rfl, hb⟩
  have K2 := Lib.hid hb
  obtain ⟨c0, c1, c2, c3, c4, c5, c6, c7⟩ := cells8 (blk HG.out K2.out)
  have l2 : w.heap.size < w2.heap.size := Byt.lt_heap (blk HG.out K2.out)
  clear hb HR
  go_wp2_with fail
  with_reducible refine (begins_6 _).mono ?_
  rintro e w' ⟨rfl, rfl⟩
  go_wp2_with fail
  with_reducible refine (Adr.put_all a z _ ha h2).mono ?_
  rintro e w3 ⟨rfl, hb⟩
  have K3 := kept_hid (kept_alloc K2 _) hb
  have HO := Lib.hid (own_below (own_lit w2 w1.heap.size [60] K2.out.size (by decide)) hb)
  clear hb c0 c1 c2 c3 c4 c5 c6 c7
  have HT := Lib.hid (heap_alloc_new w3 (.cells #[.int .u8 (Adr.first a z : Nat), .int .u8 (Adr.second a z : Nat)] 104))
  have HS := Lib.hid (bytes_src (two_in HT.out))
  go_wp2_with (at_builtin; refine wpList_mark ?_)
  refine Lib.hid ?_
  refine append_own rfl (.tmp 53) (.tmp 54) rfl w1.heap.size _ 1 _ rfl (own_below HO.out (al_any _ _)) (some ⟨w3.heap.size, 0, none⟩) 2 2 [Adr.first a z, Adr.second a z] rfl rfl nofun HS.out (by decide) ?_ ?_
  · exact Nat.le_trans K3.out.size (by simp)
  intro v4 w4 hown hgr _
  have HO4 := Lib.hid (show w4.ownsRow w1.heap.size 5 1 v4 3 (u8s [60, Adr.first a z, Adr.second a z]) from hown)
  have K4 := Lib.hid (below_own (kept_alloc K3 _).out hgr (own_below HO.out (al_any _ _)))
  obtain ⟨va, vc, rfl⟩ := own_form hown
  obtain ⟨c0, c1, c2, c3, c4, c5, c6, c7⟩ := cells8 (blk HG.out K4.out)
  have l4 : w.heap.size < w4.heap.size := Byt.lt_heap (blk HG.out K4.out)
  clear hown hgr HO HS HT K3
  have HS := Lib.hid (bytes_src (lit_in w4 [c]))
  go_wp2_with (at_builtin; refine wpList_mark ?_)
  refine Lib.hid ?_
  refine append_own rfl (.tmp 59) (.tmp 62) rfl w1.heap.size _ 3 _ rfl (own_below HO4.out (al_any _ _)) (some ⟨w4.heap.size, 0, none⟩) 1 1 [c] rfl rfl nofun HS.out (by decide) ?_ ?_
  · exact Nat.le_trans K4.out.size (by simp)
  intro v5 w5 hown hgr _
  have HO5 := Lib.hid (show w5.ownsRow w1.heap.size 5 1 v5 4 (u8s [60, Adr.first a z, Adr.second a z, c]) from hown)
  have K5 := Lib.hid (below_own (kept_alloc K4 _).out hgr (own_below HO4.out (al_any _ _)))
  obtain ⟨va5, vc5, rfl⟩ := own_form hown
  clear hown hgr HO4 HS K4 c0 c1 c2 c3 c4 c5 c6 c7
  go_wp2_with fail
  go_ret2
  exact ⟨_, rfl, own_mono HO5.out HA.out.size, (kept_hid HA K5.out).out⟩
set_option maxRecDepth 100000 in
set_option maxHeartbeats 4000000 in
theorem put_7 (ad : Option Addr) (len cap z : Nat) (a : Nat) (w : World) (hB : BytesIn w (.slice ad len cap) []) (ha : a < z) (h0 : wrong ⟨7, [], false, false, 0, false, (a : Int), 0⟩ z = 0) (h1 : 1 ≤ z) (h2 : z ≤ 16383) :
    Calls Tryz.prog 129 #[.agg #[.int .i64 7, .slice ad len cap, .bool false, .bool false, .int .i64 0, .bool false, .int .i64 (a : Int), .int .u8 0], .int .i64 (z : Int)] w fun e w' => ∃ v, e = .returned (.tuple #[v, .nilIface]) ∧ w'.ownsRow w.heap.size 5 1 v 3 (u8s [18, Adr.first a z, Adr.second a z]) ∧ Below w.heap.size w w' := by
  have HA : Hid (Below w.heap.size w (w.alloc (.cells #[.int .i64 7, .slice ad len cap, .bool false, .bool false, .int .i64 0, .bool false, .int .i64 (a : Int), .int .u8 0] 76))) := (Below.refl _ _).alloc (Nat.le_refl _) _
  have HG := Lib.hid (heap_alloc_new w (.cells #[.int .i64 7, .slice ad len cap, .bool false, .bool false, .int .i64 0, .bool false, .int .i64 (a : Int), .int .u8 0] 76))
  have HR := Lib.hid fun W hb => right_any ⟨7, [], false, false, 0, false, (a : Int), 0⟩ ad len cap z W (bytes_below hB hb) (by simp) (by show (0 : Nat) < 1000000; decide) (by show (0 : Nat) < 256; decide) h1 h2
  simp only [h0, errv_0, show ((0 : Nat) : Int) = 0 from rfl] at HR
  clear hB h0
  go_enter Tryz.func129, Tryz.ntmps129
  go_wp2_with fail
  generalize w.alloc (.cells #[.int .i64 7, .slice ad len cap, .bool false, .bool false, .int .i64 0, .bool false, .int .i64 (a : Int), .int .u8 0] 76) = w1 at HA HG ⊢
  with_reducible refine (HR.out _ HA.out).mono ?_
  rintro e w2 ⟨rfl, hb⟩
  have K2 := Lib.hid hb
  obtain ⟨c0, c1, c2, c3, c4, c5, c6, c7⟩ := cells8 (blk HG.out K2.out)
  have l2 : w.heap.size < w2.heap.size := Byt.lt_heap (blk HG.out K2.out)
  clear hb HR
  go_wp2_with fail
  with_reducible refine (begins_7 _).mono ?_
  rintro e w' ⟨rfl, rfl⟩
  go_wp2_with fail
  with_reducible refine (Adr.put_all a z _ ha h2).mono ?_
  rintro e w3 ⟨rfl, hb⟩
  have K3 := kept_hid (kept_alloc K2 _) hb
  have HO := Lib.hid (own_below (own_lit w2 w1.heap.size [18] K2.out.size (by decide)) hb)
  clear hb c0 c1 c2 c3 c4 c5 c6 c7
  have HT := Lib.hid (heap_alloc_new w3 (.cells #[.int .u8 (Adr.first a z : Nat), .int .u8 (Adr.second a z : Nat)] 104))
  have HS := Lib.hid (bytes_src (two_in HT.out))
  go_wp2_with (at_builtin; refine wpList_mark ?_)
  refine Lib.hid ?_
  refine append_own rfl (.tmp 53) (.tmp 54) rfl w1.heap.size _ 1 _ rfl (own_below HO.out (al_any _ _)) (some ⟨w3.heap.size, 0, none⟩) 2 2 [Adr.first a z, Adr.second a z] rfl rfl nofun HS.out (by decide) ?_ ?_
  · exact Nat.le_trans K3.out.size (by simp)
  intro v4 w4 hown hgr _
  have HO4 := Lib.hid (show w4.ownsRow w1.heap.size 5 1 v4 3 (u8s [18, Adr.first a z, Adr.second a z]) from hown)
  have K4 := Lib.hid (below_own (kept_alloc K3 _).out hgr (own_below HO.out (al_any _ _)))
  obtain ⟨va, vc, rfl⟩ := own_form hown
  obtain ⟨c0, c1, c2, c3, c4, c5, c6, c7⟩ := cells8 (blk HG.out K4.out)
  have l4 : w.heap.size < w4.heap.size := Byt.lt_heap (blk HG.out K4.out)
  clear hown hgr HO HS HT K3
  go_wp2_with fail
  go_ret2
  exact ⟨_, rfl, own_mono HO4.out HA.out.size, (kept_hid HA K4.out).out⟩
/-- Put of an order that isn't wrong. -/
theorem put_right (o : O) (ad : Option Addr) (len cap z : Nat) (w : World) (hB : BytesIn w (.slice ad len cap) o.t) (h8 : ∀ x ∈ o.t, x < 256) (hl : o.t.length < 1000000) (hn : ad = none → len = 0 ∧ cap = 0) (hc : o.c < 256) (h0 : wrong o z = 0) (h1 : 1 ≤ z) (h2 : z ≤ 16383) :
    Calls Tryz.prog 129 #[.agg #[.int .i64 o.k, .slice ad len cap, .bool o.p, .bool o.n, .int .i64 o.s, .bool o.m, .int .i64 o.a, .int .u8 (o.c : Int)], .int .i64 (z : Int)] w fun e w' => ∃ v, e = .returned (.tuple #[v, .nilIface]) ∧ w'.ownsRow w.heap.size 5 1 v (obytes o z).length (u8s (obytes o z)) ∧ Below w.heap.size w w' := by
  rcases right_cases h0 with ⟨t, rfl, _, _⟩ | ⟨p, n, m, s, rfl, hs⟩ | ⟨a, rfl, ha⟩ | rfl | rfl | ⟨a, c, rfl, ha, _⟩ | ⟨a, rfl, ha⟩
  · exact put_1 ad len cap z w t h8 hl hn hB h0 h1 h2
  · exact put_2 ad len cap z p n m s w hB hs h0 h1 h2
  · exact put_3 ad len cap z a w hB ha h0 h1 h2
  · exact put_4 ad len cap z w hB h0 h1 h2
  · exact put_5 ad len cap z w hB h0 h1 h2
  · exact put_6 ad len cap z a c w hB ha hc h0 h1 h2
  · exact put_7 ad len cap z a w hB ha h0 h1 h2
theorem errv_pos {c : Nat} (h : c ≠ 0) : errv c = .iface 71 (.int .i64 (c : Int)) := if_neg h
set_option maxHeartbeats 1000000 in
/-- Put of an order that is wrong. -/
theorem put_wrong (o : O) (ad : Option Addr) (len cap z : Nat) (w : World) (hB : BytesIn w (.slice ad len cap) o.t) (h8 : ∀ x ∈ o.t, x < 256) (hl : o.t.length < 1000000) (hc : o.c < 256) (h0 : wrong o z ≠ 0) (h1 : 1 ≤ z) (h2 : z ≤ 16383) :
    Calls Tryz.prog 129 #[.agg #[.int .i64 o.k, .slice ad len cap, .bool o.p, .bool o.n, .int .i64 o.s, .bool o.m, .int .i64 o.a, .int .u8 (o.c : Int)], .int .i64 (z : Int)] w fun e w' => e = .returned (.tuple #[.slice none 0 0, .iface 71 (.int .i64 (wrong o z : Nat))]) ∧ Below w.heap.size w w' := by
  have HR := fun W hb => right_any o ad len cap z W (bytes_below hB hb) h8 hl hc h1 h2
  rw [errv_pos h0] at HR
  obtain ⟨k, t, p, n, s, m, a, c⟩ := o
  generalize wrong _ z = u at HR h0 ⊢
  simp only at HR ⊢
  have HR := Lib.hid HR
  have HA : Hid (Below w.heap.size w (w.alloc (.cells #[.int .i64 k, .slice ad len cap, .bool p, .bool n, .int .i64 s, .bool m, .int .i64 a, .int .u8 (c : Int)] 76))) := (Below.refl _ _).alloc (Nat.le_refl _) _
  clear hB h8 hl hc h0
  go_enter Tryz.func129, Tryz.ntmps129
  go_wp2_with fail
  generalize w.alloc _ = w1 at HA ⊢
  with_reducible refine (HR.out _ HA.out).mono ?_
  rintro e w2 ⟨rfl, hb⟩
  have K2 := kept_hid HA hb
  clear hb HR
  go_wp2_with fail
  go_ret2
  exact ⟨rfl, K2.out⟩
end Ord
end Go.Proofs.YtpdlpmbjhopnnaaGreatDoor
/- kindOf of package order. Written by tools/gen_ord_take.py. -/
namespace Go.Proofs.YtpdlpmbjhopnnaaGreatDoor
open Go.RowKit Six Att
namespace Ord
/-- The kind that begins with a byte. -/
def kindB (b : Nat) : Nat := if char b then 1 else if b = 29 then 2 else if b = 17 then 3 else if b = 19 then 4 else if b = 5 then 5 else if b = 60 then 6 else if b = 18 then 7 else 0
theorem kindB_char {b : Nat} (h : char b = true) : kindB b = 1 := by unfold kindB; rw [if_pos h]
theorem kindB_at : ∀ b, b < 256 → ∀ k : Nat, k < 8 → 2 ≤ k → char b = false → begins (k : Int) = b → kindB b = k := by decide +kernel
theorem kindB_none0 : ∀ b, b < 256 → (kindB b == 0 || char b || begins 2 == b || begins 3 == b || begins 4 == b || begins 5 == b || begins 6 == b || begins 7 == b) = true := by decide +kernel
theorem kindB_none (b : Nat) (hb : b < 256) (hc : char b = false) (h2 : begins 2 ≠ b) (h3 : begins 3 ≠ b) (h4 : begins 4 ≠ b) (h5 : begins 5 ≠ b) (h6 : begins 6 ≠ b) (h7 : begins 7 ≠ b) : kindB b = 0 := by
  have h := kindB_none0 b hb
  rw [hc] at h
  simpa [h2, h3, h4, h5, h6, h7] using h
theorem begins_any (k : Nat) (w : World) (h1 : 2 ≤ k) (h2 : k ≤ 7) : Calls Tryz.prog 141 #[.int .i64 (k : Int)] w fun e w' => e = .returned (.int .u8 (begins (k : Int) : Nat)) ∧ w = w' := by
  have hk : k = 2 ∨ k = 3 ∨ k = 4 ∨ k = 5 ∨ k = 6 ∨ k = 7 := by omega
  rcases hk with rfl | rfl | rfl | rfl | rfl | rfl
  · exact begins_2 w
  · exact begins_3 w
  · exact begins_4 w
  · exact begins_5 w
  · exact begins_6 w
  · exact begins_7 w
set_option maxRecDepth 100000 in
set_option maxHeartbeats 1000000 in
theorem kindOf_any (b : Nat) (w : World) (hb : b < 256) :
    Calls Tryz.prog 143 #[.int .u8 (b : Int)] w fun e w' => e = .returned (.int .i64 (kindB b : Nat)) ∧ w = w' := by
  have HC := Lib.hid fun W => char_any b W hb
  cases hc : char b with
  | true =>
    have HK := Lib.hid (kindB_char hc)
    rw [hc] at HC
    clear hc
    go_enter Tryz.func143, Tryz.ntmps143
    go_wp2_with fail
    with_reducible refine (HC.out _).mono ?_
    rintro e w1 ⟨rfl, rfl⟩
    go_wp2_with fail
    go_ret
    refine ⟨?_, rfl⟩
    rw [HK.out]; rfl
  | false =>
    have HK := Lib.hid fun (k : Nat) h1 h2 h3 => kindB_at b hb k h1 h2 hc h3
    have HN := Lib.hid (kindB_none b hb hc)
    have HB := Lib.hid begins_any
    rw [hc] at HC
    clear hc
    go_enter Tryz.func143, Tryz.ntmps143
    go_wp2_with fail
    with_reducible refine (HC.out _).mono ?_
    rintro e w1 ⟨rfl, rfl⟩
    clear HC
    go_wp2_with fail
    go_loopg [3] 8 (fun n i wr => wr = w ∧ ∃ k : Nat, 2 ≤ k ∧ k ≤ 8 ∧ n = 10 - k ∧ i = .int .i64 k ∧ Hid (∀ j : Nat, 2 ≤ j → j < k → begins (j : Int) ≠ b))
    case atStart => exact ⟨rfl, 2, by omega, by omega, by omega, rfl, Lib.hid fun j h1 h2 => absurd h2 (by omega)⟩
    case round =>
      obtain ⟨rfl, k, hk1, hk2, rfl, rfl, hall⟩ := hrel
      by_cases hlt : k ≤ 7
      · have hi0 : (0 : Int) ≤ (k : Int) := by omega
        have hi1 : (k : Int) ≤ 7 := by omega
        have ew : IntKind.i64.wrap ((k : Int) + 1) = (k : Int) + 1 := by rw [IntWalk.i64_in] <;> omega
        have HE := Lib.hid (HB.out k wr hk1 hlt)
        have HKK := Lib.hid (HK.out k (by omega) hk1)
        have HA := Lib.hid (show begins (k : Int) ≠ b → ∀ j : Nat, 2 ≤ j → j < k + 1 → begins (j : Int) ≠ b from fun h j h1 h2 => by
          rcases Nat.lt_or_ge j k with h' | h'
          · exact hall.out j h1 h'
          · obtain rfl : j = k := by omega
            exact h)
        generalize begins (k : Int) = x at HE HKK HA
        clear hall
        go_wp2_with fail
        with_reducible refine HE.out.mono ?_
        rintro e w' ⟨rfl, rfl⟩
        by_cases hx : x = b
        · have e0 : ((x : Int) == (b : Int)) = true := by simp; omega
          have HR := Lib.hid (HKK.out hx)
          clear hx HA HKK HE ew
          go_wp2_with fail
          go_ret
          refine ⟨?_, rfl⟩
          rw [HR.out]; rfl
        · have e0 : ((x : Int) == (b : Int)) = false := by simp; omega
          have HR := Lib.hid (HA.out hx)
          clear hx HA HKK HE
          go_wp2_with fail
          go_roundg (10 - (k + 1))
          case measure => omega
          case rel => exact ⟨rfl, k + 1, by omega, by omega, rfl, by go_num, HR⟩
      · obtain rfl : k = 8 := by omega
        have HR := Lib.hid (show kindB b = 0 from HN.out (hall.out 2 (by omega) (by omega)) (hall.out 3 (by omega) (by omega)) (hall.out 4 (by omega) (by omega)) (hall.out 5 (by omega) (by omega)) (hall.out 6 (by omega) (by omega)) (hall.out 7 (by omega) (by omega)))
        clear hall hlt
        go_wp2_with fail
        go_ret
        refine ⟨?_, rfl⟩
        rw [HR.out]; rfl
end Ord
end Go.Proofs.YtpdlpmbjhopnnaaGreatDoor
/- takeKind, takeAttr, takeChar of package order. Written by tools/gen_ord_take.py. -/
namespace Go.Proofs.YtpdlpmbjhopnnaaGreatDoor
open Go.RowKit Sha Cut Err Six Att Byt
namespace Ord
theorem takeKind_met {C g at_ b : Nat} {xs : List Nat} (w : World) (h : Cur w C g xs at_ (.iface 84 (.pointer (some ⟨b, 0, none⟩)))) :
    Calls Tryz.prog 131 #[.pointer (some ⟨C, 0, none⟩)] w fun e w' => e = .returned (.int .i64 0) ∧ w = w' := by
  have HP := Lib.hid (peek_met w h)
  have HF := Lib.hid (fail_met (.iface 71 (.int .i64 2)) w h)
  clear h
  go_enter Tryz.func131, Tryz.ntmps131
  go_wp2_with fail
  with_reducible refine HP.out.mono ?_
  rintro e w1 ⟨rfl, rfl⟩
  go_wp2_with fail
  with_reducible refine HF.out.mono ?_
  rintro e w1 ⟨rfl, rfl⟩
  go_wp2_with fail
  go_ret
  exact ⟨rfl, rfl⟩
theorem takeKind_none {C g at_ : Nat} {xs : List Nat} (w : World) (h : Byt.Cur w C g xs at_ .nilIface) (hl : xs.length ≤ at_) :
    Calls Tryz.prog 131 #[.pointer (some ⟨C, 0, none⟩)] w fun e w' => e = .returned (.int .i64 0) ∧ ∃ ev, Cur w' C g xs at_ ev ∧ Met w' ev 2 at_ ∧ w.grownBy w' (some C) := by
  have HP := Lib.hid (peek_none w h hl)
  have HF := Lib.hid (fun m => fail_new (d := 0) (.iface 71 (.int .i64 2)) 2 (w.drewN m) (h.drewN m) rfl)
  clear h
  go_enter Tryz.func131, Tryz.ntmps131
  go_wp2_with fail
  with_reducible refine HP.out.mono ?_
  rintro e w1 ⟨rfl, m, rfl⟩
  go_wp2_with fail
  with_reducible refine (HF.out m).mono ?_
  rintro e w2 ⟨rfl, ev, h1, h2, h3⟩
  have HR := Lib.hid (show ∃ ev, Cur w2 C g xs at_ ev ∧ Met w2 ev 2 at_ ∧ w.grownBy w2 (some C) from ⟨ev, h1, h2, gtrans (gdrewN w m _) h3⟩)
  clear h1 h2 h3 HF HP
  go_wp2_with fail
  go_ret
  exact ⟨rfl, HR.out⟩
theorem takeKind_bad {C g at_ : Nat} {xs : List Nat} (w : World) (h : Byt.Cur w C g xs at_ .nilIface) (hl : at_ < xs.length) (hb : xs.getD at_ 0 < 256) (hk : kindB (xs.getD at_ 0) = 0) :
    Calls Tryz.prog 131 #[.pointer (some ⟨C, 0, none⟩)] w fun e w' => e = .returned (.int .i64 0) ∧ ∃ ev, Cur w' C g xs at_ ev ∧ Met w' ev 5 at_ ∧ w.grownBy w' (some C) := by
  have HP := Lib.hid (peek_ok w h hl)
  have HF := Lib.hid (fun m => fail_new (d := 0) (.iface 71 (.int .i64 5)) 5 (w.drewN m) (h.drewN m) rfl)
  have HK := Lib.hid fun W => kindOf_any (xs.getD at_ 0) W hb
  rw [hk] at HK
  clear h hb hk
  generalize xs.getD at_ 0 = x at *
  go_enter Tryz.func131, Tryz.ntmps131
  go_wp2_with fail
  with_reducible refine HP.out.mono ?_
  rintro e w1 ⟨rfl, m, rfl⟩
  go_wp2_with fail
  with_reducible refine (HK.out _).mono ?_
  rintro e w1 ⟨rfl, rfl⟩
  go_wp2_with fail
  with_reducible refine (HF.out m).mono ?_
  rintro e w2 ⟨rfl, ev, h1, h2, h3⟩
  have HR := Lib.hid (show ∃ ev, Cur w2 C g xs at_ ev ∧ Met w2 ev 5 at_ ∧ w.grownBy w2 (some C) from ⟨ev, h1, h2, gtrans (gdrewN w m _) h3⟩)
  clear h1 h2 h3 HF HP HK
  go_wp2_with fail
  go_ret
  exact ⟨rfl, HR.out⟩
theorem takeKind_text {C g at_ : Nat} {xs : List Nat} (w : World) (h : Byt.Cur w C g xs at_ .nilIface) (hl : at_ < xs.length) (hb : xs.getD at_ 0 < 256) (hk : kindB (xs.getD at_ 0) = 1) :
    Calls Tryz.prog 131 #[.pointer (some ⟨C, 0, none⟩)] w fun e w' => e = .returned (.int .i64 1) ∧ Cur w' C g xs at_ .nilIface ∧ w.grownBy w' (some C) := by
  have HP := Lib.hid (peek_ok w h hl)
  have HK := Lib.hid fun W => kindOf_any (xs.getD at_ 0) W hb
  have HU := Lib.hid (fun m => h.drewN m)
  rw [hk] at HK
  clear h hb hk
  generalize xs.getD at_ 0 = x at *
  go_enter Tryz.func131, Tryz.ntmps131
  go_wp2_with fail
  with_reducible refine HP.out.mono ?_
  rintro e w1 ⟨rfl, m, rfl⟩
  go_wp2_with fail
  with_reducible refine (HK.out _).mono ?_
  rintro e w1 ⟨rfl, rfl⟩
  go_wp2_with fail
  go_ret
  exact ⟨rfl, HU.out m, gdrewN _ _ _⟩
theorem takeKind_order {C g at_ : Nat} {xs : List Nat} (w : World) (h : Byt.Cur w C g xs at_ .nilIface) (hx : xs.length < 1000000000) (k : Nat) (hl : at_ < xs.length) (hb : xs.getD at_ 0 < 256) (hk : kindB (xs.getD at_ 0) = k) (hk2 : 2 ≤ k) :
    Calls Tryz.prog 131 #[.pointer (some ⟨C, 0, none⟩)] w fun e w' => e = .returned (.int .i64 (k : Int)) ∧ Cur w' C g xs (at_ + 1) .nilIface ∧ w.grownBy w' (some C) := by
  have HP := Lib.hid (peek_ok w h hl)
  have HK := Lib.hid fun W => kindOf_any (xs.getD at_ 0) W hb
  have HB := Lib.hid (fun m => byte_ok (w.drewN m) (h.drewN m) hl hx)
  rw [hk] at HK
  have k0 : ((k : Int) == 0) = false := by simp; omega
  have k1 : ((k : Int) == 1) = false := by simp; omega
  clear h hb hk
  generalize xs.getD at_ 0 = x at *
  go_enter Tryz.func131, Tryz.ntmps131
  go_wp2_with fail
  with_reducible refine HP.out.mono ?_
  rintro e w1 ⟨rfl, m, rfl⟩
  go_wp2_with fail
  with_reducible refine (HK.out _).mono ?_
  rintro e w1 ⟨rfl, rfl⟩
  go_wp2_with fail
  with_reducible refine (HB.out m).mono ?_
  rintro e w2 ⟨rfl, h1, h2⟩
  have H1 := Lib.hid h1
  have H2 := Lib.hid (gtrans (gdrewN w m _) h2)
  clear h1 h2 HB HP HK
  go_wp2_with fail
  go_ret
  exact ⟨rfl, H1.out, H2.out⟩
set_option maxRecDepth 100000 in
set_option maxHeartbeats 2000000 in
theorem takeAttr_ok {C g at_ : Nat} {xs : List Nat} (w : World) (h : Byt.Cur w C g xs at_ .nilIface) (hx : xs.length < 1000000000) (hl : at_ < xs.length) (p n m : Bool) (s : Nat) (hs : s < 4) (hb : xs.getD at_ 0 = put (num p n m s)) :
    Calls Tryz.prog 133 #[.pointer (some ⟨C, 0, none⟩)] w fun e w' => e = .returned (.agg #[.bool p, .bool n, .int .i64 (s : Int), .bool m]) ∧ Cur w' C g xs (at_ + 1) .nilIface ∧ w.grownBy w' (some C) := by
  have HA := al_any w (.cells #[.bool false, .bool false, .int .i64 0, .bool false] 62)
  have HN := Lib.hid (heap_alloc_new w (.cells #[.bool false, .bool false, .int .i64 0, .bool false] 62))
  have hP := peek_ok _ (h.below HA) hl
  rw [hb] at hP
  have HP := Lib.hid hP
  have HU := Lib.hid (h.below HA)
  have HG := Lib.hid fun W => get_ok p n m s W hs
  have HC := Lib.hid h.clt
  have HGL := Lib.hid h.glt
  have HA := Lib.hid HA
  clear h hb hP
  go_enter Tryz.func133, Tryz.ntmps133
  go_wp2_with fail
  generalize w.alloc (.cells #[.bool false, .bool false, .int .i64 0, .bool false] 62) = wa at *
  with_reducible refine HP.out.mono ?_
  rintro e w1 ⟨rfl, j, rfl⟩
  clear HP
  go_wp2_with fail
  with_reducible refine (HG.out _).mono ?_
  rintro e w1 ⟨rfl, hb⟩
  have H1 := kept_hid (kept_draw HA j) hb
  have N1 := blk HN.out (kept_trans (drewN_below _ j wa) hb)
  have U1 := (HU.out.drewN j).below hb
  have H2 := kept_alloc H1 (.cells #[.bool p, .bool n, .int .i64 (s : Int), .bool m] 62)
  have N2 := Lib.hid (blk N1 (al_any w1 (.cells #[.bool p, .bool n, .int .i64 (s : Int), .bool m] 62)))
  have M2 := Lib.hid (heap_alloc_new w1 (.cells #[.bool p, .bool n, .int .i64 (s : Int), .bool m] 62))
  have U2 := Lib.hid (U1.below (al_any w1 (.cells #[.bool p, .bool n, .int .i64 (s : Int), .bool m] 62)))
  have HL := Lib.hid (Nat.lt_of_lt_of_le HC.out H1.out.size)
  have HK := Lib.hid (Nat.lt_of_lt_of_le HGL.out H1.out.size)
  have HB := Lib.hid H1.out.size
  clear hb HU HN HA HG N1 U1 H1
  go_wp2_with fail
  generalize w1.heap.size = L at *
  generalize w1.alloc (.cells #[.bool p, .bool n, .int .i64 (s : Int), .bool m] 62) = w2 at *
  with_reducible refine (fail_nil w2 U2.out).mono ?_
  rintro e w3 ⟨rfl, rfl⟩
  go_wp2_with fail
  with_reducible refine (byte_ok w2 U2.out hl hx).mono ?_
  rintro e w3 ⟨rfl, hu, hgr⟩
  have U3 := Lib.hid hu
  clear hu
  have N3 := Lib.hid (blk_g N2.out hgr (by intro e; injection e with e; have := HC.out; omega))
  have L3 := blk_g M2.out hgr (by intro e; injection e with e; have := HL.out; omega)
  have G3 := Lib.hid (gtrans (gbelow H2.out (some C)) hgr)
  obtain ⟨c0, c1, c2, c3⟩ := cells4 L3
  obtain ⟨d0, d1, d2, d3⟩ := cells4 N3.out
  obtain ⟨f0, f1, f2, f3⟩ := free4 N3.out
  have S3 := Lib.hid (fun u0 u1 u2 u3 => set4g u0 u1 u2 u3 N3.out G3.out (Nat.le_refl _))
  have D3 := Lib.hid d1
  clear hgr L3 N2 M2 H2
  go_wp2_with fail
  have S4 := Lib.hid (S3.out (.bool p) (.bool n) (.int .i64 (s : Int)) (.bool m))
  clear c0 c1 c2 c3 d0 d1 d2 d3 f0 f1 f2 f3 S3 N3
  generalize (((w3.setCell ⟨w.heap.size, 0, none⟩ (.bool p)).setCell ⟨w.heap.size, 1, none⟩ (.bool n)).setCell ⟨w.heap.size, 2, none⟩ (.int .i64 (s : Int))).setCell ⟨w.heap.size, 3, none⟩ (.bool m) = wz at *
  refine bodyPost_ret (v := .agg #[.bool p, .bool n, .int .i64 (s : Int), .bool m]) (results_cell_row rfl _ _ w.heap.size 62 _ (0, 0) _ rfl S4.out.1 Tryz.underlying62 rfl (by kernel_rfl)) rfl ⟨rfl, ?_⟩
  exact ⟨U3.out.other S4.out.2.1 (by have := HC.out; omega) (by have := HGL.out; omega), S4.out.2.2⟩
set_option maxRecDepth 100000 in
set_option maxHeartbeats 2000000 in
theorem takeAttr_bad {C g at_ : Nat} {xs : List Nat} (w : World) (h : Byt.Cur w C g xs at_ .nilIface) (hl : at_ < xs.length) (hb8 : xs.getD at_ 0 < 256) (hb : noAttr (xs.getD at_ 0) = true) :
    Calls Tryz.prog 133 #[.pointer (some ⟨C, 0, none⟩)] w fun e w' => e = .returned (.agg #[.bool false, .bool false, .int .i64 0, .bool false]) ∧ ∃ ev, Cur w' C g xs at_ ev ∧ Met w' ev 3 at_ ∧ w.grownBy w' (some C) := by
  have HA := al_any w (.cells #[.bool false, .bool false, .int .i64 0, .bool false] 62)
  have HN := Lib.hid (heap_alloc_new w (.cells #[.bool false, .bool false, .int .i64 0, .bool false] 62))
  have hP := peek_ok _ (h.below HA) hl
  have HP := Lib.hid hP
  have HU := Lib.hid (h.below HA)
  have HG := Lib.hid fun W => get_bad (xs.getD at_ 0) W hb8 hb
  have HC := Lib.hid h.clt
  have HGL := Lib.hid h.glt
  have HA := Lib.hid HA
  clear h hb hP hb8
  generalize xs.getD at_ 0 = x at *
  go_enter Tryz.func133, Tryz.ntmps133
  go_wp2_with fail
  generalize w.alloc (.cells #[.bool false, .bool false, .int .i64 0, .bool false] 62) = wa at *
  with_reducible refine HP.out.mono ?_
  rintro e w1 ⟨rfl, j, rfl⟩
  clear HP
  go_wp2_with fail
  with_reducible refine (HG.out _).mono ?_
  rintro e w1 ⟨rfl, hb⟩
  have H1 := kept_hid (kept_draw HA j) hb
  have N1 := blk HN.out (kept_trans (drewN_below _ j wa) hb)
  have U1 := (HU.out.drewN j).below hb
  have H2 := kept_alloc H1 (.cells #[.bool false, .bool false, .int .i64 0, .bool false] 62)
  have N2 := Lib.hid (blk N1 (al_any w1 (.cells #[.bool false, .bool false, .int .i64 0, .bool false] 62)))
  have M2 := Lib.hid (heap_alloc_new w1 (.cells #[.bool false, .bool false, .int .i64 0, .bool false] 62))
  have U2 := Lib.hid (U1.below (al_any w1 (.cells #[.bool false, .bool false, .int .i64 0, .bool false] 62)))
  have HL := Lib.hid (Nat.lt_of_lt_of_le HC.out H1.out.size)
  have HK := Lib.hid (Nat.lt_of_lt_of_le HGL.out H1.out.size)
  have HB := Lib.hid H1.out.size
  clear hb HU HN HA HG N1 U1 H1
  go_wp2_with fail
  generalize w1.heap.size = L at *
  generalize w1.alloc (.cells #[.bool false, .bool false, .int .i64 0, .bool false] 62) = w2 at *
  have HF := Lib.hid (fail_new (d := 0) (.iface 71 (.int .i64 3)) 3 w2 U2.out rfl)
  with_reducible refine HF.out.mono ?_
  rintro e w3 ⟨rfl, ev, hu, hm, hgr⟩
  obtain ⟨b, rfl, hm⟩ := hm
  have U3 := Lib.hid hu
  have M3 := Lib.hid (show Met w3 _ 3 at_ from ⟨b, rfl, hm⟩)
  clear hu hm HF
  go_wp2_with fail
  with_reducible refine (byte_met w3 U3.out).mono ?_
  rintro e w4 ⟨rfl, rfl⟩
  have N3 := Lib.hid (blk_g N2.out hgr (by intro e; injection e with e; have := HC.out; omega))
  have L3 := blk_g M2.out hgr (by intro e; injection e with e; have := HL.out; omega)
  have G3 := Lib.hid (gtrans (gbelow H2.out (some C)) hgr)
  obtain ⟨c0, c1, c2, c3⟩ := cells4 L3
  obtain ⟨d0, d1, d2, d3⟩ := cells4 N3.out
  obtain ⟨f0, f1, f2, f3⟩ := free4 N3.out
  have S3 := Lib.hid (fun u0 u1 u2 u3 => set4g u0 u1 u2 u3 N3.out G3.out (Nat.le_refl _))
  have D3 := Lib.hid d1
  clear hgr L3 N2 M2 H2
  go_wp2_with fail
  have S4 := Lib.hid (S3.out (.bool false) (.bool false) (.int .i64 0) (.bool false))
  clear c0 c1 c2 c3 d0 d1 d2 d3 f0 f1 f2 f3 S3 N3
  generalize (((w3.setCell ⟨w.heap.size, 0, none⟩ (.bool false)).setCell ⟨w.heap.size, 1, none⟩ (.bool false)).setCell ⟨w.heap.size, 2, none⟩ (.int .i64 0)).setCell ⟨w.heap.size, 3, none⟩ (.bool false) = wz at *
  refine bodyPost_ret (v := .agg #[.bool false, .bool false, .int .i64 0, .bool false]) (results_cell_row rfl _ _ w.heap.size 62 _ (0, 0) _ rfl S4.out.1 Tryz.underlying62 rfl (by kernel_rfl)) rfl ⟨rfl, ?_⟩
  exact ⟨_, U3.out.other S4.out.2.1 (by have := HC.out; omega) (by have := HGL.out; omega), M3.out.other S4.out.2.1 (fun t x h => by rw [D3.out] at h; cases h), S4.out.2.2⟩
set_option maxRecDepth 100000 in
set_option maxHeartbeats 2000000 in
theorem takeAttr_none {C g at_ : Nat} {xs : List Nat} (w : World) (h : Byt.Cur w C g xs at_ .nilIface) (hl : xs.length ≤ at_) :
    Calls Tryz.prog 133 #[.pointer (some ⟨C, 0, none⟩)] w fun e w' => e = .returned (.agg #[.bool false, .bool false, .int .i64 0, .bool false]) ∧ ∃ ev, Cur w' C g xs at_ ev ∧ Met w' ev 2 at_ ∧ w.grownBy w' (some C) := by
  have HA := al_any w (.cells #[.bool false, .bool false, .int .i64 0, .bool false] 62)
  have HN := Lib.hid (heap_alloc_new w (.cells #[.bool false, .bool false, .int .i64 0, .bool false] 62))
  have hP := peek_none _ (h.below HA) hl
  have HP := Lib.hid hP
  have HU := Lib.hid (h.below HA)
  have HG := Lib.hid fun W => get_bad 0 W (by decide) (by decide)
  have HC := Lib.hid h.clt
  have HGL := Lib.hid h.glt
  have HA := Lib.hid HA
  clear h hP
  simp only [show ((0 : Nat) : Int) = 0 from rfl] at HG
  go_enter Tryz.func133, Tryz.ntmps133
  go_wp2_with fail
  generalize w.alloc (.cells #[.bool false, .bool false, .int .i64 0, .bool false] 62) = wa at *
  with_reducible refine HP.out.mono ?_
  rintro e w1 ⟨rfl, j, rfl⟩
  clear HP
  go_wp2_with fail
  with_reducible refine (HG.out _).mono ?_
  rintro e w1 ⟨rfl, hb⟩
  have H1 := kept_hid (kept_draw HA j) hb
  have N1 := blk HN.out (kept_trans (drewN_below _ j wa) hb)
  have U1 := (HU.out.drewN j).below hb
  have H2 := kept_alloc H1 (.cells #[.bool false, .bool false, .int .i64 0, .bool false] 62)
  have N2 := Lib.hid (blk N1 (al_any w1 (.cells #[.bool false, .bool false, .int .i64 0, .bool false] 62)))
  have M2 := Lib.hid (heap_alloc_new w1 (.cells #[.bool false, .bool false, .int .i64 0, .bool false] 62))
  have U2 := Lib.hid (U1.below (al_any w1 (.cells #[.bool false, .bool false, .int .i64 0, .bool false] 62)))
  have HL := Lib.hid (Nat.lt_of_lt_of_le HC.out H1.out.size)
  have HK := Lib.hid (Nat.lt_of_lt_of_le HGL.out H1.out.size)
  have HB := Lib.hid H1.out.size
  clear hb HU HN HA HG N1 U1 H1
  go_wp2_with fail
  generalize w1.heap.size = L at *
  generalize w1.alloc (.cells #[.bool false, .bool false, .int .i64 0, .bool false] 62) = w2 at *
  with_reducible refine (byte_none w2 U2.out hl).mono ?_
  rintro e w3 ⟨rfl, ev, hu, hm, hgr⟩
  have U3 := Lib.hid hu
  have M3 := Lib.hid hm
  clear hu hm
  have N3 := Lib.hid (blk_g N2.out hgr (by intro e; injection e with e; have := HC.out; omega))
  have L3 := blk_g M2.out hgr (by intro e; injection e with e; have := HL.out; omega)
  have G3 := Lib.hid (gtrans (gbelow H2.out (some C)) hgr)
  obtain ⟨c0, c1, c2, c3⟩ := cells4 L3
  obtain ⟨d0, d1, d2, d3⟩ := cells4 N3.out
  obtain ⟨f0, f1, f2, f3⟩ := free4 N3.out
  have S3 := Lib.hid (fun u0 u1 u2 u3 => set4g u0 u1 u2 u3 N3.out G3.out (Nat.le_refl _))
  have D3 := Lib.hid d1
  clear hgr L3 N2 M2 H2
  go_wp2_with fail
  have S4 := Lib.hid (S3.out (.bool false) (.bool false) (.int .i64 0) (.bool false))
  clear c0 c1 c2 c3 d0 d1 d2 d3 f0 f1 f2 f3 S3 N3
  generalize (((w3.setCell ⟨w.heap.size, 0, none⟩ (.bool false)).setCell ⟨w.heap.size, 1, none⟩ (.bool false)).setCell ⟨w.heap.size, 2, none⟩ (.int .i64 0)).setCell ⟨w.heap.size, 3, none⟩ (.bool false) = wz at *
  refine bodyPost_ret (v := .agg #[.bool false, .bool false, .int .i64 0, .bool false]) (results_cell_row rfl _ _ w.heap.size 62 _ (0, 0) _ rfl S4.out.1 Tryz.underlying62 rfl (by kernel_rfl)) rfl ⟨rfl, ?_⟩
  exact ⟨_, U3.out.other S4.out.2.1 (by have := HC.out; omega) (by have := HGL.out; omega), M3.out.other S4.out.2.1 (fun t x h => by rw [D3.out] at h; cases h), S4.out.2.2⟩
theorem takeChar_ok {C g at_ : Nat} {xs : List Nat} (w : World) (h : Byt.Cur w C g xs at_ .nilIface) (hx : xs.length < 1000000000) (hl : at_ < xs.length) (hb8 : xs.getD at_ 0 < 256) (hb : char (xs.getD at_ 0) = true) :
    Calls Tryz.prog 134 #[.pointer (some ⟨C, 0, none⟩)] w fun e w' => e = .returned (.int .u8 ((xs.getD at_ 0 : Nat) : Int)) ∧ Cur w' C g xs (at_ + 1) .nilIface ∧ w.grownBy w' (some C) := by
  have HP := Lib.hid (peek_ok w h hl)
  have HC := Lib.hid fun W => char_any (xs.getD at_ 0) W hb8
  have HB := Lib.hid (fun m => byte_ok (w.drewN m) (h.drewN m) hl hx)
  rw [hb] at HC
  clear h hb hb8
  generalize xs.getD at_ 0 = x at *
  go_enter Tryz.func134, Tryz.ntmps134
  go_wp2_with fail
  with_reducible refine HP.out.mono ?_
  rintro e w1 ⟨rfl, m, rfl⟩
  go_wp2_with fail
  with_reducible refine (HC.out _).mono ?_
  rintro e w1 ⟨rfl, rfl⟩
  go_wp2_with fail
  with_reducible refine (HB.out m).mono ?_
  rintro e w2 ⟨rfl, h1, h2⟩
  have H1 := Lib.hid h1
  have H2 := Lib.hid (gtrans (gdrewN w m _) h2)
  clear h1 h2 HB HP HC
  go_wp2_with fail
  go_ret
  exact ⟨rfl, H1.out, H2.out⟩
theorem takeChar_bad {C g at_ : Nat} {xs : List Nat} (w : World) (h : Byt.Cur w C g xs at_ .nilIface) (hl : at_ < xs.length) (hb8 : xs.getD at_ 0 < 256) (hb : char (xs.getD at_ 0) = false) :
    Calls Tryz.prog 134 #[.pointer (some ⟨C, 0, none⟩)] w fun e w' => e = .returned (.int .u8 0) ∧ ∃ ev, Cur w' C g xs at_ ev ∧ Met w' ev 3 at_ ∧ w.grownBy w' (some C) := by
  have HP := Lib.hid (peek_ok w h hl)
  have HC := Lib.hid fun W => char_any (xs.getD at_ 0) W hb8
  have HF := Lib.hid (fun m => fail_new (d := 0) (.iface 71 (.int .i64 3)) 3 (w.drewN m) (h.drewN m) rfl)
  rw [hb] at HC
  clear h hb hb8
  generalize xs.getD at_ 0 = x at *
  go_enter Tryz.func134, Tryz.ntmps134
  go_wp2_with fail
  with_reducible refine HP.out.mono ?_
  rintro e w1 ⟨rfl, m, rfl⟩
  go_wp2_with fail
  with_reducible refine (HC.out _).mono ?_
  rintro e w1 ⟨rfl, rfl⟩
  go_wp2_with fail
  with_reducible refine (HF.out m).mono ?_
  rintro e w2 ⟨rfl, ev, h1, h2, h3⟩
  obtain ⟨b, rfl, h2⟩ := h2
  have U2 := Lib.hid h1
  have HR := Lib.hid (show ∃ ev, Cur w2 C g xs at_ ev ∧ Met w2 ev 3 at_ ∧ w.grownBy w2 (some C) from ⟨_, h1, ⟨b, rfl, h2⟩, gtrans (gdrewN w m _) h3⟩)
  clear h1 h2 h3 HF HP HC
  go_wp2_with fail
  with_reducible refine (byte_met w2 U2.out).mono ?_
  rintro e w3 ⟨rfl, rfl⟩
  go_wp2_with fail
  go_ret
  exact ⟨rfl, HR.out⟩
theorem takeChar_none {C g at_ : Nat} {xs : List Nat} (w : World) (h : Byt.Cur w C g xs at_ .nilIface) (hl : xs.length ≤ at_) :
    Calls Tryz.prog 134 #[.pointer (some ⟨C, 0, none⟩)] w fun e w' => e = .returned (.int .u8 0) ∧ ∃ ev, Cur w' C g xs at_ ev ∧ Met w' ev 2 at_ ∧ w.grownBy w' (some C) := by
  have HP := Lib.hid (peek_none w h hl)
  have HB := Lib.hid (fun m => byte_none (w.drewN m) (h.drewN m) hl)
  clear h
  go_enter Tryz.func134, Tryz.ntmps134
  go_wp2_with fail
  with_reducible refine HP.out.mono ?_
  rintro e w1 ⟨rfl, m, rfl⟩
  go_wp2_with fail
  with_reducible refine (HB.out m).mono ?_
  rintro e w2 ⟨rfl, ev, h1, h2, h3⟩
  have HR := Lib.hid (show ∃ ev, Cur w2 C g xs at_ ev ∧ Met w2 ev 2 at_ ∧ w.grownBy w2 (some C) from ⟨ev, h1, h2, gtrans (gdrewN w m _) h3⟩)
  clear h1 h2 h3 HB HP
  go_wp2_with fail
  go_ret
  exact ⟨rfl, HR.out⟩
theorem takeChar_met {C g at_ b : Nat} {xs : List Nat} (w : World) (h : Cur w C g xs at_ (.iface 84 (.pointer (some ⟨b, 0, none⟩)))) :
    Calls Tryz.prog 134 #[.pointer (some ⟨C, 0, none⟩)] w fun e w' => e = .returned (.int .u8 0) ∧ w = w' := by
  have HP := Lib.hid (peek_met w h)
  have HB := Lib.hid (byte_met w h)
  clear h
  go_enter Tryz.func134, Tryz.ntmps134
  go_wp2_with fail
  with_reducible refine HP.out.mono ?_
  rintro e w1 ⟨rfl, rfl⟩
  go_wp2_with fail
  with_reducible refine HB.out.mono ?_
  rintro e w1 ⟨rfl, rfl⟩
  go_wp2_with fail
  go_ret
  exact ⟨rfl, rfl⟩
end Ord
end Go.Proofs.YtpdlpmbjhopnnaaGreatDoor
/- Get of package order, way by way. Written by tools/gen_ord_get.py. -/
namespace Go.Proofs.YtpdlpmbjhopnnaaGreatDoor
open Go.RowKit Sha Cut Err Six Att Byt
namespace Ord
/-- How things stand within Get: the cursor, the result's block R, the order's block L. -/
structure GS (w a : World) (C g : Nat) (xs : List Nat) (at_ : Nat) (ev : Value) (R L : Nat) (cs : Array Value) : Prop where
  cur : Cur a C g xs at_ ev
  res : a.heap[R]? = some (.cells #[.int .i64 0, .slice none 0 0, .bool false, .bool false, .int .i64 0, .bool false, .int .i64 0, .int .u8 0] 76 (0, 0))
  ord : a.heap[L]? = some (.cells cs 76 (0, 0))
  old : w.grownBy a (some C)
  rl : R < L
  wr : w.heap.size ≤ R
  cr : C < w.heap.size
  gr : g < w.heap.size
theorem GS.call {w a b : World} {C g : Nat} {xs : List Nat} {at_ at' : Nat} {ev ev' : Value} {R L : Nat} {cs : Array Value} (s : GS w a C g xs at_ ev R L cs) (hu : Cur b C g xs at' ev') (hg : a.grownBy b (some C)) : GS w b C g xs at' ev' R L cs :=
  ⟨hu, blk_g s.res hg (by intro e; injection e with e; have := s.cr; have := s.wr; omega), blk_g s.ord hg (by intro e; injection e with e; have := s.cr; have := s.wr; have := s.rl; omega), gtrans s.old hg, s.rl, s.wr, s.cr, s.gr⟩
theorem GS.set {w a : World} {C g : Nat} {xs : List Nat} {at_ : Nat} {ev : Value} {R L : Nat} {cs : Array Value} (s : GS w a C g xs at_ ev R L cs) (i : Nat) (v : Value) : GS w (a.setCell ⟨L, i, none⟩ v) C g xs at_ ev R L (cs.setIfInBounds i v) := by
  have h1 := s.cr
  have h2 := s.wr
  have h3 := s.rl
  have h4 := s.gr
  have hg := gsetCell a L i v
  exact ⟨s.cur.other hg (by omega) (by omega), blk_g s.res hg (by intro e; injection e with e; omega), heap_setCell_same _ _ _ _ _ _ s.ord, gnew s.old hg (by omega), s.rl, s.wr, s.cr, s.gr⟩
theorem gs_start {w a : World} {C g : Nat} {xs : List Nat} {at_ : Nat} {ev : Value} (cs : Array Value) (hw : Cur w C g xs 0 .nilIface ∨ (C < w.heap.size ∧ g < w.heap.size)) (hu : Cur a C g xs at_ ev) (hg : (w.alloc (.cells #[.int .i64 0, .slice none 0 0, .bool false, .bool false, .int .i64 0, .bool false, .int .i64 0, .int .u8 0] 76)).grownBy a (some C)) :
    GS w (a.alloc (.cells cs 76)) C g xs at_ ev w.heap.size a.heap.size cs := by
  have hcg : C < w.heap.size ∧ g < w.heap.size := by
    rcases hw with h | h
    · exact ⟨h.clt, h.glt⟩
    · exact h
  have h1 := heap_alloc_new w (.cells #[.int .i64 0, .slice none 0 0, .bool false, .bool false, .int .i64 0, .bool false, .int .i64 0, .int .u8 0] 76)
  have h2 := blk_g h1 hg (by intro e; injection e with e; have := hcg.1; omega)
  exact ⟨hu.below (al_any _ _), blk h2 (al_any _ _), heap_alloc_new _ _, galloc (gtrans (gbelow (al_any _ _) _) hg) _, there_lt h2, Nat.le_refl _, hcg.1, hcg.2⟩
/-- The result is stored. -/
theorem GS.fin {w a : World} {C g : Nat} {xs : List Nat} {at_ : Nat} {ev : Value} {R L : Nat} {cs : Array Value} (s : GS w a C g xs at_ ev R L cs) (u0 u1 u2 u3 u4 u5 u6 u7 : Value) :
    ∃ b, b = ((((((((a.setCell ⟨R, 0, none⟩ u0).setCell ⟨R, 1, none⟩ u1).setCell ⟨R, 2, none⟩ u2).setCell ⟨R, 3, none⟩ u3).setCell ⟨R, 4, none⟩ u4).setCell ⟨R, 5, none⟩ u5).setCell ⟨R, 6, none⟩ u6).setCell ⟨R, 7, none⟩ u7) ∧
    b.heap[R]? = some (.cells #[u0, u1, u2, u3, u4, u5, u6, u7] 76 (0, 0)) ∧ Cur b C g xs at_ ev ∧ w.grownBy b (some C) ∧ a.grownBy b (some R) := by
  have h1 := s.cr
  have h2 := s.wr
  have h4 := s.gr
  obtain ⟨k, hg⟩ := over8 a R 76 _ _ _ _ _ _ _ _ u0 u1 u2 u3 u4 u5 u6 u7 s.res
  exact ⟨_, rfl, k, s.cur.other hg (by omega) (by omega), gnew s.old hg s.wr, hg⟩
theorem GS.met {w a b : World} {C g : Nat} {xs : List Nat} {at_ : Nat} {ev : Value} {R L : Nat} {cs : Array Value} (s : GS w a C g xs at_ ev R L cs) {e : Value} {c : Int} {n : Nat} (hm : Met a e c n) (hg : a.grownBy b (some R)) : Met b e c n :=
  hm.other hg (fun t x h => by rw [cell_of_row _ _ 1 _ _ _ s.res] at h; cases h)
theorem GS.metL {w a b : World} {C g : Nat} {xs : List Nat} {at_ : Nat} {ev : Value} {R L : Nat} {k0 : Int} {n0 c0 : Nat} {ad0 : Option Addr} {v2 v3 v4 v5 v6 v7 : Value} (s : GS w a C g xs at_ ev R L #[.int .i64 k0, .slice ad0 n0 c0, v2, v3, v4, v5, v6, v7]) {e : Value} {c : Int} {n : Nat} (hm : Met a e c n) (hg : a.grownBy b (some L)) : Met b e c n :=
  hm.other hg (fun t x h => by rw [cell_of_row _ _ 1 _ _ _ s.ord] at h; cases h)
set_option maxRecDepth 100000 in
set_option maxHeartbeats 4000000 in
theorem get_none {C g at_ : Nat} {xs : List Nat} (z : Int) (w : World) (h : Cur w C g xs at_ .nilIface) (hl : xs.length ≤ at_) :
    Calls Tryz.prog 115 #[.pointer (some ⟨C, 0, none⟩), .int .i64 z] w fun e w' => e = .returned (.agg #[.int .i64 0, .slice none 0 0, .bool false, .bool false, .int .i64 0, .bool false, .int .i64 0, .int .u8 0]) ∧ ∃ ev, Cur w' C g xs (at_) ev ∧ Met w' ev 2 (at_) ∧ w.grownBy w' (some C) := by
  have HA := al_any w (.cells #[.int .i64 0, .slice none 0 0, .bool false, .bool false, .int .i64 0, .bool false, .int .i64 0, .int .u8 0] 76)
  have HU := Lib.hid (h.below HA)
  have HCG := Lib.hid (show C < w.heap.size ∧ g < w.heap.size from ⟨h.clt, h.glt⟩)
  have HW := Lib.hid (rfl : w.alloc (.cells #[.int .i64 0, .slice none 0 0, .bool false, .bool false, .int .i64 0, .bool false, .int .i64 0, .int .u8 0] 76) = w.alloc (.cells #[.int .i64 0, .slice none 0 0, .bool false, .bool false, .int .i64 0, .bool false, .int .i64 0, .int .u8 0] 76))
  have HK := Lib.hid (takeKind_none _ HU.out hl)
  clear h HA HW
  go_enter Tryz.func115, Tryz.ntmps115
  go_wp2_with fail
  with_reducible refine HK.out.mono ?_
  rintro e w1 ⟨rfl, ev, hu, hm, hgr⟩
  obtain ⟨b, rfl, hm⟩ := hm
  have M := Lib.hid ((show Met w1 _ _ _ from ⟨b, rfl, hm⟩).below (al_any w1 (.cells #[.int .i64 0, .slice none 0 0, .bool false, .bool false, .int .i64 0, .bool false, .int .i64 0, .int .u8 0] 76)))
  have S := Lib.hid (gs_start #[.int .i64 0, .slice none 0 0, .bool false, .bool false, .int .i64 0, .bool false, .int .i64 0, .int .u8 0] (.inr HCG.out) hu hgr)
  clear hu hgr HK HU hm
  go_wp2_with fail
  generalize w1.heap.size = L at *
  generalize w1.alloc (.cells #[.int .i64 0, .slice none 0 0, .bool false, .bool false, .int .i64 0, .bool false, .int .i64 0, .int .u8 0] 76) = w2 at *
  with_reducible refine (err_any w2 S.out.cur).mono ?_
  rintro e wq ⟨rfl, rfl⟩
  obtain ⟨c0, c1, c2, c3, c4, c5, c6, c7⟩ := cells8 S.out.ord
  obtain ⟨e0, e1, e2, e3, e4, e5, e6, e7⟩ := free8 S.out.ord
  obtain ⟨d0, d1, d2, d3, d4, d5, d6, d7⟩ := cells8 S.out.res
  obtain ⟨f0, f1, f2, f3, f4, f5, f6, f7⟩ := free8 S.out.res
  have SF := Lib.hid (S.out.fin (.int .i64 0) (.slice none 0 0) (.bool false) (.bool false) (.int .i64 0) (.bool false) (.int .i64 0) (.int .u8 0))
  go_wp2_with fail
  clear c0 c1 c2 c3 c4 c5 c6 c7 e0 e1 e2 e3 e4 e5 e6 e7 d0 d1 d2 d3 d4 d5 d6 d7 f0 f1 f2 f3 f4 f5 f6 f7
  obtain ⟨wz, hz, s1, s2, s3, s4⟩ := SF.out
  rw [← hz]
  clear hz SF
  have S1 := Lib.hid s1
  clear s1
  refine bodyPost_ret (v := .agg #[.int .i64 0, .slice none 0 0, .bool false, .bool false, .int .i64 0, .bool false, .int .i64 0, .int .u8 0]) (results_cell_row rfl _ _ w.heap.size 76 _ (0, 0) _ rfl S1.out Tryz.underlying76 rfl (by kernel_rfl)) rfl ?_
  exact ⟨rfl, _, s2, S.out.met M.out s4, s3⟩
set_option maxRecDepth 100000 in
set_option maxHeartbeats 4000000 in
theorem get_strange {C g at_ : Nat} {xs : List Nat} (z : Int) (w : World) (h : Cur w C g xs at_ .nilIface) (h8 : ∀ x ∈ xs, x < 256) (hl : at_ < xs.length) (hk : kindB (xs.getD at_ 0) = 0) :
    Calls Tryz.prog 115 #[.pointer (some ⟨C, 0, none⟩), .int .i64 z] w fun e w' => e = .returned (.agg #[.int .i64 0, .slice none 0 0, .bool false, .bool false, .int .i64 0, .bool false, .int .i64 0, .int .u8 0]) ∧ ∃ ev, Cur w' C g xs (at_) ev ∧ Met w' ev 5 (at_) ∧ w.grownBy w' (some C) := by
  have HA := al_any w (.cells #[.int .i64 0, .slice none 0 0, .bool false, .bool false, .int .i64 0, .bool false, .int .i64 0, .int .u8 0] 76)
  have HU := Lib.hid (h.below HA)
  have HCG := Lib.hid (show C < w.heap.size ∧ g < w.heap.size from ⟨h.clt, h.glt⟩)
  have HW := Lib.hid (rfl : w.alloc (.cells #[.int .i64 0, .slice none 0 0, .bool false, .bool false, .int .i64 0, .bool false, .int .i64 0, .int .u8 0] 76) = w.alloc (.cells #[.int .i64 0, .slice none 0 0, .bool false, .bool false, .int .i64 0, .bool false, .int .i64 0, .int .u8 0] 76))
  have HK := Lib.hid (takeKind_bad _ HU.out hl (byte_lt h8 (by decide) at_) hk)
  clear h HA HW hk
  go_enter Tryz.func115, Tryz.ntmps115
  go_wp2_with fail
  with_reducible refine HK.out.mono ?_
  rintro e w1 ⟨rfl, ev, hu, hm, hgr⟩
  obtain ⟨b, rfl, hm⟩ := hm
  have M := Lib.hid ((show Met w1 _ _ _ from ⟨b, rfl, hm⟩).below (al_any w1 (.cells #[.int .i64 0, .slice none 0 0, .bool false, .bool false, .int .i64 0, .bool false, .int .i64 0, .int .u8 0] 76)))
  have S := Lib.hid (gs_start #[.int .i64 0, .slice none 0 0, .bool false, .bool false, .int .i64 0, .bool false, .int .i64 0, .int .u8 0] (.inr HCG.out) hu hgr)
  clear hu hgr HK HU hm
  go_wp2_with fail
  generalize w1.heap.size = L at *
  generalize w1.alloc (.cells #[.int .i64 0, .slice none 0 0, .bool false, .bool false, .int .i64 0, .bool false, .int .i64 0, .int .u8 0] 76) = w2 at *
  with_reducible refine (err_any w2 S.out.cur).mono ?_
  rintro e wq ⟨rfl, rfl⟩
  obtain ⟨c0, c1, c2, c3, c4, c5, c6, c7⟩ := cells8 S.out.ord
  obtain ⟨e0, e1, e2, e3, e4, e5, e6, e7⟩ := free8 S.out.ord
  obtain ⟨d0, d1, d2, d3, d4, d5, d6, d7⟩ := cells8 S.out.res
  obtain ⟨f0, f1, f2, f3, f4, f5, f6, f7⟩ := free8 S.out.res
  have SF := Lib.hid (S.out.fin (.int .i64 0) (.slice none 0 0) (.bool false) (.bool false) (.int .i64 0) (.bool false) (.int .i64 0) (.int .u8 0))
  go_wp2_with fail
  clear c0 c1 c2 c3 c4 c5 c6 c7 e0 e1 e2 e3 e4 e5 e6 e7 d0 d1 d2 d3 d4 d5 d6 d7 f0 f1 f2 f3 f4 f5 f6 f7
  obtain ⟨wz, hz, s1, s2, s3, s4⟩ := SF.out
  rw [← hz]
  clear hz SF
  have S1 := Lib.hid s1
  clear s1
  refine bodyPost_ret (v := .agg #[.int .i64 0, .slice none 0 0, .bool false, .bool false, .int .i64 0, .bool false, .int .i64 0, .int .u8 0]) (results_cell_row rfl _ _ w.heap.size 76 _ (0, 0) _ rfl S1.out Tryz.underlying76 rfl (by kernel_rfl)) rfl ?_
  exact ⟨rfl, _, s2, S.out.met M.out s4, s3⟩
set_option maxRecDepth 100000 in
set_option maxHeartbeats 4000000 in
theorem get_4 {C g at_ : Nat} {xs : List Nat} (z : Int) (w : World) (h : Cur w C g xs at_ .nilIface) (h8 : ∀ x ∈ xs, x < 256) (hx : xs.length < 1000000000) (hl : at_ < xs.length) (hk : kindB (xs.getD at_ 0) = 4) :
    Calls Tryz.prog 115 #[.pointer (some ⟨C, 0, none⟩), .int .i64 z] w fun e w' => e = .returned (.agg #[.int .i64 4, .slice none 0 0, .bool false, .bool false, .int .i64 0, .bool false, .int .i64 0, .int .u8 0]) ∧ Cur w' C g xs (at_ + 1) .nilIface ∧ w.grownBy w' (some C) := by
  have HA := al_any w (.cells #[.int .i64 0, .slice none 0 0, .bool false, .bool false, .int .i64 0, .bool false, .int .i64 0, .int .u8 0] 76)
  have HU := Lib.hid (h.below HA)
  have HCG := Lib.hid (show C < w.heap.size ∧ g < w.heap.size from ⟨h.clt, h.glt⟩)
  have HW := Lib.hid (rfl : w.alloc (.cells #[.int .i64 0, .slice none 0 0, .bool false, .bool false, .int .i64 0, .bool false, .int .i64 0, .int .u8 0] 76) = w.alloc (.cells #[.int .i64 0, .slice none 0 0, .bool false, .bool false, .int .i64 0, .bool false, .int .i64 0, .int .u8 0] 76))
  have HK := Lib.hid (takeKind_order _ HU.out hx 4 hl (byte_lt h8 (by decide) at_) hk (by decide))
  clear h HA HW hk
  go_enter Tryz.func115, Tryz.ntmps115
  go_wp2_with fail
  with_reducible refine HK.out.mono ?_
  rintro e w1 ⟨rfl, hu, hgr⟩
  have S := Lib.hid (gs_start #[.int .i64 4, .slice none 0 0, .bool false, .bool false, .int .i64 0, .bool false, .int .i64 0, .int .u8 0] (.inr HCG.out) hu hgr)
  clear hu hgr HK HU
  go_wp2_with fail
  generalize w1.heap.size = L at *
  generalize w1.alloc (.cells #[.int .i64 4, .slice none 0 0, .bool false, .bool false, .int .i64 0, .bool false, .int .i64 0, .int .u8 0] 76) = w2 at *
  with_reducible refine (err_any w2 S.out.cur).mono ?_
  rintro e wq ⟨rfl, rfl⟩
  obtain ⟨c0, c1, c2, c3, c4, c5, c6, c7⟩ := cells8 S.out.ord
  obtain ⟨e0, e1, e2, e3, e4, e5, e6, e7⟩ := free8 S.out.ord
  obtain ⟨d0, d1, d2, d3, d4, d5, d6, d7⟩ := cells8 S.out.res
  obtain ⟨f0, f1, f2, f3, f4, f5, f6, f7⟩ := free8 S.out.res
  have SF := Lib.hid (S.out.fin (.int .i64 4) (.slice none 0 0) (.bool false) (.bool false) (.int .i64 0) (.bool false) (.int .i64 0) (.int .u8 0))
  go_wp2_with fail
  clear c0 c1 c2 c3 c4 c5 c6 c7 e0 e1 e2 e3 e4 e5 e6 e7 d0 d1 d2 d3 d4 d5 d6 d7 f0 f1 f2 f3 f4 f5 f6 f7
  obtain ⟨wz, hz, s1, s2, s3, s4⟩ := SF.out
  rw [← hz]
  clear hz SF
  have S1 := Lib.hid s1
  clear s1
  refine bodyPost_ret (v := .agg #[.int .i64 4, .slice none 0 0, .bool false, .bool false, .int .i64 0, .bool false, .int .i64 0, .int .u8 0]) (results_cell_row rfl _ _ w.heap.size 76 _ (0, 0) _ rfl S1.out Tryz.underlying76 rfl (by kernel_rfl)) rfl ?_
  exact ⟨rfl, s2, s3⟩
set_option maxRecDepth 100000 in
set_option maxHeartbeats 4000000 in
theorem get_5 {C g at_ : Nat} {xs : List Nat} (z : Int) (w : World) (h : Cur w C g xs at_ .nilIface) (h8 : ∀ x ∈ xs, x < 256) (hx : xs.length < 1000000000) (hl : at_ < xs.length) (hk : kindB (xs.getD at_ 0) = 5) :
    Calls Tryz.prog 115 #[.pointer (some ⟨C, 0, none⟩), .int .i64 z] w fun e w' => e = .returned (.agg #[.int .i64 5, .slice none 0 0, .bool false, .bool false, .int .i64 0, .bool false, .int .i64 0, .int .u8 0]) ∧ Cur w' C g xs (at_ + 1) .nilIface ∧ w.grownBy w' (some C) := by
  have HA := al_any w (.cells #[.int .i64 0, .slice none 0 0, .bool false, .bool false, .int .i64 0, .bool false, .int .i64 0, .int .u8 0] 76)
  have HU := Lib.hid (h.below HA)
  have HCG := Lib.hid (show C < w.heap.size ∧ g < w.heap.size from ⟨h.clt, h.glt⟩)
  have HW := Lib.hid (rfl : w.alloc (.cells #[.int .i64 0, .slice none 0 0, .bool false, .bool false, .int .i64 0, .bool false, .int .i64 0, .int .u8 0] 76) = w.alloc (.cells #[.int .i64 0, .slice none 0 0, .bool false, .bool false, .int .i64 0, .bool false, .int .i64 0, .int .u8 0] 76))
  have HK := Lib.hid (takeKind_order _ HU.out hx 5 hl (byte_lt h8 (by decide) at_) hk (by decide))
  clear h HA HW hk
  go_enter Tryz.func115, Tryz.ntmps115
  go_wp2_with fail
  with_reducible refine HK.out.mono ?_
  rintro e w1 ⟨rfl, hu, hgr⟩
  have S := Lib.hid (gs_start #[.int .i64 5, .slice none 0 0, .bool false, .bool false, .int .i64 0, .bool false, .int .i64 0, .int .u8 0] (.inr HCG.out) hu hgr)
  clear hu hgr HK HU
  go_wp2_with fail
  generalize w1.heap.size = L at *
  generalize w1.alloc (.cells #[.int .i64 5, .slice none 0 0, .bool false, .bool false, .int .i64 0, .bool false, .int .i64 0, .int .u8 0] 76) = w2 at *
  with_reducible refine (err_any w2 S.out.cur).mono ?_
  rintro e wq ⟨rfl, rfl⟩
  obtain ⟨c0, c1, c2, c3, c4, c5, c6, c7⟩ := cells8 S.out.ord
  obtain ⟨e0, e1, e2, e3, e4, e5, e6, e7⟩ := free8 S.out.ord
  obtain ⟨d0, d1, d2, d3, d4, d5, d6, d7⟩ := cells8 S.out.res
  obtain ⟨f0, f1, f2, f3, f4, f5, f6, f7⟩ := free8 S.out.res
  have SF := Lib.hid (S.out.fin (.int .i64 5) (.slice none 0 0) (.bool false) (.bool false) (.int .i64 0) (.bool false) (.int .i64 0) (.int .u8 0))
  go_wp2_with fail
  clear c0 c1 c2 c3 c4 c5 c6 c7 e0 e1 e2 e3 e4 e5 e6 e7 d0 d1 d2 d3 d4 d5 d6 d7 f0 f1 f2 f3 f4 f5 f6 f7
  obtain ⟨wz, hz, s1, s2, s3, s4⟩ := SF.out
  rw [← hz]
  clear hz SF
  have S1 := Lib.hid s1
  clear s1
  refine bodyPost_ret (v := .agg #[.int .i64 5, .slice none 0 0, .bool false, .bool false, .int .i64 0, .bool false, .int .i64 0, .int .u8 0]) (results_cell_row rfl _ _ w.heap.size 76 _ (0, 0) _ rfl S1.out Tryz.underlying76 rfl (by kernel_rfl)) rfl ?_
  exact ⟨rfl, s2, s3⟩
set_option maxRecDepth 100000 in
set_option maxHeartbeats 4000000 in
theorem get_2 {C g at_ : Nat} {xs : List Nat} (z : Int) (w : World) (h : Cur w C g xs at_ .nilIface) (h8 : ∀ x ∈ xs, x < 256) (hx : xs.length < 1000000000) (hl : at_ < xs.length) (hk : kindB (xs.getD at_ 0) = 2) (hl2 : at_ + 1 < xs.length) (p n m : Bool) (s : Nat) (hs : s < 4) (hb : xs.getD (at_ + 1) 0 = put (num p n m s)) :
    Calls Tryz.prog 115 #[.pointer (some ⟨C, 0, none⟩), .int .i64 z] w fun e w' => e = .returned (.agg #[.int .i64 2, .slice none 0 0, .bool p, .bool n, .int .i64 (s : Int), .bool m, .int .i64 0, .int .u8 0]) ∧ Cur w' C g xs (at_ + 2) .nilIface ∧ w.grownBy w' (some C) := by
  have HA := al_any w (.cells #[.int .i64 0, .slice none 0 0, .bool false, .bool false, .int .i64 0, .bool false, .int .i64 0, .int .u8 0] 76)
  have HU := Lib.hid (h.below HA)
  have HCG := Lib.hid (show C < w.heap.size ∧ g < w.heap.size from ⟨h.clt, h.glt⟩)
  have HW := Lib.hid (rfl : w.alloc (.cells #[.int .i64 0, .slice none 0 0, .bool false, .bool false, .int .i64 0, .bool false, .int .i64 0, .int .u8 0] 76) = w.alloc (.cells #[.int .i64 0, .slice none 0 0, .bool false, .bool false, .int .i64 0, .bool false, .int .i64 0, .int .u8 0] 76))
  have HB := Lib.hid hb
  have HK := Lib.hid (takeKind_order _ HU.out hx 2 hl (byte_lt h8 (by decide) at_) hk (by decide))
  clear h HA HW hk hb
  go_enter Tryz.func115, Tryz.ntmps115
  go_wp2_with fail
  with_reducible refine HK.out.mono ?_
  rintro e w1 ⟨rfl, hu, hgr⟩
  have S := Lib.hid (gs_start #[.int .i64 2, .slice none 0 0, .bool false, .bool false, .int .i64 0, .bool false, .int .i64 0, .int .u8 0] (.inr HCG.out) hu hgr)
  clear hu hgr HK HU
  go_wp2_with fail
  generalize w1.heap.size = L at *
  generalize w1.alloc (.cells #[.int .i64 2, .slice none 0 0, .bool false, .bool false, .int .i64 0, .bool false, .int .i64 0, .int .u8 0] 76) = w2 at *
  with_reducible refine (takeAttr_ok w2 S.out.cur hx hl2 p n m s hs HB.out).mono ?_
  rintro e w3 ⟨rfl, hu, hgr⟩
  replace S := Lib.hid (S.out.call hu hgr)
  clear hu hgr
  obtain ⟨c0, c1, c2, c3, c4, c5, c6, c7⟩ := cells8 S.out.ord
  obtain ⟨e0, e1, e2, e3, e4, e5, e6, e7⟩ := free8 S.out.ord
  go_wp2_with fail
  clear c0 c1 c2 c3 c4 c5 c6 c7 e0 e1 e2 e3 e4 e5 e6 e7
  have G2 := gsetCell (w3) L 2 (.bool p)
  have G3 := gsetCell ((w3).setCell ⟨L, 2, none⟩ (.bool p)) L 3 (.bool n)
  have G4 := gsetCell (((w3).setCell ⟨L, 2, none⟩ (.bool p)).setCell ⟨L, 3, none⟩ (.bool n)) L 4 (.int .i64 (s : Int))
  have G5 := gsetCell ((((w3).setCell ⟨L, 2, none⟩ (.bool p)).setCell ⟨L, 3, none⟩ (.bool n)).setCell ⟨L, 4, none⟩ (.int .i64 (s : Int))) L 5 (.bool m)
  have GG := Lib.hid (gtrans G2 (gtrans G3 (gtrans G4 (G5))))
  clear G2 G3 G4 G5
  replace S := Lib.hid (show GS w (((((w3).setCell ⟨L, 2, none⟩ (.bool p)).setCell ⟨L, 3, none⟩ (.bool n)).setCell ⟨L, 4, none⟩ (.int .i64 (s : Int))).setCell ⟨L, 5, none⟩ (.bool m)) C g xs _ _ w.heap.size L #[.int .i64 2, .slice none 0 0, .bool p, .bool n, .int .i64 (s : Int), .bool m, .int .i64 0, .int .u8 0] from ((((S.out.set 2 (.bool p)).set 3 (.bool n)).set 4 (.int .i64 (s : Int))).set 5 (.bool m)))
  generalize ((((w3).setCell ⟨L, 2, none⟩ (.bool p)).setCell ⟨L, 3, none⟩ (.bool n)).setCell ⟨L, 4, none⟩ (.int .i64 (s : Int))).setCell ⟨L, 5, none⟩ (.bool m) = w4 at *
  clear GG
  with_reducible refine (err_any w4 S.out.cur).mono ?_
  rintro e wq ⟨rfl, rfl⟩
  obtain ⟨c0, c1, c2, c3, c4, c5, c6, c7⟩ := cells8 S.out.ord
  obtain ⟨e0, e1, e2, e3, e4, e5, e6, e7⟩ := free8 S.out.ord
  obtain ⟨d0, d1, d2, d3, d4, d5, d6, d7⟩ := cells8 S.out.res
  obtain ⟨f0, f1, f2, f3, f4, f5, f6, f7⟩ := free8 S.out.res
  have SF := Lib.hid (S.out.fin (.int .i64 2) (.slice none 0 0) (.bool p) (.bool n) (.int .i64 (s : Int)) (.bool m) (.int .i64 0) (.int .u8 0))
  go_wp2_with fail
  clear c0 c1 c2 c3 c4 c5 c6 c7 e0 e1 e2 e3 e4 e5 e6 e7 d0 d1 d2 d3 d4 d5 d6 d7 f0 f1 f2 f3 f4 f5 f6 f7
  obtain ⟨wz, hz, s1, s2, s3, s4⟩ := SF.out
  rw [← hz]
  clear hz SF
  have S1 := Lib.hid s1
  clear s1
  refine bodyPost_ret (v := .agg #[.int .i64 2, .slice none 0 0, .bool p, .bool n, .int .i64 (s : Int), .bool m, .int .i64 0, .int .u8 0]) (results_cell_row rfl _ _ w.heap.size 76 _ (0, 0) _ rfl S1.out Tryz.underlying76 rfl (by kernel_rfl)) rfl ?_
  exact ⟨rfl, s2, s3⟩
set_option maxRecDepth 100000 in
set_option maxHeartbeats 4000000 in
theorem get_2_bad {C g at_ : Nat} {xs : List Nat} (z : Int) (w : World) (h : Cur w C g xs at_ .nilIface) (h8 : ∀ x ∈ xs, x < 256) (hx : xs.length < 1000000000) (hl : at_ < xs.length) (hk : kindB (xs.getD at_ 0) = 2) (hl2 : at_ + 1 < xs.length) (hb : noAttr (xs.getD (at_ + 1) 0) = true) :
    Calls Tryz.prog 115 #[.pointer (some ⟨C, 0, none⟩), .int .i64 z] w fun e w' => e = .returned (.agg #[.int .i64 0, .slice none 0 0, .bool false, .bool false, .int .i64 0, .bool false, .int .i64 0, .int .u8 0]) ∧ ∃ ev, Cur w' C g xs (at_ + 1) ev ∧ Met w' ev 3 (at_ + 1) ∧ w.grownBy w' (some C) := by
  have HA := al_any w (.cells #[.int .i64 0, .slice none 0 0, .bool false, .bool false, .int .i64 0, .bool false, .int .i64 0, .int .u8 0] 76)
  have HU := Lib.hid (h.below HA)
  have HCG := Lib.hid (show C < w.heap.size ∧ g < w.heap.size from ⟨h.clt, h.glt⟩)
  have HW := Lib.hid (rfl : w.alloc (.cells #[.int .i64 0, .slice none 0 0, .bool false, .bool false, .int .i64 0, .bool false, .int .i64 0, .int .u8 0] 76) = w.alloc (.cells #[.int .i64 0, .slice none 0 0, .bool false, .bool false, .int .i64 0, .bool false, .int .i64 0, .int .u8 0] 76))
  have HB := Lib.hid hb
  have HB8 := Lib.hid (byte_lt h8 (by decide) (at_ + 1))
  have HK := Lib.hid (takeKind_order _ HU.out hx 2 hl (byte_lt h8 (by decide) at_) hk (by decide))
  clear h HA HW hk hb
  go_enter Tryz.func115, Tryz.ntmps115
  go_wp2_with fail
  with_reducible refine HK.out.mono ?_
  rintro e w1 ⟨rfl, hu, hgr⟩
  have S := Lib.hid (gs_start #[.int .i64 2, .slice none 0 0, .bool false, .bool false, .int .i64 0, .bool false, .int .i64 0, .int .u8 0] (.inr HCG.out) hu hgr)
  clear hu hgr HK HU
  go_wp2_with fail
  generalize w1.heap.size = L at *
  generalize w1.alloc (.cells #[.int .i64 2, .slice none 0 0, .bool false, .bool false, .int .i64 0, .bool false, .int .i64 0, .int .u8 0] 76) = w2 at *
  with_reducible refine (takeAttr_bad w2 S.out.cur hl2 HB8.out HB.out).mono ?_
  rintro e w3 ⟨rfl, ev, hu, hm, hgr⟩
  obtain ⟨b, rfl, hm⟩ := hm
  have M := Lib.hid (show Met w3 _ _ _ from ⟨b, rfl, hm⟩)
  replace S := Lib.hid (S.out.call hu hgr)
  clear hu hgr hm
  obtain ⟨c0, c1, c2, c3, c4, c5, c6, c7⟩ := cells8 S.out.ord
  obtain ⟨e0, e1, e2, e3, e4, e5, e6, e7⟩ := free8 S.out.ord
  go_wp2_with fail
  clear c0 c1 c2 c3 c4 c5 c6 c7 e0 e1 e2 e3 e4 e5 e6 e7
  have G2 := gsetCell (w3) L 2 (.bool false)
  have G3 := gsetCell ((w3).setCell ⟨L, 2, none⟩ (.bool false)) L 3 (.bool false)
  have G4 := gsetCell (((w3).setCell ⟨L, 2, none⟩ (.bool false)).setCell ⟨L, 3, none⟩ (.bool false)) L 4 (.int .i64 0)
  have G5 := gsetCell ((((w3).setCell ⟨L, 2, none⟩ (.bool false)).setCell ⟨L, 3, none⟩ (.bool false)).setCell ⟨L, 4, none⟩ (.int .i64 0)) L 5 (.bool false)
  have GG := Lib.hid (gtrans G2 (gtrans G3 (gtrans G4 (G5))))
  clear G2 G3 G4 G5
  replace M := Lib.hid (S.out.metL M.out GG.out)
  replace S := Lib.hid (show GS w (((((w3).setCell ⟨L, 2, none⟩ (.bool false)).setCell ⟨L, 3, none⟩ (.bool false)).setCell ⟨L, 4, none⟩ (.int .i64 0)).setCell ⟨L, 5, none⟩ (.bool false)) C g xs _ _ w.heap.size L #[.int .i64 2, .slice none 0 0, .bool false, .bool false, .int .i64 0, .bool false, .int .i64 0, .int .u8 0] from ((((S.out.set 2 (.bool false)).set 3 (.bool false)).set 4 (.int .i64 0)).set 5 (.bool false)))
  generalize ((((w3).setCell ⟨L, 2, none⟩ (.bool false)).setCell ⟨L, 3, none⟩ (.bool false)).setCell ⟨L, 4, none⟩ (.int .i64 0)).setCell ⟨L, 5, none⟩ (.bool false) = w4 at *
  clear GG
  with_reducible refine (err_any w4 S.out.cur).mono ?_
  rintro e wq ⟨rfl, rfl⟩
  obtain ⟨c0, c1, c2, c3, c4, c5, c6, c7⟩ := cells8 S.out.ord
  obtain ⟨e0, e1, e2, e3, e4, e5, e6, e7⟩ := free8 S.out.ord
  obtain ⟨d0, d1, d2, d3, d4, d5, d6, d7⟩ := cells8 S.out.res
  obtain ⟨f0, f1, f2, f3, f4, f5, f6, f7⟩ := free8 S.out.res
  have SF := Lib.hid (S.out.fin (.int .i64 0) (.slice none 0 0) (.bool false) (.bool false) (.int .i64 0) (.bool false) (.int .i64 0) (.int .u8 0))
  go_wp2_with fail
  clear c0 c1 c2 c3 c4 c5 c6 c7 e0 e1 e2 e3 e4 e5 e6 e7 d0 d1 d2 d3 d4 d5 d6 d7 f0 f1 f2 f3 f4 f5 f6 f7
  obtain ⟨wz, hz, s1, s2, s3, s4⟩ := SF.out
  rw [← hz]
  clear hz SF
  have S1 := Lib.hid s1
  clear s1
  refine bodyPost_ret (v := .agg #[.int .i64 0, .slice none 0 0, .bool false, .bool false, .int .i64 0, .bool false, .int .i64 0, .int .u8 0]) (results_cell_row rfl _ _ w.heap.size 76 _ (0, 0) _ rfl S1.out Tryz.underlying76 rfl (by kernel_rfl)) rfl ?_
  exact ⟨rfl, _, s2, S.out.met M.out s4, s3⟩
set_option maxRecDepth 100000 in
set_option maxHeartbeats 4000000 in
theorem get_2_none {C g at_ : Nat} {xs : List Nat} (z : Int) (w : World) (h : Cur w C g xs at_ .nilIface) (h8 : ∀ x ∈ xs, x < 256) (hx : xs.length < 1000000000) (hl : at_ < xs.length) (hk : kindB (xs.getD at_ 0) = 2) (hl2 : xs.length ≤ at_ + 1) :
    Calls Tryz.prog 115 #[.pointer (some ⟨C, 0, none⟩), .int .i64 z] w fun e w' => e = .returned (.agg #[.int .i64 0, .slice none 0 0, .bool false, .bool false, .int .i64 0, .bool false, .int .i64 0, .int .u8 0]) ∧ ∃ ev, Cur w' C g xs (at_ + 1) ev ∧ Met w' ev 2 (at_ + 1) ∧ w.grownBy w' (some C) := by
  have HA := al_any w (.cells #[.int .i64 0, .slice none 0 0, .bool false, .bool false, .int .i64 0, .bool false, .int .i64 0, .int .u8 0] 76)
  have HU := Lib.hid (h.below HA)
  have HCG := Lib.hid (show C < w.heap.size ∧ g < w.heap.size from ⟨h.clt, h.glt⟩)
  have HW := Lib.hid (rfl : w.alloc (.cells #[.int .i64 0, .slice none 0 0, .bool false, .bool false, .int .i64 0, .bool false, .int .i64 0, .int .u8 0] 76) = w.alloc (.cells #[.int .i64 0, .slice none 0 0, .bool false, .bool false, .int .i64 0, .bool false, .int .i64 0, .int .u8 0] 76))
  have HK := Lib.hid (takeKind_order _ HU.out hx 2 hl (byte_lt h8 (by decide) at_) hk (by decide))
  clear h HA HW hk
  go_enter Tryz.func115, Tryz.ntmps115
  go_wp2_with fail
  with_reducible refine HK.out.mono ?_
  rintro e w1 ⟨rfl, hu, hgr⟩
  have S := Lib.hid (gs_start #[.int .i64 2, .slice none 0 0, .bool false, .bool false, .int .i64 0, .bool false, .int .i64 0, .int .u8 0] (.inr HCG.out) hu hgr)
  clear hu hgr HK HU
  go_wp2_with fail
  generalize w1.heap.size = L at *
  generalize w1.alloc (.cells #[.int .i64 2, .slice none 0 0, .bool false, .bool false, .int .i64 0, .bool false, .int .i64 0, .int .u8 0] 76) = w2 at *
  with_reducible refine (takeAttr_none w2 S.out.cur hl2).mono ?_
  rintro e w3 ⟨rfl, ev, hu, hm, hgr⟩
  obtain ⟨b, rfl, hm⟩ := hm
  have M := Lib.hid (show Met w3 _ _ _ from ⟨b, rfl, hm⟩)
  replace S := Lib.hid (S.out.call hu hgr)
  clear hu hgr hm
  obtain ⟨c0, c1, c2, c3, c4, c5, c6, c7⟩ := cells8 S.out.ord
  obtain ⟨e0, e1, e2, e3, e4, e5, e6, e7⟩ := free8 S.out.ord
  go_wp2_with fail
  clear c0 c1 c2 c3 c4 c5 c6 c7 e0 e1 e2 e3 e4 e5 e6 e7
  have G2 := gsetCell (w3) L 2 (.bool false)
  have G3 := gsetCell ((w3).setCell ⟨L, 2, none⟩ (.bool false)) L 3 (.bool false)
  have G4 := gsetCell (((w3).setCell ⟨L, 2, none⟩ (.bool false)).setCell ⟨L, 3, none⟩ (.bool false)) L 4 (.int .i64 0)
  have G5 := gsetCell ((((w3).setCell ⟨L, 2, none⟩ (.bool false)).setCell ⟨L, 3, none⟩ (.bool false)).setCell ⟨L, 4, none⟩ (.int .i64 0)) L 5 (.bool false)
  have GG := Lib.hid (gtrans G2 (gtrans G3 (gtrans G4 (G5))))
  clear G2 G3 G4 G5
  replace M := Lib.hid (S.out.metL M.out GG.out)
  replace S := Lib.hid (show GS w (((((w3).setCell ⟨L, 2, none⟩ (.bool false)).setCell ⟨L, 3, none⟩ (.bool false)).setCell ⟨L, 4, none⟩ (.int .i64 0)).setCell ⟨L, 5, none⟩ (.bool false)) C g xs _ _ w.heap.size L #[.int .i64 2, .slice none 0 0, .bool false, .bool false, .int .i64 0, .bool false, .int .i64 0, .int .u8 0] from ((((S.out.set 2 (.bool false)).set 3 (.bool false)).set 4 (.int .i64 0)).set 5 (.bool false)))
  generalize ((((w3).setCell ⟨L, 2, none⟩ (.bool false)).setCell ⟨L, 3, none⟩ (.bool false)).setCell ⟨L, 4, none⟩ (.int .i64 0)).setCell ⟨L, 5, none⟩ (.bool false) = w4 at *
  clear GG
  with_reducible refine (err_any w4 S.out.cur).mono ?_
  rintro e wq ⟨rfl, rfl⟩
  obtain ⟨c0, c1, c2, c3, c4, c5, c6, c7⟩ := cells8 S.out.ord
  obtain ⟨e0, e1, e2, e3, e4, e5, e6, e7⟩ := free8 S.out.ord
  obtain ⟨d0, d1, d2, d3, d4, d5, d6, d7⟩ := cells8 S.out.res
  obtain ⟨f0, f1, f2, f3, f4, f5, f6, f7⟩ := free8 S.out.res
  have SF := Lib.hid (S.out.fin (.int .i64 0) (.slice none 0 0) (.bool false) (.bool false) (.int .i64 0) (.bool false) (.int .i64 0) (.int .u8 0))
  go_wp2_with fail
  clear c0 c1 c2 c3 c4 c5 c6 c7 e0 e1 e2 e3 e4 e5 e6 e7 d0 d1 d2 d3 d4 d5 d6 d7 f0 f1 f2 f3 f4 f5 f6 f7
  obtain ⟨wz, hz, s1, s2, s3, s4⟩ := SF.out
  rw [← hz]
  clear hz SF
  have S1 := Lib.hid s1
  clear s1
  refine bodyPost_ret (v := .agg #[.int .i64 0, .slice none 0 0, .bool false, .bool false, .int .i64 0, .bool false, .int .i64 0, .int .u8 0]) (results_cell_row rfl _ _ w.heap.size 76 _ (0, 0) _ rfl S1.out Tryz.underlying76 rfl (by kernel_rfl)) rfl ?_
  exact ⟨rfl, _, s2, S.out.met M.out s4, s3⟩
set_option maxRecDepth 100000 in
set_option maxHeartbeats 4000000 in
theorem get_3 {C g at_ : Nat} {xs : List Nat} (z : Int) (w : World) (h : Cur w C g xs at_ .nilIface) (h8 : ∀ x ∈ xs, x < 256) (hx : xs.length < 1000000000) (hl : at_ < xs.length) (hk : kindB (xs.getD at_ 0) = 3) (hw : (Adr.aspec (xs.drop (at_ + 1)) z).2.1 = 0) :
    Calls Tryz.prog 115 #[.pointer (some ⟨C, 0, none⟩), .int .i64 z] w fun e w' => e = .returned (.agg #[.int .i64 3, .slice none 0 0, .bool false, .bool false, .int .i64 0, .bool false, .int .i64 ((Adr.aspec (xs.drop (at_ + 1)) z).1 : Int), .int .u8 0]) ∧ Cur w' C g xs (at_ + 3) .nilIface ∧ w.grownBy w' (some C) := by
  have HA := al_any w (.cells #[.int .i64 0, .slice none 0 0, .bool false, .bool false, .int .i64 0, .bool false, .int .i64 0, .int .u8 0] 76)
  have HU := Lib.hid (h.below HA)
  have HCG := Lib.hid (show C < w.heap.size ∧ g < w.heap.size from ⟨h.clt, h.glt⟩)
  have HW := Lib.hid (rfl : w.alloc (.cells #[.int .i64 0, .slice none 0 0, .bool false, .bool false, .int .i64 0, .bool false, .int .i64 0, .int .u8 0] 76) = w.alloc (.cells #[.int .i64 0, .slice none 0 0, .bool false, .bool false, .int .i64 0, .bool false, .int .i64 0, .int .u8 0] 76))
  have HWA := Lib.hid hw
  have HK := Lib.hid (takeKind_order _ HU.out hx 3 hl (byte_lt h8 (by decide) at_) hk (by decide))
  clear h HA HW hk hw
  go_enter Tryz.func115, Tryz.ntmps115
  go_wp2_with fail
  with_reducible refine HK.out.mono ?_
  rintro e w1 ⟨rfl, hu, hgr⟩
  have S := Lib.hid (gs_start #[.int .i64 3, .slice none 0 0, .bool false, .bool false, .int .i64 0, .bool false, .int .i64 0, .int .u8 0] (.inr HCG.out) hu hgr)
  clear hu hgr HK HU
  go_wp2_with fail
  generalize w1.heap.size = L at *
  generalize w1.alloc (.cells #[.int .i64 3, .slice none 0 0, .bool false, .bool false, .int .i64 0, .bool false, .int .i64 0, .int .u8 0] 76) = w2 at *
  with_reducible refine (addr_ok z w2 S.out.cur h8 hx HWA.out).mono ?_
  rintro e w3 ⟨rfl, hu, hgr⟩
  replace S := Lib.hid (S.out.call hu hgr)
  clear hu hgr
  obtain ⟨c0, c1, c2, c3, c4, c5, c6, c7⟩ := cells8 S.out.ord
  obtain ⟨e0, e1, e2, e3, e4, e5, e6, e7⟩ := free8 S.out.ord
  go_wp2_with fail
  clear c0 c1 c2 c3 c4 c5 c6 c7 e0 e1 e2 e3 e4 e5 e6 e7
  have G6 := gsetCell (w3) L 6 (.int .i64 ((Adr.aspec (xs.drop (at_ + 1)) z).1 : Int))
  have GG := Lib.hid (G6)
  clear G6
  replace S := Lib.hid (show GS w ((w3).setCell ⟨L, 6, none⟩ (.int .i64 ((Adr.aspec (xs.drop (at_ + 1)) z).1 : Int))) C g xs _ _ w.heap.size L #[.int .i64 3, .slice none 0 0, .bool false, .bool false, .int .i64 0, .bool false, .int .i64 ((Adr.aspec (xs.drop (at_ + 1)) z).1 : Int), .int .u8 0] from (S.out.set 6 (.int .i64 ((Adr.aspec (xs.drop (at_ + 1)) z).1 : Int))))
  generalize (w3).setCell ⟨L, 6, none⟩ (.int .i64 ((Adr.aspec (xs.drop (at_ + 1)) z).1 : Int)) = w4 at *
  clear GG
  with_reducible refine (err_any w4 S.out.cur).mono ?_
  rintro e wq ⟨rfl, rfl⟩
  obtain ⟨c0, c1, c2, c3, c4, c5, c6, c7⟩ := cells8 S.out.ord
  obtain ⟨e0, e1, e2, e3, e4, e5, e6, e7⟩ := free8 S.out.ord
  obtain ⟨d0, d1, d2, d3, d4, d5, d6, d7⟩ := cells8 S.out.res
  obtain ⟨f0, f1, f2, f3, f4, f5, f6, f7⟩ := free8 S.out.res
  have SF := Lib.hid (S.out.fin (.int .i64 3) (.slice none 0 0) (.bool false) (.bool false) (.int .i64 0) (.bool false) (.int .i64 ((Adr.aspec (xs.drop (at_ + 1)) z).1 : Int)) (.int .u8 0))
  go_wp2_with fail
  clear c0 c1 c2 c3 c4 c5 c6 c7 e0 e1 e2 e3 e4 e5 e6 e7 d0 d1 d2 d3 d4 d5 d6 d7 f0 f1 f2 f3 f4 f5 f6 f7
  obtain ⟨wz, hz, s1, s2, s3, s4⟩ := SF.out
  rw [← hz]
  clear hz SF
  have S1 := Lib.hid s1
  clear s1
  refine bodyPost_ret (v := .agg #[.int .i64 3, .slice none 0 0, .bool false, .bool false, .int .i64 0, .bool false, .int .i64 ((Adr.aspec (xs.drop (at_ + 1)) z).1 : Int), .int .u8 0]) (results_cell_row rfl _ _ w.heap.size 76 _ (0, 0) _ rfl S1.out Tryz.underlying76 rfl (by kernel_rfl)) rfl ?_
  exact ⟨rfl, s2, s3⟩
set_option maxRecDepth 100000 in
set_option maxHeartbeats 4000000 in
theorem get_3_bad {C g at_ : Nat} {xs : List Nat} (z : Int) (w : World) (h : Cur w C g xs at_ .nilIface) (h8 : ∀ x ∈ xs, x < 256) (hx : xs.length < 1000000000) (hl : at_ < xs.length) (hk : kindB (xs.getD at_ 0) = 3) (hw : (Adr.aspec (xs.drop (at_ + 1)) z).2.1 ≠ 0) :
    Calls Tryz.prog 115 #[.pointer (some ⟨C, 0, none⟩), .int .i64 z] w fun e w' => e = .returned (.agg #[.int .i64 0, .slice none 0 0, .bool false, .bool false, .int .i64 0, .bool false, .int .i64 0, .int .u8 0]) ∧ ∃ ev, Cur w' C g xs (at_ + 1) ev ∧ Met w' ev ((Adr.aspec (xs.drop (at_ + 1)) z).2.1 : Int) (at_ + 1) ∧ w.grownBy w' (some C) := by
  have HA := al_any w (.cells #[.int .i64 0, .slice none 0 0, .bool false, .bool false, .int .i64 0, .bool false, .int .i64 0, .int .u8 0] 76)
  have HU := Lib.hid (h.below HA)
  have HCG := Lib.hid (show C < w.heap.size ∧ g < w.heap.size from ⟨h.clt, h.glt⟩)
  have HW := Lib.hid (rfl : w.alloc (.cells #[.int .i64 0, .slice none 0 0, .bool false, .bool false, .int .i64 0, .bool false, .int .i64 0, .int .u8 0] 76) = w.alloc (.cells #[.int .i64 0, .slice none 0 0, .bool false, .bool false, .int .i64 0, .bool false, .int .i64 0, .int .u8 0] 76))
  have HWA := Lib.hid hw
  have HK := Lib.hid (takeKind_order _ HU.out hx 3 hl (byte_lt h8 (by decide) at_) hk (by decide))
  clear h HA HW hk hw
  go_enter Tryz.func115, Tryz.ntmps115
  go_wp2_with fail
  with_reducible refine HK.out.mono ?_
  rintro e w1 ⟨rfl, hu, hgr⟩
  have S := Lib.hid (gs_start #[.int .i64 3, .slice none 0 0, .bool false, .bool false, .int .i64 0, .bool false, .int .i64 0, .int .u8 0] (.inr HCG.out) hu hgr)
  clear hu hgr HK HU
  go_wp2_with fail
  generalize w1.heap.size = L at *
  generalize w1.alloc (.cells #[.int .i64 3, .slice none 0 0, .bool false, .bool false, .int .i64 0, .bool false, .int .i64 0, .int .u8 0] 76) = w2 at *
  with_reducible refine (addr_bad z w2 S.out.cur h8 HWA.out).mono ?_
  rintro e w3 ⟨rfl, ev, hu, hm, hgr⟩
  obtain ⟨b, rfl, hm⟩ := hm
  have M := Lib.hid (show Met w3 _ _ _ from ⟨b, rfl, hm⟩)
  replace S := Lib.hid (S.out.call hu hgr)
  clear hu hgr hm
  obtain ⟨c0, c1, c2, c3, c4, c5, c6, c7⟩ := cells8 S.out.ord
  obtain ⟨e0, e1, e2, e3, e4, e5, e6, e7⟩ := free8 S.out.ord
  go_wp2_with fail
  clear c0 c1 c2 c3 c4 c5 c6 c7 e0 e1 e2 e3 e4 e5 e6 e7
  have G6 := gsetCell (w3) L 6 (.int .i64 0)
  have GG := Lib.hid (G6)
  clear G6
  replace M := Lib.hid (S.out.metL M.out GG.out)
  replace S := Lib.hid (show GS w ((w3).setCell ⟨L, 6, none⟩ (.int .i64 0)) C g xs _ _ w.heap.size L #[.int .i64 3, .slice none 0 0, .bool false, .bool false, .int .i64 0, .bool false, .int .i64 0, .int .u8 0] from (S.out.set 6 (.int .i64 0)))
  generalize (w3).setCell ⟨L, 6, none⟩ (.int .i64 0) = w4 at *
  clear GG
  with_reducible refine (err_any w4 S.out.cur).mono ?_
  rintro e wq ⟨rfl, rfl⟩
  obtain ⟨c0, c1, c2, c3, c4, c5, c6, c7⟩ := cells8 S.out.ord
  obtain ⟨e0, e1, e2, e3, e4, e5, e6, e7⟩ := free8 S.out.ord
  obtain ⟨d0, d1, d2, d3, d4, d5, d6, d7⟩ := cells8 S.out.res
  obtain ⟨f0, f1, f2, f3, f4, f5, f6, f7⟩ := free8 S.out.res
  have SF := Lib.hid (S.out.fin (.int .i64 0) (.slice none 0 0) (.bool false) (.bool false) (.int .i64 0) (.bool false) (.int .i64 0) (.int .u8 0))
  go_wp2_with fail
  clear c0 c1 c2 c3 c4 c5 c6 c7 e0 e1 e2 e3 e4 e5 e6 e7 d0 d1 d2 d3 d4 d5 d6 d7 f0 f1 f2 f3 f4 f5 f6 f7
  obtain ⟨wz, hz, s1, s2, s3, s4⟩ := SF.out
  rw [← hz]
  clear hz SF
  have S1 := Lib.hid s1
  clear s1
  refine bodyPost_ret (v := .agg #[.int .i64 0, .slice none 0 0, .bool false, .bool false, .int .i64 0, .bool false, .int .i64 0, .int .u8 0]) (results_cell_row rfl _ _ w.heap.size 76 _ (0, 0) _ rfl S1.out Tryz.underlying76 rfl (by kernel_rfl)) rfl ?_
  exact ⟨rfl, _, s2, S.out.met M.out s4, s3⟩
set_option maxRecDepth 100000 in
set_option maxHeartbeats 4000000 in
theorem get_7 {C g at_ : Nat} {xs : List Nat} (z : Int) (w : World) (h : Cur w C g xs at_ .nilIface) (h8 : ∀ x ∈ xs, x < 256) (hx : xs.length < 1000000000) (hl : at_ < xs.length) (hk : kindB (xs.getD at_ 0) = 7) (hw : (Adr.aspec (xs.drop (at_ + 1)) z).2.1 = 0) :
    Calls Tryz.prog 115 #[.pointer (some ⟨C, 0, none⟩), .int .i64 z] w fun e w' => e = .returned (.agg #[.int .i64 7, .slice none 0 0, .bool false, .bool false, .int .i64 0, .bool false, .int .i64 ((Adr.aspec (xs.drop (at_ + 1)) z).1 : Int), .int .u8 0]) ∧ Cur w' C g xs (at_ + 3) .nilIface ∧ w.grownBy w' (some C) := by
  have HA := al_any w (.cells #[.int .i64 0, .slice none 0 0, .bool false, .bool false, .int .i64 0, .bool false, .int .i64 0, .int .u8 0] 76)
  have HU := Lib.hid (h.below HA)
  have HCG := Lib.hid (show C < w.heap.size ∧ g < w.heap.size from ⟨h.clt, h.glt⟩)
  have HW := Lib.hid (rfl : w.alloc (.cells #[.int .i64 0, .slice none 0 0, .bool false, .bool false, .int .i64 0, .bool false, .int .i64 0, .int .u8 0] 76) = w.alloc (.cells #[.int .i64 0, .slice none 0 0, .bool false, .bool false, .int .i64 0, .bool false, .int .i64 0, .int .u8 0] 76))
  have HWA := Lib.hid hw
  have HK := Lib.hid (takeKind_order _ HU.out hx 7 hl (byte_lt h8 (by decide) at_) hk (by decide))
  clear h HA HW hk hw
  go_enter Tryz.func115, Tryz.ntmps115
  go_wp2_with fail
  with_reducible refine HK.out.mono ?_
  rintro e w1 ⟨rfl, hu, hgr⟩
  have S := Lib.hid (gs_start #[.int .i64 7, .slice none 0 0, .bool false, .bool false, .int .i64 0, .bool false, .int .i64 0, .int .u8 0] (.inr HCG.out) hu hgr)
  clear hu hgr HK HU
  go_wp2_with fail
  generalize w1.heap.size = L at *
  generalize w1.alloc (.cells #[.int .i64 7, .slice none 0 0, .bool false, .bool false, .int .i64 0, .bool false, .int .i64 0, .int .u8 0] 76) = w2 at *
  with_reducible refine (addr_ok z w2 S.out.cur h8 hx HWA.out).mono ?_
  rintro e w3 ⟨rfl, hu, hgr⟩
  replace S := Lib.hid (S.out.call hu hgr)
  clear hu hgr
  obtain ⟨c0, c1, c2, c3, c4, c5, c6, c7⟩ := cells8 S.out.ord
  obtain ⟨e0, e1, e2, e3, e4, e5, e6, e7⟩ := free8 S.out.ord
  go_wp2_with fail
  clear c0 c1 c2 c3 c4 c5 c6 c7 e0 e1 e2 e3 e4 e5 e6 e7
  have G6 := gsetCell (w3) L 6 (.int .i64 ((Adr.aspec (xs.drop (at_ + 1)) z).1 : Int))
  have GG := Lib.hid (G6)
  clear G6
  replace S := Lib.hid (show GS w ((w3).setCell ⟨L, 6, none⟩ (.int .i64 ((Adr.aspec (xs.drop (at_ + 1)) z).1 : Int))) C g xs _ _ w.heap.size L #[.int .i64 7, .slice none 0 0, .bool false, .bool false, .int .i64 0, .bool false, .int .i64 ((Adr.aspec (xs.drop (at_ + 1)) z).1 : Int), .int .u8 0] from (S.out.set 6 (.int .i64 ((Adr.aspec (xs.drop (at_ + 1)) z).1 : Int))))
  generalize (w3).setCell ⟨L, 6, none⟩ (.int .i64 ((Adr.aspec (xs.drop (at_ + 1)) z).1 : Int)) = w4 at *
  clear GG
  with_reducible refine (err_any w4 S.out.cur).mono ?_
  rintro e wq ⟨rfl, rfl⟩
  obtain ⟨c0, c1, c2, c3, c4, c5, c6, c7⟩ := cells8 S.out.ord
  obtain ⟨e0, e1, e2, e3, e4, e5, e6, e7⟩ := free8 S.out.ord
  obtain ⟨d0, d1, d2, d3, d4, d5, d6, d7⟩ := cells8 S.out.res
  obtain ⟨f0, f1, f2, f3, f4, f5, f6, f7⟩ := free8 S.out.res
  have SF := Lib.hid (S.out.fin (.int .i64 7) (.slice none 0 0) (.bool false) (.bool false) (.int .i64 0) (.bool false) (.int .i64 ((Adr.aspec (xs.drop (at_ + 1)) z).1 : Int)) (.int .u8 0))
  go_wp2_with fail
  clear c0 c1 c2 c3 c4 c5 c6 c7 e0 e1 e2 e3 e4 e5 e6 e7 d0 d1 d2 d3 d4 d5 d6 d7 f0 f1 f2 f3 f4 f5 f6 f7
  obtain ⟨wz, hz, s1, s2, s3, s4⟩ := SF.out
  rw [← hz]
  clear hz SF
  have S1 := Lib.hid s1
  clear s1
  refine bodyPost_ret (v := .agg #[.int .i64 7, .slice none 0 0, .bool false, .bool false, .int .i64 0, .bool false, .int .i64 ((Adr.aspec (xs.drop (at_ + 1)) z).1 : Int), .int .u8 0]) (results_cell_row rfl _ _ w.heap.size 76 _ (0, 0) _ rfl S1.out Tryz.underlying76 rfl (by kernel_rfl)) rfl ?_
  exact ⟨rfl, s2, s3⟩
set_option maxRecDepth 100000 in
set_option maxHeartbeats 4000000 in
theorem get_7_bad {C g at_ : Nat} {xs : List Nat} (z : Int) (w : World) (h : Cur w C g xs at_ .nilIface) (h8 : ∀ x ∈ xs, x < 256) (hx : xs.length < 1000000000) (hl : at_ < xs.length) (hk : kindB (xs.getD at_ 0) = 7) (hw : (Adr.aspec (xs.drop (at_ + 1)) z).2.1 ≠ 0) :
    Calls Tryz.prog 115 #[.pointer (some ⟨C, 0, none⟩), .int .i64 z] w fun e w' => e = .returned (.agg #[.int .i64 0, .slice none 0 0, .bool false, .bool false, .int .i64 0, .bool false, .int .i64 0, .int .u8 0]) ∧ ∃ ev, Cur w' C g xs (at_ + 1) ev ∧ Met w' ev ((Adr.aspec (xs.drop (at_ + 1)) z).2.1 : Int) (at_ + 1) ∧ w.grownBy w' (some C) := by
  have HA := al_any w (.cells #[.int .i64 0, .slice none 0 0, .bool false, .bool false, .int .i64 0, .bool false, .int .i64 0, .int .u8 0] 76)
  have HU := Lib.hid (h.below HA)
  have HCG := Lib.hid (show C < w.heap.size ∧ g < w.heap.size from ⟨h.clt, h.glt⟩)
  have HW := Lib.hid (rfl : w.alloc (.cells #[.int .i64 0, .slice none 0 0, .bool false, .bool false, .int .i64 0, .bool false, .int .i64 0, .int .u8 0] 76) = w.alloc (.cells #[.int .i64 0, .slice none 0 0, .bool false, .bool false, .int .i64 0, .bool false, .int .i64 0, .int .u8 0] 76))
  have HWA := Lib.hid hw
  have HK := Lib.hid (takeKind_order _ HU.out hx 7 hl (byte_lt h8 (by decide) at_) hk (by decide))
  clear h HA HW hk hw
  go_enter Tryz.func115, Tryz.ntmps115
  go_wp2_with fail
  with_reducible refine HK.out.mono ?_
  rintro e w1 ⟨rfl, hu, hgr⟩
  have S := Lib.hid (gs_start #[.int .i64 7, .slice none 0 0, .bool false, .bool false, .int .i64 0, .bool false, .int .i64 0, .int .u8 0] (.inr HCG.out) hu hgr)
  clear hu hgr HK HU
  go_wp2_with fail
  generalize w1.heap.size = L at *
  generalize w1.alloc (.cells #[.int .i64 7, .slice none 0 0, .bool false, .bool false, .int .i64 0, .bool false, .int .i64 0, .int .u8 0] 76) = w2 at *
  with_reducible refine (addr_bad z w2 S.out.cur h8 HWA.out).mono ?_
  rintro e w3 ⟨rfl, ev, hu, hm, hgr⟩
  obtain ⟨b, rfl, hm⟩ := hm
  have M := Lib.hid (show Met w3 _ _ _ from ⟨b, rfl, hm⟩)
  replace S := Lib.hid (S.out.call hu hgr)
  clear hu hgr hm
  obtain ⟨c0, c1, c2, c3, c4, c5, c6, c7⟩ := cells8 S.out.ord
  obtain ⟨e0, e1, e2, e3, e4, e5, e6, e7⟩ := free8 S.out.ord
  go_wp2_with fail
  clear c0 c1 c2 c3 c4 c5 c6 c7 e0 e1 e2 e3 e4 e5 e6 e7
  have G6 := gsetCell (w3) L 6 (.int .i64 0)
  have GG := Lib.hid (G6)
  clear G6
  replace M := Lib.hid (S.out.metL M.out GG.out)
  replace S := Lib.hid (show GS w ((w3).setCell ⟨L, 6, none⟩ (.int .i64 0)) C g xs _ _ w.heap.size L #[.int .i64 7, .slice none 0 0, .bool false, .bool false, .int .i64 0, .bool false, .int .i64 0, .int .u8 0] from (S.out.set 6 (.int .i64 0)))
  generalize (w3).setCell ⟨L, 6, none⟩ (.int .i64 0) = w4 at *
  clear GG
  with_reducible refine (err_any w4 S.out.cur).mono ?_
  rintro e wq ⟨rfl, rfl⟩
  obtain ⟨c0, c1, c2, c3, c4, c5, c6, c7⟩ := cells8 S.out.ord
  obtain ⟨e0, e1, e2, e3, e4, e5, e6, e7⟩ := free8 S.out.ord
  obtain ⟨d0, d1, d2, d3, d4, d5, d6, d7⟩ := cells8 S.out.res
  obtain ⟨f0, f1, f2, f3, f4, f5, f6, f7⟩ := free8 S.out.res
  have SF := Lib.hid (S.out.fin (.int .i64 0) (.slice none 0 0) (.bool false) (.bool false) (.int .i64 0) (.bool false) (.int .i64 0) (.int .u8 0))
  go_wp2_with fail
  clear c0 c1 c2 c3 c4 c5 c6 c7 e0 e1 e2 e3 e4 e5 e6 e7 d0 d1 d2 d3 d4 d5 d6 d7 f0 f1 f2 f3 f4 f5 f6 f7
  obtain ⟨wz, hz, s1, s2, s3, s4⟩ := SF.out
  rw [← hz]
  clear hz SF
  have S1 := Lib.hid s1
  clear s1
  refine bodyPost_ret (v := .agg #[.int .i64 0, .slice none 0 0, .bool false, .bool false, .int .i64 0, .bool false, .int .i64 0, .int .u8 0]) (results_cell_row rfl _ _ w.heap.size 76 _ (0, 0) _ rfl S1.out Tryz.underlying76 rfl (by kernel_rfl)) rfl ?_
  exact ⟨rfl, _, s2, S.out.met M.out s4, s3⟩
set_option maxRecDepth 100000 in
set_option maxHeartbeats 4000000 in
theorem get_1 {C g at_ : Nat} {xs : List Nat} (z : Int) (w : World) (h : Cur w C g xs at_ .nilIface) (h8 : ∀ x ∈ xs, x < 256) (hx : xs.length < 1000000000) (hl : at_ < xs.length) (hk : kindB (xs.getD at_ 0) = 1) (n : Nat) (ys : List Nat) (hn : Byt.crun (xs.drop at_) = n) (hy : (xs.drop at_).take n = ys) :
    Calls Tryz.prog 115 #[.pointer (some ⟨C, 0, none⟩), .int .i64 z] w fun e w' => ∃ va vc, e = .returned (.agg #[.int .i64 1, .slice va n vc, .bool false, .bool false, .int .i64 0, .bool false, .int .i64 0, .int .u8 0]) ∧ w'.ownsRow w.heap.size 5 1 (.slice va n vc) n (u8s ys) ∧ Cur w' C g xs (at_ + n) .nilIface ∧ w.grownBy w' (some C) := by
  have HA := al_any w (.cells #[.int .i64 0, .slice none 0 0, .bool false, .bool false, .int .i64 0, .bool false, .int .i64 0, .int .u8 0] 76)
  have HU := Lib.hid (h.below HA)
  have HCG := Lib.hid (show C < w.heap.size ∧ g < w.heap.size from ⟨h.clt, h.glt⟩)
  have HW := Lib.hid (rfl : w.alloc (.cells #[.int .i64 0, .slice none 0 0, .bool false, .bool false, .int .i64 0, .bool false, .int .i64 0, .int .u8 0] 76) = w.alloc (.cells #[.int .i64 0, .slice none 0 0, .bool false, .bool false, .int .i64 0, .bool false, .int .i64 0, .int .u8 0] 76))
  have CC := fun (W : World) (hu : Cur W C g xs at_ .nilIface) => chars_ok W hu h8 hx
  simp only [hn, hy] at CC
  have CC := Lib.hid CC
  have HK := Lib.hid (takeKind_text _ HU.out hl (byte_lt h8 (by decide) at_) hk)
  clear h HA HW hk hn hy
  go_enter Tryz.func115, Tryz.ntmps115
  go_wp2_with fail
  with_reducible refine HK.out.mono ?_
  rintro e w1 ⟨rfl, hu, hgr⟩
  have S := Lib.hid (gs_start #[.int .i64 1, .slice none 0 0, .bool false, .bool false, .int .i64 0, .bool false, .int .i64 0, .int .u8 0] (.inr HCG.out) hu hgr)
  clear hu hgr HK HU
  go_wp2_with fail
  generalize w1.heap.size = L at *
  generalize w1.alloc (.cells #[.int .i64 1, .slice none 0 0, .bool false, .bool false, .int .i64 0, .bool false, .int .i64 0, .int .u8 0] 76) = w2 at *
  have S0 := S
  with_reducible refine (CC.out w2 S.out.cur).mono ?_
  rintro e w3 ⟨v, rfl, ho, hu, hgr⟩
  replace S := Lib.hid (S.out.call hu hgr)
  have HO := Lib.hid ho
  have HLB := Lib.hid (there_lt S0.out.ord)
  have HRL := Lib.hid S0.out.rl
  obtain ⟨va, vc, rfl⟩ := Apd.own_form ho
  clear hu hgr ho S0
  obtain ⟨c0, c1, c2, c3, c4, c5, c6, c7⟩ := cells8 S.out.ord
  obtain ⟨e0, e1, e2, e3, e4, e5, e6, e7⟩ := free8 S.out.ord
  go_wp2_with fail
  clear c0 c1 c2 c3 c4 c5 c6 c7 e0 e1 e2 e3 e4 e5 e6 e7
  have G1 := gsetCell (w3) L 1 (.slice va n vc)
  have GG := Lib.hid (G1)
  clear G1
  replace S := Lib.hid (show GS w ((w3).setCell ⟨L, 1, none⟩ (.slice va n vc)) C g xs _ _ w.heap.size L #[.int .i64 1, .slice va n vc, .bool false, .bool false, .int .i64 0, .bool false, .int .i64 0, .int .u8 0] from (S.out.set 1 (.slice va n vc)))
  replace HO := Lib.hid (own_other HO.out GG.out HLB.out)
  generalize (w3).setCell ⟨L, 1, none⟩ (.slice va n vc) = w4 at *
  clear GG
  with_reducible refine (err_any w4 S.out.cur).mono ?_
  rintro e wq ⟨rfl, rfl⟩
  obtain ⟨c0, c1, c2, c3, c4, c5, c6, c7⟩ := cells8 S.out.ord
  obtain ⟨e0, e1, e2, e3, e4, e5, e6, e7⟩ := free8 S.out.ord
  obtain ⟨d0, d1, d2, d3, d4, d5, d6, d7⟩ := cells8 S.out.res
  obtain ⟨f0, f1, f2, f3, f4, f5, f6, f7⟩ := free8 S.out.res
  have SF := Lib.hid (S.out.fin (.int .i64 1) (.slice va n vc) (.bool false) (.bool false) (.int .i64 0) (.bool false) (.int .i64 0) (.int .u8 0))
  go_wp2_with fail
  clear c0 c1 c2 c3 c4 c5 c6 c7 e0 e1 e2 e3 e4 e5 e6 e7 d0 d1 d2 d3 d4 d5 d6 d7 f0 f1 f2 f3 f4 f5 f6 f7
  obtain ⟨wz, hz, s1, s2, s3, s4⟩ := SF.out
  rw [← hz]
  clear hz SF
  have S1 := Lib.hid s1
  clear s1
  refine bodyPost_ret (v := .agg #[.int .i64 1, .slice va n vc, .bool false, .bool false, .int .i64 0, .bool false, .int .i64 0, .int .u8 0]) (results_cell_row rfl _ _ w.heap.size 76 _ (0, 0) _ rfl S1.out Tryz.underlying76 rfl (by kernel_rfl)) rfl ?_
  exact ⟨va, vc, rfl, own_mono (own_other HO.out s4 (by have := HRL.out; have := HLB.out; omega)) (by have := HRL.out; have := HLB.out; omega), s2, s3⟩
set_option maxRecDepth 100000 in
set_option maxHeartbeats 4000000 in
theorem get_6 {C g at_ : Nat} {xs : List Nat} (z : Int) (w : World) (h : Cur w C g xs at_ .nilIface) (h8 : ∀ x ∈ xs, x < 256) (hx : xs.length < 1000000000) (hl : at_ < xs.length) (hk : kindB (xs.getD at_ 0) = 6) (hw : (Adr.aspec (xs.drop (at_ + 1)) z).2.1 = 0) (hl4 : at_ + 3 < xs.length) (x : Nat) (hxx : xs.getD (at_ + 3) 0 = x) (hc : char x = true) :
    Calls Tryz.prog 115 #[.pointer (some ⟨C, 0, none⟩), .int .i64 z] w fun e w' => e = .returned (.agg #[.int .i64 6, .slice none 0 0, .bool false, .bool false, .int .i64 0, .bool false, .int .i64 ((Adr.aspec (xs.drop (at_ + 1)) z).1 : Int), .int .u8 (x : Int)]) ∧ Cur w' C g xs (at_ + 4) .nilIface ∧ w.grownBy w' (some C) := by
  have HA := al_any w (.cells #[.int .i64 0, .slice none 0 0, .bool false, .bool false, .int .i64 0, .bool false, .int .i64 0, .int .u8 0] 76)
  have HU := Lib.hid (h.below HA)
  have HCG := Lib.hid (show C < w.heap.size ∧ g < w.heap.size from ⟨h.clt, h.glt⟩)
  have HW := Lib.hid (rfl : w.alloc (.cells #[.int .i64 0, .slice none 0 0, .bool false, .bool false, .int .i64 0, .bool false, .int .i64 0, .int .u8 0] 76) = w.alloc (.cells #[.int .i64 0, .slice none 0 0, .bool false, .bool false, .int .i64 0, .bool false, .int .i64 0, .int .u8 0] 76))
  have HWA := Lib.hid hw
  have TC := fun (W : World) (hu : Cur W C g xs (at_ + 3) .nilIface) => takeChar_ok W hu hx hl4 (byte_lt h8 (by decide) (at_ + 3)) (by rw [hxx]; exact hc)
  simp only [hxx] at TC
  have TC := Lib.hid TC
  have HK := Lib.hid (takeKind_order _ HU.out hx 6 hl (byte_lt h8 (by decide) at_) hk (by decide))
  clear h HA HW hk hw hc hxx
  go_enter Tryz.func115, Tryz.ntmps115
  go_wp2_with fail
  with_reducible refine HK.out.mono ?_
  rintro e w1 ⟨rfl, hu, hgr⟩
  have S := Lib.hid (gs_start #[.int .i64 6, .slice none 0 0, .bool false, .bool false, .int .i64 0, .bool false, .int .i64 0, .int .u8 0] (.inr HCG.out) hu hgr)
  clear hu hgr HK HU
  go_wp2_with fail
  generalize w1.heap.size = L at *
  generalize w1.alloc (.cells #[.int .i64 6, .slice none 0 0, .bool false, .bool false, .int .i64 0, .bool false, .int .i64 0, .int .u8 0] 76) = w2 at *
  with_reducible refine (addr_ok z w2 S.out.cur h8 hx HWA.out).mono ?_
  rintro e w3 ⟨rfl, hu, hgr⟩
  replace S := Lib.hid (S.out.call hu hgr)
  clear hu hgr
  obtain ⟨c0, c1, c2, c3, c4, c5, c6, c7⟩ := cells8 S.out.ord
  obtain ⟨e0, e1, e2, e3, e4, e5, e6, e7⟩ := free8 S.out.ord
  go_wp2_with fail
  clear c0 c1 c2 c3 c4 c5 c6 c7 e0 e1 e2 e3 e4 e5 e6 e7
  have G6 := gsetCell (w3) L 6 (.int .i64 ((Adr.aspec (xs.drop (at_ + 1)) z).1 : Int))
  have GG := Lib.hid (G6)
  clear G6
  replace S := Lib.hid (show GS w ((w3).setCell ⟨L, 6, none⟩ (.int .i64 ((Adr.aspec (xs.drop (at_ + 1)) z).1 : Int))) C g xs _ _ w.heap.size L #[.int .i64 6, .slice none 0 0, .bool false, .bool false, .int .i64 0, .bool false, .int .i64 ((Adr.aspec (xs.drop (at_ + 1)) z).1 : Int), .int .u8 0] from (S.out.set 6 (.int .i64 ((Adr.aspec (xs.drop (at_ + 1)) z).1 : Int))))
  generalize (w3).setCell ⟨L, 6, none⟩ (.int .i64 ((Adr.aspec (xs.drop (at_ + 1)) z).1 : Int)) = w4 at *
  clear GG
  with_reducible refine (TC.out w4 S.out.cur).mono ?_
  rintro e w5 ⟨rfl, hu, hgr⟩
  replace S := Lib.hid (S.out.call hu hgr)
  clear hu hgr
  obtain ⟨c0, c1, c2, c3, c4, c5, c6, c7⟩ := cells8 S.out.ord
  obtain ⟨e0, e1, e2, e3, e4, e5, e6, e7⟩ := free8 S.out.ord
  go_wp2_with fail
  clear c0 c1 c2 c3 c4 c5 c6 c7 e0 e1 e2 e3 e4 e5 e6 e7
  have G7 := gsetCell (w5) L 7 (.int .u8 (x : Int))
  have GG := Lib.hid (G7)
  clear G7
  replace S := Lib.hid (show GS w ((w5).setCell ⟨L, 7, none⟩ (.int .u8 (x : Int))) C g xs _ _ w.heap.size L #[.int .i64 6, .slice none 0 0, .bool false, .bool false, .int .i64 0, .bool false, .int .i64 ((Adr.aspec (xs.drop (at_ + 1)) z).1 : Int), .int .u8 (x : Int)] from (S.out.set 7 (.int .u8 (x : Int))))
  generalize (w5).setCell ⟨L, 7, none⟩ (.int .u8 (x : Int)) = w6 at *
  clear GG
  with_reducible refine (err_any w6 S.out.cur).mono ?_
  rintro e wq ⟨rfl, rfl⟩
  obtain ⟨c0, c1, c2, c3, c4, c5, c6, c7⟩ := cells8 S.out.ord
  obtain ⟨e0, e1, e2, e3, e4, e5, e6, e7⟩ := free8 S.out.ord
  obtain ⟨d0, d1, d2, d3, d4, d5, d6, d7⟩ := cells8 S.out.res
  obtain ⟨f0, f1, f2, f3, f4, f5, f6, f7⟩ := free8 S.out.res
  have SF := Lib.hid (S.out.fin (.int .i64 6) (.slice none 0 0) (.bool false) (.bool false) (.int .i64 0) (.bool false) (.int .i64 ((Adr.aspec (xs.drop (at_ + 1)) z).1 : Int)) (.int .u8 (x : Int)))
  go_wp2_with fail
  clear c0 c1 c2 c3 c4 c5 c6 c7 e0 e1 e2 e3 e4 e5 e6 e7 d0 d1 d2 d3 d4 d5 d6 d7 f0 f1 f2 f3 f4 f5 f6 f7
  obtain ⟨wz, hz, s1, s2, s3, s4⟩ := SF.out
  rw [← hz]
  clear hz SF
  have S1 := Lib.hid s1
  clear s1
  refine bodyPost_ret (v := .agg #[.int .i64 6, .slice none 0 0, .bool false, .bool false, .int .i64 0, .bool false, .int .i64 ((Adr.aspec (xs.drop (at_ + 1)) z).1 : Int), .int .u8 (x : Int)]) (results_cell_row rfl _ _ w.heap.size 76 _ (0, 0) _ rfl S1.out Tryz.underlying76 rfl (by kernel_rfl)) rfl ?_
  exact ⟨rfl, s2, s3⟩
set_option maxRecDepth 100000 in
set_option maxHeartbeats 4000000 in
theorem get_6_char {C g at_ : Nat} {xs : List Nat} (z : Int) (w : World) (h : Cur w C g xs at_ .nilIface) (h8 : ∀ x ∈ xs, x < 256) (hx : xs.length < 1000000000) (hl : at_ < xs.length) (hk : kindB (xs.getD at_ 0) = 6) (hw : (Adr.aspec (xs.drop (at_ + 1)) z).2.1 = 0) (hl4 : at_ + 3 < xs.length) (hc : char (xs.getD (at_ + 3) 0) = false) :
    Calls Tryz.prog 115 #[.pointer (some ⟨C, 0, none⟩), .int .i64 z] w fun e w' => e = .returned (.agg #[.int .i64 0, .slice none 0 0, .bool false, .bool false, .int .i64 0, .bool false, .int .i64 0, .int .u8 0]) ∧ ∃ ev, Cur w' C g xs (at_ + 3) ev ∧ Met w' ev 3 (at_ + 3) ∧ w.grownBy w' (some C) := by
  have HA := al_any w (.cells #[.int .i64 0, .slice none 0 0, .bool false, .bool false, .int .i64 0, .bool false, .int .i64 0, .int .u8 0] 76)
  have HU := Lib.hid (h.below HA)
  have HCG := Lib.hid (show C < w.heap.size ∧ g < w.heap.size from ⟨h.clt, h.glt⟩)
  have HW := Lib.hid (rfl : w.alloc (.cells #[.int .i64 0, .slice none 0 0, .bool false, .bool false, .int .i64 0, .bool false, .int .i64 0, .int .u8 0] 76) = w.alloc (.cells #[.int .i64 0, .slice none 0 0, .bool false, .bool false, .int .i64 0, .bool false, .int .i64 0, .int .u8 0] 76))
  have HWA := Lib.hid hw
  have HC := Lib.hid hc
  have HB8 := Lib.hid (byte_lt h8 (by decide) (at_ + 3))
  have HK := Lib.hid (takeKind_order _ HU.out hx 6 hl (byte_lt h8 (by decide) at_) hk (by decide))
  clear h HA HW hk hw hc
  go_enter Tryz.func115, Tryz.ntmps115
  go_wp2_with fail
  with_reducible refine HK.out.mono ?_
  rintro e w1 ⟨rfl, hu, hgr⟩
  have S := Lib.hid (gs_start #[.int .i64 6, .slice none 0 0, .bool false, .bool false, .int .i64 0, .bool false, .int .i64 0, .int .u8 0] (.inr HCG.out) hu hgr)
  clear hu hgr HK HU
  go_wp2_with fail
  generalize w1.heap.size = L at *
  generalize w1.alloc (.cells #[.int .i64 6, .slice none 0 0, .bool false, .bool false, .int .i64 0, .bool false, .int .i64 0, .int .u8 0] 76) = w2 at *
  with_reducible refine (addr_ok z w2 S.out.cur h8 hx HWA.out).mono ?_
  rintro e w3 ⟨rfl, hu, hgr⟩
  replace S := Lib.hid (S.out.call hu hgr)
  clear hu hgr
  obtain ⟨c0, c1, c2, c3, c4, c5, c6, c7⟩ := cells8 S.out.ord
  obtain ⟨e0, e1, e2, e3, e4, e5, e6, e7⟩ := free8 S.out.ord
  go_wp2_with fail
  clear c0 c1 c2 c3 c4 c5 c6 c7 e0 e1 e2 e3 e4 e5 e6 e7
  have G6 := gsetCell (w3) L 6 (.int .i64 ((Adr.aspec (xs.drop (at_ + 1)) z).1 : Int))
  have GG := Lib.hid (G6)
  clear G6
  replace S := Lib.hid (show GS w ((w3).setCell ⟨L, 6, none⟩ (.int .i64 ((Adr.aspec (xs.drop (at_ + 1)) z).1 : Int))) C g xs _ _ w.heap.size L #[.int .i64 6, .slice none 0 0, .bool false, .bool false, .int .i64 0, .bool false, .int .i64 ((Adr.aspec (xs.drop (at_ + 1)) z).1 : Int), .int .u8 0] from (S.out.set 6 (.int .i64 ((Adr.aspec (xs.drop (at_ + 1)) z).1 : Int))))
  generalize (w3).setCell ⟨L, 6, none⟩ (.int .i64 ((Adr.aspec (xs.drop (at_ + 1)) z).1 : Int)) = w4 at *
  clear GG
  with_reducible refine (takeChar_bad w4 S.out.cur hl4 HB8.out HC.out).mono ?_
  rintro e w5 ⟨rfl, ev, hu, hm, hgr⟩
  obtain ⟨b, rfl, hm⟩ := hm
  have M := Lib.hid (show Met w5 _ _ _ from ⟨b, rfl, hm⟩)
  replace S := Lib.hid (S.out.call hu hgr)
  clear hu hgr hm
  obtain ⟨c0, c1, c2, c3, c4, c5, c6, c7⟩ := cells8 S.out.ord
  obtain ⟨e0, e1, e2, e3, e4, e5, e6, e7⟩ := free8 S.out.ord
  go_wp2_with fail
  clear c0 c1 c2 c3 c4 c5 c6 c7 e0 e1 e2 e3 e4 e5 e6 e7
  have G7 := gsetCell (w5) L 7 (.int .u8 0)
  have GG := Lib.hid (G7)
  clear G7
  replace M := Lib.hid (S.out.metL M.out GG.out)
  replace S := Lib.hid (show GS w ((w5).setCell ⟨L, 7, none⟩ (.int .u8 0)) C g xs _ _ w.heap.size L #[.int .i64 6, .slice none 0 0, .bool false, .bool false, .int .i64 0, .bool false, .int .i64 ((Adr.aspec (xs.drop (at_ + 1)) z).1 : Int), .int .u8 0] from (S.out.set 7 (.int .u8 0)))
  generalize (w5).setCell ⟨L, 7, none⟩ (.int .u8 0) = w6 at *
  clear GG
  with_reducible refine (err_any w6 S.out.cur).mono ?_
  rintro e wq ⟨rfl, rfl⟩
  obtain ⟨c0, c1, c2, c3, c4, c5, c6, c7⟩ := cells8 S.out.ord
  obtain ⟨e0, e1, e2, e3, e4, e5, e6, e7⟩ := free8 S.out.ord
  obtain ⟨d0, d1, d2, d3, d4, d5, d6, d7⟩ := cells8 S.out.res
  obtain ⟨f0, f1, f2, f3, f4, f5, f6, f7⟩ := free8 S.out.res
  have SF := Lib.hid (S.out.fin (.int .i64 0) (.slice none 0 0) (.bool false) (.bool false) (.int .i64 0) (.bool false) (.int .i64 0) (.int .u8 0))
  go_wp2_with fail
  clear c0 c1 c2 c3 c4 c5 c6 c7 e0 e1 e2 e3 e4 e5 e6 e7 d0 d1 d2 d3 d4 d5 d6 d7 f0 f1 f2 f3 f4 f5 f6 f7
  obtain ⟨wz, hz, s1, s2, s3, s4⟩ := SF.out
  rw [← hz]
  clear hz SF
  have S1 := Lib.hid s1
  clear s1
  refine bodyPost_ret (v := .agg #[.int .i64 0, .slice none 0 0, .bool false, .bool false, .int .i64 0, .bool false, .int .i64 0, .int .u8 0]) (results_cell_row rfl _ _ w.heap.size 76 _ (0, 0) _ rfl S1.out Tryz.underlying76 rfl (by kernel_rfl)) rfl ?_
  exact ⟨rfl, _, s2, S.out.met M.out s4, s3⟩
set_option maxRecDepth 100000 in
set_option maxHeartbeats 4000000 in
theorem get_6_none {C g at_ : Nat} {xs : List Nat} (z : Int) (w : World) (h : Cur w C g xs at_ .nilIface) (h8 : ∀ x ∈ xs, x < 256) (hx : xs.length < 1000000000) (hl : at_ < xs.length) (hk : kindB (xs.getD at_ 0) = 6) (hw : (Adr.aspec (xs.drop (at_ + 1)) z).2.1 = 0) (hl4 : xs.length ≤ at_ + 3) :
    Calls Tryz.prog 115 #[.pointer (some ⟨C, 0, none⟩), .int .i64 z] w fun e w' => e = .returned (.agg #[.int .i64 0, .slice none 0 0, .bool false, .bool false, .int .i64 0, .bool false, .int .i64 0, .int .u8 0]) ∧ ∃ ev, Cur w' C g xs (at_ + 3) ev ∧ Met w' ev 2 (at_ + 3) ∧ w.grownBy w' (some C) := by
  have HA := al_any w (.cells #[.int .i64 0, .slice none 0 0, .bool false, .bool false, .int .i64 0, .bool false, .int .i64 0, .int .u8 0] 76)
  have HU := Lib.hid (h.below HA)
  have HCG := Lib.hid (show C < w.heap.size ∧ g < w.heap.size from ⟨h.clt, h.glt⟩)
  have HW := Lib.hid (rfl : w.alloc (.cells #[.int .i64 0, .slice none 0 0, .bool false, .bool false, .int .i64 0, .bool false, .int .i64 0, .int .u8 0] 76) = w.alloc (.cells #[.int .i64 0, .slice none 0 0, .bool false, .bool false, .int .i64 0, .bool false, .int .i64 0, .int .u8 0] 76))
  have HWA := Lib.hid hw
  have HK := Lib.hid (takeKind_order _ HU.out hx 6 hl (byte_lt h8 (by decide) at_) hk (by decide))
  clear h HA HW hk hw
  go_enter Tryz.func115, Tryz.ntmps115
  go_wp2_with fail
  with_reducible refine HK.out.mono ?_
  rintro e w1 ⟨rfl, hu, hgr⟩
  have S := Lib.hid (gs_start #[.int .i64 6, .slice none 0 0, .bool false, .bool false, .int .i64 0, .bool false, .int .i64 0, .int .u8 0] (.inr HCG.out) hu hgr)
  clear hu hgr HK HU
  go_wp2_with fail
  generalize w1.heap.size = L at *
  generalize w1.alloc (.cells #[.int .i64 6, .slice none 0 0, .bool false, .bool false, .int .i64 0, .bool false, .int .i64 0, .int .u8 0] 76) = w2 at *
  with_reducible refine (addr_ok z w2 S.out.cur h8 hx HWA.out).mono ?_
  rintro e w3 ⟨rfl, hu, hgr⟩
  replace S := Lib.hid (S.out.call hu hgr)
  clear hu hgr
  obtain ⟨c0, c1, c2, c3, c4, c5, c6, c7⟩ := cells8 S.out.ord
  obtain ⟨e0, e1, e2, e3, e4, e5, e6, e7⟩ := free8 S.out.ord
  go_wp2_with fail
  clear c0 c1 c2 c3 c4 c5 c6 c7 e0 e1 e2 e3 e4 e5 e6 e7
  have G6 := gsetCell (w3) L 6 (.int .i64 ((Adr.aspec (xs.drop (at_ + 1)) z).1 : Int))
  have GG := Lib.hid (G6)
  clear G6
  replace S := Lib.hid (show GS w ((w3).setCell ⟨L, 6, none⟩ (.int .i64 ((Adr.aspec (xs.drop (at_ + 1)) z).1 : Int))) C g xs _ _ w.heap.size L #[.int .i64 6, .slice none 0 0, .bool false, .bool false, .int .i64 0, .bool false, .int .i64 ((Adr.aspec (xs.drop (at_ + 1)) z).1 : Int), .int .u8 0] from (S.out.set 6 (.int .i64 ((Adr.aspec (xs.drop (at_ + 1)) z).1 : Int))))
  generalize (w3).setCell ⟨L, 6, none⟩ (.int .i64 ((Adr.aspec (xs.drop (at_ + 1)) z).1 : Int)) = w4 at *
  clear GG
  with_reducible refine (takeChar_none w4 S.out.cur hl4).mono ?_
  rintro e w5 ⟨rfl, ev, hu, hm, hgr⟩
  obtain ⟨b, rfl, hm⟩ := hm
  have M := Lib.hid (show Met w5 _ _ _ from ⟨b, rfl, hm⟩)
  replace S := Lib.hid (S.out.call hu hgr)
  clear hu hgr hm
  obtain ⟨c0, c1, c2, c3, c4, c5, c6, c7⟩ := cells8 S.out.ord
  obtain ⟨e0, e1, e2, e3, e4, e5, e6, e7⟩ := free8 S.out.ord
  go_wp2_with fail
  clear c0 c1 c2 c3 c4 c5 c6 c7 e0 e1 e2 e3 e4 e5 e6 e7
  have G7 := gsetCell (w5) L 7 (.int .u8 0)
  have GG := Lib.hid (G7)
  clear G7
  replace M := Lib.hid (S.out.metL M.out GG.out)
  replace S := Lib.hid (show GS w ((w5).setCell ⟨L, 7, none⟩ (.int .u8 0)) C g xs _ _ w.heap.size L #[.int .i64 6, .slice none 0 0, .bool false, .bool false, .int .i64 0, .bool false, .int .i64 ((Adr.aspec (xs.drop (at_ + 1)) z).1 : Int), .int .u8 0] from (S.out.set 7 (.int .u8 0)))
  generalize (w5).setCell ⟨L, 7, none⟩ (.int .u8 0) = w6 at *
  clear GG
  with_reducible refine (err_any w6 S.out.cur).mono ?_
  rintro e wq ⟨rfl, rfl⟩
  obtain ⟨c0, c1, c2, c3, c4, c5, c6, c7⟩ := cells8 S.out.ord
  obtain ⟨e0, e1, e2, e3, e4, e5, e6, e7⟩ := free8 S.out.ord
  obtain ⟨d0, d1, d2, d3, d4, d5, d6, d7⟩ := cells8 S.out.res
  obtain ⟨f0, f1, f2, f3, f4, f5, f6, f7⟩ := free8 S.out.res
  have SF := Lib.hid (S.out.fin (.int .i64 0) (.slice none 0 0) (.bool false) (.bool false) (.int .i64 0) (.bool false) (.int .i64 0) (.int .u8 0))
  go_wp2_with fail
  clear c0 c1 c2 c3 c4 c5 c6 c7 e0 e1 e2 e3 e4 e5 e6 e7 d0 d1 d2 d3 d4 d5 d6 d7 f0 f1 f2 f3 f4 f5 f6 f7
  obtain ⟨wz, hz, s1, s2, s3, s4⟩ := SF.out
  rw [← hz]
  clear hz SF
  have S1 := Lib.hid s1
  clear s1
  refine bodyPost_ret (v := .agg #[.int .i64 0, .slice none 0 0, .bool false, .bool false, .int .i64 0, .bool false, .int .i64 0, .int .u8 0]) (results_cell_row rfl _ _ w.heap.size 76 _ (0, 0) _ rfl S1.out Tryz.underlying76 rfl (by kernel_rfl)) rfl ?_
  exact ⟨rfl, _, s2, S.out.met M.out s4, s3⟩
set_option maxRecDepth 100000 in
set_option maxHeartbeats 4000000 in
theorem get_6_bad {C g at_ : Nat} {xs : List Nat} (z : Int) (w : World) (h : Cur w C g xs at_ .nilIface) (h8 : ∀ x ∈ xs, x < 256) (hx : xs.length < 1000000000) (hl : at_ < xs.length) (hk : kindB (xs.getD at_ 0) = 6) (hw : (Adr.aspec (xs.drop (at_ + 1)) z).2.1 ≠ 0) :
    Calls Tryz.prog 115 #[.pointer (some ⟨C, 0, none⟩), .int .i64 z] w fun e w' => e = .returned (.agg #[.int .i64 0, .slice none 0 0, .bool false, .bool false, .int .i64 0, .bool false, .int .i64 0, .int .u8 0]) ∧ ∃ ev, Cur w' C g xs (at_ + 1) ev ∧ Met w' ev ((Adr.aspec (xs.drop (at_ + 1)) z).2.1 : Int) (at_ + 1) ∧ w.grownBy w' (some C) := by
  have HA := al_any w (.cells #[.int .i64 0, .slice none 0 0, .bool false, .bool false, .int .i64 0, .bool false, .int .i64 0, .int .u8 0] 76)
  have HU := Lib.hid (h.below HA)
  have HCG := Lib.hid (show C < w.heap.size ∧ g < w.heap.size from ⟨h.clt, h.glt⟩)
  have HW := Lib.hid (rfl : w.alloc (.cells #[.int .i64 0, .slice none 0 0, .bool false, .bool false, .int .i64 0, .bool false, .int .i64 0, .int .u8 0] 76) = w.alloc (.cells #[.int .i64 0, .slice none 0 0, .bool false, .bool false, .int .i64 0, .bool false, .int .i64 0, .int .u8 0] 76))
  have HWA := Lib.hid hw
  have HK := Lib.hid (takeKind_order _ HU.out hx 6 hl (byte_lt h8 (by decide) at_) hk (by decide))
  clear h HA HW hk hw
  go_enter Tryz.func115, Tryz.ntmps115
  go_wp2_with fail
  with_reducible refine HK.out.mono ?_
  rintro e w1 ⟨rfl, hu, hgr⟩
  have S := Lib.hid (gs_start #[.int .i64 6, .slice none 0 0, .bool false, .bool false, .int .i64 0, .bool false, .int .i64 0, .int .u8 0] (.inr HCG.out) hu hgr)
  clear hu hgr HK HU
  go_wp2_with fail
  generalize w1.heap.size = L at *
  generalize w1.alloc (.cells #[.int .i64 6, .slice none 0 0, .bool false, .bool false, .int .i64 0, .bool false, .int .i64 0, .int .u8 0] 76) = w2 at *
  with_reducible refine (addr_bad z w2 S.out.cur h8 HWA.out).mono ?_
  rintro e w3 ⟨rfl, ev, hu, hm, hgr⟩
  obtain ⟨b, rfl, hm⟩ := hm
  have M := Lib.hid (show Met w3 _ _ _ from ⟨b, rfl, hm⟩)
  replace S := Lib.hid (S.out.call hu hgr)
  clear hu hgr hm
  obtain ⟨c0, c1, c2, c3, c4, c5, c6, c7⟩ := cells8 S.out.ord
  obtain ⟨e0, e1, e2, e3, e4, e5, e6, e7⟩ := free8 S.out.ord
  go_wp2_with fail
  clear c0 c1 c2 c3 c4 c5 c6 c7 e0 e1 e2 e3 e4 e5 e6 e7
  have G6 := gsetCell (w3) L 6 (.int .i64 0)
  have GG := Lib.hid (G6)
  clear G6
  replace M := Lib.hid (S.out.metL M.out GG.out)
  replace S := Lib.hid (show GS w ((w3).setCell ⟨L, 6, none⟩ (.int .i64 0)) C g xs _ _ w.heap.size L #[.int .i64 6, .slice none 0 0, .bool false, .bool false, .int .i64 0, .bool false, .int .i64 0, .int .u8 0] from (S.out.set 6 (.int .i64 0)))
  generalize (w3).setCell ⟨L, 6, none⟩ (.int .i64 0) = w4 at *
  clear GG
  with_reducible refine (takeChar_met w4 S.out.cur).mono ?_
  rintro e w5 ⟨rfl, rfl⟩
  obtain ⟨c0, c1, c2, c3, c4, c5, c6, c7⟩ := cells8 S.out.ord
  obtain ⟨e0, e1, e2, e3, e4, e5, e6, e7⟩ := free8 S.out.ord
  go_wp2_with fail
  clear c0 c1 c2 c3 c4 c5 c6 c7 e0 e1 e2 e3 e4 e5 e6 e7
  have G7 := gsetCell (w4) L 7 (.int .u8 0)
  have GG := Lib.hid (G7)
  clear G7
  replace M := Lib.hid (S.out.metL M.out GG.out)
  replace S := Lib.hid (show GS w ((w4).setCell ⟨L, 7, none⟩ (.int .u8 0)) C g xs _ _ w.heap.size L #[.int .i64 6, .slice none 0 0, .bool false, .bool false, .int .i64 0, .bool false, .int .i64 0, .int .u8 0] from (S.out.set 7 (.int .u8 0)))
  generalize (w4).setCell ⟨L, 7, none⟩ (.int .u8 0) = w5 at *
  clear GG
  with_reducible refine (err_any w5 S.out.cur).mono ?_
  rintro e wq ⟨rfl, rfl⟩
  obtain ⟨c0, c1, c2, c3, c4, c5, c6, c7⟩ := cells8 S.out.ord
  obtain ⟨e0, e1, e2, e3, e4, e5, e6, e7⟩ := free8 S.out.ord
  obtain ⟨d0, d1, d2, d3, d4, d5, d6, d7⟩ := cells8 S.out.res
  obtain ⟨f0, f1, f2, f3, f4, f5, f6, f7⟩ := free8 S.out.res
  have SF := Lib.hid (S.out.fin (.int .i64 0) (.slice none 0 0) (.bool false) (.bool false) (.int .i64 0) (.bool false) (.int .i64 0) (.int .u8 0))
  go_wp2_with fail
  clear c0 c1 c2 c3 c4 c5 c6 c7 e0 e1 e2 e3 e4 e5 e6 e7 d0 d1 d2 d3 d4 d5 d6 d7 f0 f1 f2 f3 f4 f5 f6 f7
  obtain ⟨wz, hz, s1, s2, s3, s4⟩ := SF.out
  rw [← hz]
  clear hz SF
  have S1 := Lib.hid s1
  clear s1
  refine bodyPost_ret (v := .agg #[.int .i64 0, .slice none 0 0, .bool false, .bool false, .int .i64 0, .bool false, .int .i64 0, .int .u8 0]) (results_cell_row rfl _ _ w.heap.size 76 _ (0, 0) _ rfl S1.out Tryz.underlying76 rfl (by kernel_rfl)) rfl ?_
  exact ⟨rfl, _, s2, S.out.met M.out s4, s3⟩
end Ord
end Go.Proofs.YtpdlpmbjhopnnaaGreatDoor
/- Get of package order, of whatever bytes: the plain function. -/
namespace Go.Proofs.YtpdlpmbjhopnnaaGreatDoor
open Go.RowKit Sha Cut Err Six Att Byt
namespace Ord
theorem drop_cons {xs : List Nat} {k : Nat} (h : k < xs.length) : xs.drop k = xs.getD k 0 :: xs.drop (k + 1) := by
  rw [List.drop_eq_getElem_cons h, List.getD_eq_getElem?_getD, List.getElem?_eq_getElem h]; rfl
theorem drop_none {xs : List Nat} {k : Nat} (h : ¬ k < xs.length) : xs.drop k = [] := List.drop_eq_nil_of_le (by omega)
theorem kinds : ∀ b, b < 256 → (kindB b = 0 ∧ char b = false ∧ b ≠ 19 ∧ b ≠ 5 ∧ b ≠ 29 ∧ b ≠ 17 ∧ b ≠ 18 ∧ b ≠ 60) ∨ (kindB b = 1 ∧ char b = true) ∨ (kindB b = 2 ∧ b = 29) ∨ (kindB b = 3 ∧ b = 17) ∨ (kindB b = 4 ∧ b = 19) ∨ (kindB b = 5 ∧ b = 5) ∨ (kindB b = 6 ∧ b = 60) ∨ (kindB b = 7 ∧ b = 18) := by decide +kernel
theorem take_crun (ys : List Nat) : ys.take (Byt.crun ys) = ys.takeWhile char := by
  induction ys with
  | nil => rfl
  | cons y ys ih =>
    cases hy : char y with
    | true =>
      have e : Byt.crun (y :: ys) = Byt.crun ys + 1 := by simp [Byt.crun, List.takeWhile, hy]
      rw [e, List.take_succ_cons, ih]; simp [List.takeWhile, hy]
    | false => simp [Byt.crun, List.takeWhile, hy]
theorem oget_char {b : Nat} {r : List Nat} {z : Nat} (h : char b = true) : oget (b :: r) z = (⟨1, (b :: r).takeWhile char, false, false, 0, false, 0, 0⟩, ((b :: r).takeWhile char).length, 0) := by
  show (if char b then _ else _) = _
  rw [if_pos h]
theorem oget_strange {b : Nat} {r : List Nat} {z : Nat} (h : char b = false) (h1 : b ≠ 19) (h2 : b ≠ 5) (h3 : b ≠ 29) (h4 : b ≠ 17) (h5 : b ≠ 18) (h6 : b ≠ 60) : oget (b :: r) z = (none_, 0, 5) := by
  simp [oget, h, h1, h2, h3, h4, h5, h6]
theorem oget_4 (r : List Nat) (z : Nat) : oget (19 :: r) z = (⟨4, [], false, false, 0, false, 0, 0⟩, 1, 0) := by
  have c0 : char 19 = false := by decide
  simp [oget, c0]
theorem oget_5 (r : List Nat) (z : Nat) : oget (5 :: r) z = (⟨5, [], false, false, 0, false, 0, 0⟩, 1, 0) := by
  have c0 : char 5 = false := by decide
  simp [oget, c0]
theorem oget_2_none (z : Nat) : oget [29] z = (none_, 1, 2) := by
  have c0 : char 29 = false := by decide
  simp [oget, c0]
theorem oget_2_bad (x : Nat) (r : List Nat) (z : Nat) (h : noAttr x = true) : oget (29 :: x :: r) z = (none_, 1, 3) := by
  have c0 : char 29 = false := by decide
  simp [oget, c0, h]
theorem oget_2 (p n m : Bool) (s : Nat) (hs : s < 4) (r : List Nat) (z : Nat) : oget (29 :: put (num p n m s) :: r) z = (⟨2, [], p, n, (s : Int), m, 0, 0⟩, 2, 0) := by
  have hn := num_lt p n m s hs
  have e1 : noAttr (put (num p n m s)) = false := by
    unfold noAttr
    rw [graphic_put _ hn, put_low _ hn]
    cases p <;> cases n <;> cases m <;> simp [num, bit] <;> omega
  have c0 : char 29 = false := by decide
  simp [oget, c0, e1, put_low _ hn]
  cases p <;> cases n <;> cases m <;> simp [num, bit] <;> omega
theorem oget_3 (r : List Nat) (z : Nat) : oget (17 :: r) z = if (Adr.aspec r z).2.1 = 0 then (⟨3, [], false, false, 0, false, (Adr.aspec r z).1, 0⟩, 3, 0) else (none_, 1, (Adr.aspec r z).2.1) := by
  have c0 : char 17 = false := by decide
  simp [oget, c0]
theorem oget_7 (r : List Nat) (z : Nat) : oget (18 :: r) z = if (Adr.aspec r z).2.1 = 0 then (⟨7, [], false, false, 0, false, (Adr.aspec r z).1, 0⟩, 3, 0) else (none_, 1, (Adr.aspec r z).2.1) := by
  have c0 : char 18 = false := by decide
  simp [oget, c0]
theorem oget_6_bad (r : List Nat) (z : Nat) (h : (Adr.aspec r z).2.1 ≠ 0) : oget (60 :: r) z = (none_, 1, (Adr.aspec r z).2.1) := by
  have c0 : char 60 = false := by decide
  simp [oget, c0, h]
theorem oget_6_none (r : List Nat) (z : Nat) (h : (Adr.aspec r z).2.1 = 0) (h2 : r.drop 2 = []) : oget (60 :: r) z = (none_, 3, 2) := by
  have c0 : char 60 = false := by decide
  simp only [oget, c0, h, h2]
  simp
theorem oget_6_cons (r : List Nat) (z c : Nat) (r' : List Nat) (h : (Adr.aspec r z).2.1 = 0) (h2 : r.drop 2 = c :: r') : oget (60 :: r) z = if char c then (⟨6, [], false, false, 0, false, (Adr.aspec r z).1, c⟩, 4, 0) else (none_, 3, 3) := by
  have c0 : char 60 = false := by decide
  simp only [oget, c0, h, h2]
  simp
theorem own_none (w : World) (b : Nat) : w.ownsRow b 5 1 (.slice none 0 0) 0 (u8s []) := World.ownsRow_nil _ _ _ _
/-- Get of bytes that are an order. -/
theorem get_right {C g at_ : Nat} {xs : List Nat} (z : Nat) (w : World) (h : Cur w C g xs at_ .nilIface) (h8 : ∀ x ∈ xs, x < 256) (hx : xs.length < 1000000000) (hw : (oget (xs.drop at_) z).2.2 = 0) :
    Calls Tryz.prog 115 #[.pointer (some ⟨C, 0, none⟩), .int .i64 (z : Int)] w fun e w' => ∃ va n vc, e = .returned (.agg #[.int .i64 (oget (xs.drop at_) z).1.k, .slice va n vc, .bool (oget (xs.drop at_) z).1.p, .bool (oget (xs.drop at_) z).1.n, .int .i64 (oget (xs.drop at_) z).1.s, .bool (oget (xs.drop at_) z).1.m, .int .i64 (oget (xs.drop at_) z).1.a, .int .u8 ((oget (xs.drop at_) z).1.c : Int)]) ∧
      w'.ownsRow w.heap.size 5 1 (.slice va n vc) n (u8s (oget (xs.drop at_) z).1.t) ∧ Cur w' C g xs (at_ + (oget (xs.drop at_) z).2.1) .nilIface ∧ w.grownBy w' (some C) := by
  by_cases hl : at_ < xs.length
  · have hb := byte_lt h8 (by decide) at_
    have hd := drop_cons hl
    rcases kinds _ hb with ⟨hk, h0, h1, h2, h3, h4, h5, h6⟩ | ⟨hk, h0⟩ | ⟨hk, h0⟩ | ⟨hk, h0⟩ | ⟨hk, h0⟩ | ⟨hk, h0⟩ | ⟨hk, h0⟩ | ⟨hk, h0⟩
    · rw [hd, oget_strange h0 h1 h2 h3 h4 h5 h6] at hw; cases hw
    · have e : oget (xs.drop at_) z = (⟨1, (xs.drop at_).takeWhile char, false, false, 0, false, 0, 0⟩, ((xs.drop at_).takeWhile char).length, 0) := by
        rw [hd]; exact oget_char h0
      rw [e]
      exact (get_1 z w h h8 hx hl hk _ _ rfl (take_crun _)).mono fun e w' ⟨va, vc, he, ho, hu, hg⟩ => ⟨va, _, vc, he, ho, hu, hg⟩
    · rw [hd, h0] at hw
      by_cases hl2 : at_ + 1 < xs.length
      · have hd2 := drop_cons hl2
        have hb2 := byte_lt h8 (by decide) (at_ + 1)
        rw [hd2] at hw
        cases hn : noAttr (xs.getD (at_ + 1) 0) with
        | true => rw [oget_2_bad _ _ _ hn] at hw; cases hw
        | false =>
          obtain ⟨p, n, m, s, hs, hp⟩ := attr_cases _ hb2 hn
          have e : oget (xs.drop at_) z = (⟨2, [], p, n, (s : Int), m, 0, 0⟩, 2, 0) := by
            rw [hd, h0, hd2, hp]; exact oget_2 p n m s hs _ _
          rw [e]
          exact (get_2 z w h h8 hx hl hk hl2 p n m s hs hp).mono fun e w' ⟨he, hu, hg⟩ => ⟨none, 0, 0, he, own_none _ _, hu, hg⟩
      · rw [drop_none hl2, oget_2_none] at hw; cases hw
    · have e := oget_3 (xs.drop (at_ + 1)) z
      rw [← h0, ← hd] at e
      rw [e] at hw ⊢
      by_cases ha : (Adr.aspec (xs.drop (at_ + 1)) z).2.1 = 0
      · rw [if_pos ha]
        exact (get_3 z w h h8 hx hl hk ha).mono fun e w' ⟨he, hu, hg⟩ => ⟨none, 0, 0, he, own_none _ _, hu, hg⟩
      · rw [if_neg ha] at hw; exact absurd hw ha
    · have e := oget_4 (xs.drop (at_ + 1)) z
      rw [← h0, ← hd] at e
      rw [e]
      exact (get_4 z w h h8 hx hl hk).mono fun e w' ⟨he, hu, hg⟩ => ⟨none, 0, 0, he, own_none _ _, hu, hg⟩
    · have e := oget_5 (xs.drop (at_ + 1)) z
      rw [show (5 : Nat) :: xs.drop (at_ + 1) = xs.drop at_ by rw [hd, h0]] at e
      rw [e]
      exact (get_5 z w h h8 hx hl hk).mono fun e w' ⟨he, hu, hg⟩ => ⟨none, 0, 0, he, own_none _ _, hu, hg⟩
    · have e : xs.drop at_ = 60 :: xs.drop (at_ + 1) := by rw [hd, h0]
      by_cases ha : (Adr.aspec (xs.drop (at_ + 1)) z).2.1 = 0
      · by_cases hl4 : at_ + 3 < xs.length
        · have hd4 : (xs.drop (at_ + 1)).drop 2 = xs.getD (at_ + 3) 0 :: xs.drop (at_ + 4) := by rw [List.drop_drop, show at_ + 1 + 2 = at_ + 3 by omega]; exact drop_cons hl4
          have e2 := oget_6_cons (xs.drop (at_ + 1)) z _ _ ha hd4
          rw [← e] at e2
          rw [e2] at hw ⊢
          cases hc : char (xs.getD (at_ + 3) 0) with
          | false => rw [hc] at hw; cases hw
          | true =>
            rw [if_pos rfl]
            exact (get_6 z w h h8 hx hl hk ha hl4 _ rfl hc).mono fun e w' ⟨he, hu, hg⟩ => ⟨none, 0, 0, he, own_none _ _, hu, hg⟩
        · have hd4 : (xs.drop (at_ + 1)).drop 2 = [] := by rw [List.drop_drop]; exact drop_none (by omega)
          rw [e, oget_6_none _ _ ha hd4] at hw; cases hw
      · rw [e, oget_6_bad _ _ ha] at hw; exact absurd hw ha
    · have e := oget_7 (xs.drop (at_ + 1)) z
      rw [← h0, ← hd] at e
      rw [e] at hw ⊢
      by_cases ha : (Adr.aspec (xs.drop (at_ + 1)) z).2.1 = 0
      · rw [if_pos ha]
        exact (get_7 z w h h8 hx hl hk ha).mono fun e w' ⟨he, hu, hg⟩ => ⟨none, 0, 0, he, own_none _ _, hu, hg⟩
      · rw [if_neg ha] at hw; exact absurd hw ha
  · rw [drop_none hl] at hw; cases hw
/-- Get of bytes that are none. -/
theorem get_wrong {C g at_ : Nat} {xs : List Nat} (z : Nat) (w : World) (h : Cur w C g xs at_ .nilIface) (h8 : ∀ x ∈ xs, x < 256) (hx : xs.length < 1000000000) (hw : (oget (xs.drop at_) z).2.2 ≠ 0) :
    Calls Tryz.prog 115 #[.pointer (some ⟨C, 0, none⟩), .int .i64 (z : Int)] w fun e w' => e = .returned (.agg #[.int .i64 0, .slice none 0 0, .bool false, .bool false, .int .i64 0, .bool false, .int .i64 0, .int .u8 0]) ∧
      ∃ ev, Cur w' C g xs (at_ + (oget (xs.drop at_) z).2.1) ev ∧ Met w' ev ((oget (xs.drop at_) z).2.2 : Int) (at_ + (oget (xs.drop at_) z).2.1) ∧ w.grownBy w' (some C) := by
  by_cases hl : at_ < xs.length
  · have hb := byte_lt h8 (by decide) at_
    have hd := drop_cons hl
    rcases kinds _ hb with ⟨hk, h0, h1, h2, h3, h4, h5, h6⟩ | ⟨hk, h0⟩ | ⟨hk, h0⟩ | ⟨hk, h0⟩ | ⟨hk, h0⟩ | ⟨hk, h0⟩ | ⟨hk, h0⟩ | ⟨hk, h0⟩
    · have e : oget (xs.drop at_) z = (none_, 0, 5) := by rw [hd]; exact oget_strange h0 h1 h2 h3 h4 h5 h6
      rw [e]
      exact get_strange z w h h8 hl hk
    · rw [hd, oget_char h0] at hw; exact absurd rfl hw
    · rw [hd, h0] at hw
      by_cases hl2 : at_ + 1 < xs.length
      · have hd2 := drop_cons hl2
        have hb2 := byte_lt h8 (by decide) (at_ + 1)
        rw [hd2] at hw
        cases hn : noAttr (xs.getD (at_ + 1) 0) with
        | true =>
          have e : oget (xs.drop at_) z = (none_, 1, 3) := by rw [hd, h0, hd2]; exact oget_2_bad _ _ _ hn
          rw [e]
          exact get_2_bad z w h h8 hx hl hk hl2 hn
        | false =>
          obtain ⟨p, n, m, s, hs, hp⟩ := attr_cases _ hb2 hn
          rw [hp, oget_2 p n m s hs] at hw; exact absurd rfl hw
      · have e : oget (xs.drop at_) z = (none_, 1, 2) := by rw [hd, h0, drop_none hl2]; exact oget_2_none _
        rw [e]
        exact get_2_none z w h h8 hx hl hk (by omega)
    · have e := oget_3 (xs.drop (at_ + 1)) z
      rw [← h0, ← hd] at e
      rw [e] at hw ⊢
      by_cases ha : (Adr.aspec (xs.drop (at_ + 1)) z).2.1 = 0
      · rw [if_pos ha] at hw; exact absurd rfl hw
      · rw [if_neg ha]
        exact get_3_bad z w h h8 hx hl hk ha
    · have e := oget_4 (xs.drop (at_ + 1)) z
      rw [← h0, ← hd] at e
      rw [e] at hw
      exact absurd rfl hw
    · have e := oget_5 (xs.drop (at_ + 1)) z
      rw [show (5 : Nat) :: xs.drop (at_ + 1) = xs.drop at_ by rw [hd, h0]] at e
      rw [e] at hw
      exact absurd rfl hw
    · have e : xs.drop at_ = 60 :: xs.drop (at_ + 1) := by rw [hd, h0]
      by_cases ha : (Adr.aspec (xs.drop (at_ + 1)) z).2.1 = 0
      · by_cases hl4 : at_ + 3 < xs.length
        · have hd4 : (xs.drop (at_ + 1)).drop 2 = xs.getD (at_ + 3) 0 :: xs.drop (at_ + 4) := by rw [List.drop_drop, show at_ + 1 + 2 = at_ + 3 by omega]; exact drop_cons hl4
          have e2 := oget_6_cons (xs.drop (at_ + 1)) z _ _ ha hd4
          rw [← e] at e2
          rw [e2] at hw ⊢
          cases hc : char (xs.getD (at_ + 3) 0) with
          | true => rw [hc] at hw; exact absurd rfl hw
          | false =>
            rw [if_neg (by decide)]
            exact get_6_char z w h h8 hx hl hk ha hl4 hc
        · have hd4 : (xs.drop (at_ + 1)).drop 2 = [] := by rw [List.drop_drop]; exact drop_none (by omega)
          have e2 : oget (xs.drop at_) z = (none_, 3, 2) := by rw [e]; exact oget_6_none _ _ ha hd4
          rw [e2]
          exact get_6_none z w h h8 hx hl hk ha (by omega)
      · have e2 : oget (xs.drop at_) z = (none_, 1, (Adr.aspec (xs.drop (at_ + 1)) z).2.1) := by rw [e]; exact oget_6_bad _ _ ha
        rw [e2]
        exact get_6_bad z w h h8 hx hl hk ha
    · have e := oget_7 (xs.drop (at_ + 1)) z
      rw [← h0, ← hd] at e
      rw [e] at hw ⊢
      by_cases ha : (Adr.aspec (xs.drop (at_ + 1)) z).2.1 = 0
      · rw [if_pos ha] at hw; exact absurd rfl hw
      · rw [if_neg ha]
        exact get_7_bad z w h h8 hx hl hk ha
  · have e : oget (xs.drop at_) z = (none_, 0, 2) := by rw [drop_none hl]; rfl
    rw [e]
    exact get_none z w h (by omega)
end Ord
end Go.Proofs.YtpdlpmbjhopnnaaGreatDoor
