/- Sizes of package addr: the functions that reading needs. -/
import Derived.Test.YtllpmgddcpgegaaDoorSixGet
import Derived.Test.YtllpmgddcpgegaaDoorErrForm
import Derived.Laws.ResultCell
import Derived.OwnWalk
import Derived.Laws.Rows
namespace Go.Proofs.YtllpmgddcpgegaaDoor
open Go.RowKit Err Six
namespace Adr
theorem ret_bool {a b : Bool} (h : a = b) : Ending.returned (.bool a) = .returned (.bool b) := by rw [h]
theorem results_cell_row_tmp {fn : Func} {p u : Tmp} {ty : TypeId} (h : fn.results = #[.cell p ty, .tmp u]) (tmps : Array Value) (P : Program) (w : World) (g : Nat) (cs : Array Value)
    (hp : tmps.getD p undef = .pointer (some ⟨g, 0, none⟩)) (hl : (loadVar ty ⟨g, 0, none⟩).run P w = .ok (.agg cs) w) (x : Value) (hx : tmps.getD u undef = x) :
    (results fn tmps).run P w = .ok (.tuple #[.agg cs, x]) w := by
  subst hx
  have hp' : tmps[p]?.getD undef = .pointer (some ⟨g, 0, none⟩) := by simpa using hp
  rw [results_cell_tmp h]
  simp [hp', asAddr, hl, Result.andThen]
theorem two_set (w : World) (m : Nat) (t : TypeId) (a b u v : Value) :
    ((((w.alloc (.cells #[a, b] t)).drewN m).setCell ⟨w.heap.size, 0, none⟩ u).setCell ⟨w.heap.size, 1, none⟩ v).heap[w.heap.size]? = some (.cells #[u, v] t (0, 0))
    ∧ Below w.heap.size w ((((w.alloc (.cells #[a, b] t)).drewN m).setCell ⟨w.heap.size, 0, none⟩ u).setCell ⟨w.heap.size, 1, none⟩ v) := by
  have h0 : ((w.alloc (.cells #[a, b] t)).drewN m).heap[w.heap.size]? = some (.cells #[a, b] t (0, 0)) := by
    show (w.alloc (.cells #[a, b] t)).heap[w.heap.size]? = _
    exact heap_alloc_new w _
  have h1 := heap_setCell_same ((w.alloc (.cells #[a, b] t)).drewN m) w.heap.size 0 _ t u h0
  have h2 := heap_setCell_same _ w.heap.size 1 _ t v h1
  refine ⟨h2, ?_⟩
  have hb : Below w.heap.size w ((w.alloc (.cells #[a, b] t)).drewN m) := ((Below.refl _ _).alloc (Nat.le_refl _) _).trans (below_drewN _ _ _)
  exact (hb.setCell (p := ⟨w.heap.size, 0, none⟩) (Nat.le_refl _) u).setCell (p := ⟨w.heap.size, 1, none⟩) (Nat.le_refl _) v
theorem long_any (n : Int) (w : World) :
    Calls Tryd.prog 50 #[.int .i64 n] w fun e w' => e = .returned (.bool (decide (4096 < n))) ∧ w = w' := by
  go_enter Tryd.func50, Tryd.ntmps50
  go_wp2
  go_ret
  exact ⟨rfl, rfl⟩
theorem isSize_any (n : Int) (w : World) :
    Calls Tryd.prog 48 #[.int .i64 n] w fun e w' => e = .returned (.bool (decide (1 ≤ n ∧ n ≤ 16383))) ∧ w = w' := by
  by_cases h : 1 ≤ n
  · by_cases h2 : n ≤ 16383
    · go_enter Tryd.func48, Tryd.ntmps48
      go_wp2
      go_ret
      exact ⟨ret_bool (by simp; omega), rfl⟩
    · go_enter Tryd.func48, Tryd.ntmps48
      go_wp2
      go_ret
      exact ⟨ret_bool (by simp; omega), rfl⟩
  · go_enter Tryd.func48, Tryd.ntmps48
    go_wp2
    go_ret
    exact ⟨ret_bool (by simp; omega), rfl⟩
theorem lowBits_short (n : Int) (w : World) (h : n ≤ 4096) :
    Calls Tryd.prog 49 #[.int .i64 n] w fun e w' => e = .returned (.int .i64 6) ∧ w = w' := by
  have HL := fun W => long_any n W
  rw [show decide (4096 < n) = false by simp; omega] at HL
  go_enter Tryd.func49, Tryd.ntmps49
  go_wp2_with (go_at_call 50; refine (HL _).mono ?_; rintro e w' ⟨rfl, rfl⟩)
  go_ret
  exact ⟨rfl, rfl⟩
theorem lowBits_long (n : Int) (w : World) (h : 4096 < n) :
    Calls Tryd.prog 49 #[.int .i64 n] w fun e w' => e = .returned (.int .i64 8) ∧ w = w' := by
  have HL := fun W => long_any n W
  rw [show decide (4096 < n) = true by simp; omega] at HL
  go_enter Tryd.func49, Tryd.ntmps49
  go_wp2_with (go_at_call 50; refine (HL _).mono ?_; rintro e w' ⟨rfl, rfl⟩)
  go_ret
  exact ⟨rfl, rfl⟩
theorem size_yes (n : Nat) (w : World) (h : 1 ≤ n) (h2 : n ≤ 16383) :
    Calls Tryd.prog 48 #[.int .i64 (n : Int)] w fun e w' => e = .returned (.bool true) ∧ w = w' :=
  (isSize_any n w).mono fun _ _ ⟨he, hm⟩ => ⟨by rw [he]; exact ret_bool (by simp; omega), hm⟩
theorem long_no (n : Nat) (w : World) (h : n ≤ 4096) :
    Calls Tryd.prog 50 #[.int .i64 (n : Int)] w fun e w' => e = .returned (.bool false) ∧ w = w' :=
  (long_any n w).mono fun _ _ ⟨he, hm⟩ => ⟨by rw [he]; exact ret_bool (by simp; omega), hm⟩
theorem long_yes (n : Nat) (w : World) (h : 4096 < n) :
    Calls Tryd.prog 50 #[.int .i64 (n : Int)] w fun e w' => e = .returned (.bool true) ∧ w = w' :=
  (long_any n w).mono fun _ _ ⟨he, hm⟩ => ⟨by rw [he]; exact ret_bool (by simp; omega), hm⟩
theorem ofInt_64 (a : Nat) (ha : a < 2 ^ 64) : (BitVec.ofInt 64 (a : Int)).toNat = a := by
  rw [BitVec.ofInt_natCast, BitVec.toNat_ofNat]; exact Nat.mod_eq_of_lt ha
theorem i64_and_nat (a b : Nat) (ha : a < 2 ^ 62) (hb : b < 2 ^ 62) : bits .and .i64 (a : Int) (b : Int) = ((a &&& b : Nat) : Int) := by
  have hx : a &&& b ≤ a := Nat.and_le_left
  show IntKind.i64.wrap ((BitVec.ofInt 64 (a : Int) &&& BitVec.ofInt 64 (b : Int)).toNat : Int) = _
  rw [BitVec.toNat_and, ofInt_64 a (by omega), ofInt_64 b (by omega), IntWalk.i64_in] <;> omega
theorem i64_or_nat (a b : Nat) (ha : a < 2 ^ 62) (hb : b < 2 ^ 62) : bits .or .i64 (a : Int) (b : Int) = ((a ||| b : Nat) : Int) := by
  have hx : a ||| b < 2 ^ 62 := Nat.or_lt_two_pow ha hb
  show IntKind.i64.wrap ((BitVec.ofInt 64 (a : Int) ||| BitVec.ofInt 64 (b : Int)).toNat : Int) = _
  rw [BitVec.toNat_or, ofInt_64 a (by omega), ofInt_64 b (by omega), IntWalk.i64_in] <;> omega
theorem and63 (a : Nat) (ha : a < 2 ^ 62) : bits .and .i64 (a : Int) 63 = ((a % 64 : Nat) : Int) := by
  rw [show (63 : Int) = ((63 : Nat) : Int) from rfl, i64_and_nat a 63 ha (by decide), show a &&& 63 = a % 64 from Nat.and_two_pow_sub_one_eq_mod a 6]
theorem and255 (a : Nat) (ha : a < 2 ^ 62) : bits .and .i64 (a : Int) 255 = ((a % 256 : Nat) : Int) := by
  rw [show (255 : Int) = ((255 : Nat) : Int) from rfl, i64_and_nat a 255 ha (by decide), show a &&& 255 = a % 256 from Nat.and_two_pow_sub_one_eq_mod a 8]
theorem shr6 (a : Nat) : (a : Int) / 2 ^ 6 = ((a / 64 : Nat) : Int) := by omega
theorem shr8 (a : Nat) : (a : Int) / 2 ^ 8 = ((a / 256 : Nat) : Int) := by omega
end Adr
end Go.Proofs.YtllpmgddcpgegaaDoor
