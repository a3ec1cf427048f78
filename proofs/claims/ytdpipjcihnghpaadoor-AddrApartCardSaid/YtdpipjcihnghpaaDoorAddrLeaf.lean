/- The small functions of package addr return what they say. -/
import Derived.Test.YtdpipjcihnghpaaDoorSixGet
import Derived.Test.YtdpipjcihnghpaaDoorCode2
import Derived.Laws.ResultCell
import Derived.OwnWalk
import Derived.Laws.Rows
namespace Go.Proofs.YtdpipjcihnghpaaDoor
open Go.RowKit Err Six
namespace Adr
theorem ret_bool {a b : Bool} (h : a = b) : Ending.returned (.bool a) = .returned (.bool b) := by rw [h]
theorem results_cell_row_tmp {fn : Func} {p u : Tmp} {ty : TypeId} (h : fn.results = #[.cell p ty, .tmp u]) (tmps : Array Value) (P : Program) (w : World) (g : Nat) (cs : Array Value)
    (hp : tmps.getD p undef = .pointer (some ⟨g, 0, none⟩)) (hl : (loadVar ty ⟨g, 0, none⟩).run P w = .ok (.agg cs) w) (x : Value) (hx : tmps.getD u undef = x) :
    (results fn tmps).run P w = .ok (.tuple #[.agg cs, x]) w := by
  subst hx
  have hp' : tmps[p]?.getD undef = .pointer (some ⟨g, 0, none⟩) := by simpa using hp
  rw [results_cell_tmp h]
  simp [hp', asAddr, hl, Result.andThen]
theorem two_set (w : World) (m : Nat) (t : TypeId) (a b u v : Value) :
    ((((w.alloc (.cells #[a, b] t)).drewN m).setCell ⟨w.heap.size, 0, none⟩ u).setCell ⟨w.heap.size, 1, none⟩ v).heap[w.heap.size]? = some (.cells #[u, v] t (0, 0))
    ∧ Below w.heap.size w ((((w.alloc (.cells #[a, b] t)).drewN m).setCell ⟨w.heap.size, 0, none⟩ u).setCell ⟨w.heap.size, 1, none⟩ v) := by
  have h0 : ((w.alloc (.cells #[a, b] t)).drewN m).heap[w.heap.size]? = some (.cells #[a, b] t (0, 0)) := by
    show (w.alloc (.cells #[a, b] t)).heap[w.heap.size]? = _
    exact heap_alloc_new w _
  have h1 := heap_setCell_same ((w.alloc (.cells #[a, b] t)).drewN m) w.heap.size 0 _ t u h0
  have h2 := heap_setCell_same _ w.heap.size 1 _ t v h1
  refine ⟨h2, ?_⟩
  have hb : Below w.heap.size w ((w.alloc (.cells #[a, b] t)).drewN m) := ((Below.refl _ _).alloc (Nat.le_refl _) _).trans (below_drewN _ _ _)
  exact (hb.setCell (p := ⟨w.heap.size, 0, none⟩) (Nat.le_refl _) u).setCell (p := ⟨w.heap.size, 1, none⟩) (Nat.le_refl _) v
theorem long_any (n : Int) (w : World) :
    Calls Tryd.prog 13 #[.int .i64 n] w fun e w' => e = .returned (.bool (decide (4096 < n))) ∧ w = w' := by
  go_enter Tryd.func13, Tryd.ntmps13
  go_wp2
  go_ret
  exact ⟨rfl, rfl⟩
theorem isSize_any (n : Int) (w : World) :
    Calls Tryd.prog 14 #[.int .i64 n] w fun e w' => e = .returned (.bool (decide (1 ≤ n ∧ n ≤ 16383))) ∧ w = w' := by
  by_cases h : 1 ≤ n
  · by_cases h2 : n ≤ 16383
    · go_enter Tryd.func14, Tryd.ntmps14
      go_wp2
      go_ret
      exact ⟨ret_bool (by simp; omega), rfl⟩
    · go_enter Tryd.func14, Tryd.ntmps14
      go_wp2
      go_ret
      exact ⟨ret_bool (by simp; omega), rfl⟩
  · go_enter Tryd.func14, Tryd.ntmps14
    go_wp2
    go_ret
    exact ⟨ret_bool (by simp; omega), rfl⟩
theorem lowBits_short (n : Int) (w : World) (h : n ≤ 4096) :
    Calls Tryd.prog 17 #[.int .i64 n] w fun e w' => e = .returned (.int .i64 6) ∧ w = w' := by
  have HL := fun W => long_any n W
  rw [show decide (4096 < n) = false by simp; omega] at HL
  go_enter Tryd.func17, Tryd.ntmps17
  go_wp2_with (go_at_call 13; refine (HL _).mono ?_; rintro e w' ⟨rfl, rfl⟩)
  go_ret
  exact ⟨rfl, rfl⟩
theorem lowBits_long (n : Int) (w : World) (h : 4096 < n) :
    Calls Tryd.prog 17 #[.int .i64 n] w fun e w' => e = .returned (.int .i64 8) ∧ w = w' := by
  have HL := fun W => long_any n W
  rw [show decide (4096 < n) = true by simp; omega] at HL
  go_enter Tryd.func17, Tryd.ntmps17
  go_wp2_with (go_at_call 13; refine (HL _).mono ?_; rintro e w' ⟨rfl, rfl⟩)
  go_ret
  exact ⟨rfl, rfl⟩
theorem putShort_any (x y : Nat) (w : World) (hx : x < 64) (hy : y < 64) :
    Calls Tryd.prog 20 #[.int .i64 (x : Int), .int .i64 (y : Int)] w fun e w' => e = .returned (.agg #[.int .u8 (put x : Nat), .int .u8 (put y : Nat)]) ∧ Below w.heap.size w w' := by
  have HX := fun W => put_any x W hx
  have HY := fun W => put_any y W hy
  generalize put x = p at HX
  generalize put y = q at HY
  go_enter Tryd.func20, Tryd.ntmps20
  go_wp2_with fail
  refine (HX _).mono ?_
  rintro e w1 ⟨rfl, m, rfl⟩
  clear HX
  go_wp2_with fail
  refine (HY _).mono ?_
  rintro e w2 ⟨rfl, m2, rfl⟩
  clear HY
  go_wp2_with fail
  obtain ⟨h1, h2⟩ := two_set w (m + m2) 33 (.int .u8 0) (.int .u8 0) (.int .u8 (p : Int)) (.int .u8 (q : Int))
  have H1 := Lib.hid h1
  have H2 := Lib.hid h2
  clear h1 h2
  generalize ((((w.alloc (.cells #[.int .u8 0, .int .u8 0] 33)).drewN (m + m2)).setCell ⟨w.heap.size, 0, none⟩ (.int .u8 (p : Int))).setCell ⟨w.heap.size, 1, none⟩ (.int .u8 (q : Int))) = wz at *
  exact bodyPost_ret (v := .agg #[.int .u8 (p : Int), .int .u8 (q : Int)]) (results_cell_row rfl _ _ w.heap.size 33 _ (0, 0) _ rfl H1.out Tryd.underlying33 rfl (by kernel_rfl)) rfl ⟨rfl, H2.out⟩
end Adr
end Go.Proofs.YtdpipjcihnghpaaDoor
