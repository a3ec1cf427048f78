/- Put of package addr writes an address. -/
import Derived.Test.YtllpmgddcpgegaaDoorAddrLeaf
namespace Go.Proofs.YtllpmgddcpgegaaDoor
open Go.RowKit Err Six
namespace Adr
theorem putShort_at (a n : Nat) (w : World) (ha : a < n) (hn : n ≤ 4096) :
    Calls Tryd.prog 51 #[.int .i64 ((a : Int) / 64), .int .i64 ((a : Int) % 64)] w fun e w' => e = .returned (.agg #[.int .u8 (put (a / 64) : Nat), .int .u8 (put (a % 64) : Nat)]) ∧ Below w.heap.size w w' := by
  have := putShort_any (a / 64) (a % 64) w (by omega) (by omega)
  rw [show ((a / 64 : Nat) : Int) = (a : Int) / 64 by omega, show ((a % 64 : Nat) : Int) = (a : Int) % 64 by omega] at this
  exact this
theorem heap_two (w : World) (m : Nat) (w1 : World) (t : TypeId) (a b : Value) (hb : Below ((w.alloc (.cells #[a, b] t)).drewN m).heap.size ((w.alloc (.cells #[a, b] t)).drewN m) w1) :
    w1.heap[w.heap.size]? = some (.cells #[a, b] t (0, 0)) ∧ Below w.heap.size w w1 := by
  have h0 : ((w.alloc (.cells #[a, b] t)).drewN m).heap[w.heap.size]? = some (.cells #[a, b] t (0, 0)) := by
    show (w.alloc (.cells #[a, b] t)).heap[w.heap.size]? = _
    exact heap_alloc_new w _
  have hlt : w.heap.size < ((w.alloc (.cells #[a, b] t)).drewN m).heap.size := by simp
  have h1 := hb.block _ hlt
  have h2 : Below w.heap.size w ((w.alloc (.cells #[a, b] t)).drewN m) := ((Below.refl _ _).alloc (Nat.le_refl _) _).trans (below_drewN _ _ _)
  exact ⟨h1.trans h0, h2.trans (hb.mono (Nat.le_of_lt hlt))⟩
theorem cells_two (w : World) (m : Nat) (w1 : World) (t : TypeId) (a b : Value) (hb : Below ((w.alloc (.cells #[a, b] t)).drewN m).heap.size ((w.alloc (.cells #[a, b] t)).drewN m) w1) :
    w1.cell? ⟨w.heap.size, 0, none⟩ = some a ∧ w1.cell? ⟨w.heap.size, 1, none⟩ = some b ∧ w1.frozen? ⟨w.heap.size, 0, none⟩ = false ∧ w1.frozen? ⟨w.heap.size, 1, none⟩ = false := by
  have h := (heap_two w m w1 t a b hb).1
  refine ⟨?_, ?_, ?_, ?_⟩
  · exact cell_of_row w1 _ 0 _ _ _ h
  · exact cell_of_row w1 _ 1 _ _ _ h
  · simp [World.frozen?, h]
  · simp [World.frozen?, h]
theorem set_two (w : World) (m : Nat) (w1 : World) (t : TypeId) (a b : Value) (hb : Below ((w.alloc (.cells #[a, b] t)).drewN m).heap.size ((w.alloc (.cells #[a, b] t)).drewN m) w1) (u v : Value) :
    ((w1.setCell ⟨w.heap.size, 0, none⟩ u).setCell ⟨w.heap.size, 1, none⟩ v).heap[w.heap.size]? = some (.cells #[u, v] t (0, 0))
    ∧ Below w.heap.size w ((w1.setCell ⟨w.heap.size, 0, none⟩ u).setCell ⟨w.heap.size, 1, none⟩ v) := by
  obtain ⟨h, hb⟩ := heap_two w m w1 t a b hb
  have h1 := heap_setCell_same w1 w.heap.size 0 _ t u h
  have h2 := heap_setCell_same _ w.heap.size 1 _ t v h1
  exact ⟨h2, (hb.setCell (p := ⟨w.heap.size, 0, none⟩) (Nat.le_refl _) u).setCell (p := ⟨w.heap.size, 1, none⟩) (Nat.le_refl _) v⟩
set_option maxHeartbeats 1000000 in
theorem put_short (a n : Nat) (w : World) (ha : a < n) (hn : n ≤ 4096) :
    Calls Tryd.prog 26 #[.int .i64 (a : Int), .int .i64 (n : Int)] w fun e w' => e = .returned (.tuple #[.agg #[.int .u8 (put (a / 64) : Nat), .int .u8 (put (a % 64) : Nat)], .nilIface]) ∧ Below w.heap.size w w' := by
  have HS := Lib.hid fun W => size_yes n W (by omega) (by omega)
  have HB := Lib.hid fun W => lowBits_short n W (by omega)
  have HL := Lib.hid fun W => long_no n W hn
  have HP := fun W => putShort_at a n W ha hn
  generalize ((put (a / 64) : Nat) : Int) = x at HP ⊢
  generalize ((put (a % 64) : Nat) : Int) = y at HP ⊢
  have HP := Lib.hid HP
  have e0 := shr6 a
  have e1 := and63 a (by omega)
  go_enter Tryd.func26, Tryd.ntmps26
  go_wp2_with fail
  refine (HS.out _).mono ?_
  rintro e w1 ⟨rfl, rfl⟩
  clear HS
  go_wp2_with fail
  refine (HB.out _).mono ?_
  rintro e w1 ⟨rfl, rfl⟩
  clear HB
  go_wp2_with fail
  go_quiet (fail)
  clear e0
  go_wp2_with fail
  refine (HL.out _).mono ?_
  rintro e w1 ⟨rfl, rfl⟩
  clear HL
  go_wp2_with fail
  refine (HP.out _).mono ?_
  rintro e w1 ⟨rfl, hb⟩
  clear HP
  obtain ⟨c0, c1, f0, f1⟩ := cells_two w nq w1 54 _ _ hb
  have H1 := Lib.hid fun u v => set_two w nq w1 54 _ _ hb u v
  clear hb
  go_wp2_with fail
  clear c0 c1 f0 f1
  obtain ⟨h1, h2⟩ := H1.out (.int .u8 x) (.int .u8 y)
  have H1 := Lib.hid h1
  have H2 := Lib.hid h2
  clear h1 h2
  generalize (w1.setCell ⟨w.heap.size, 0, none⟩ (.int .u8 x)).setCell ⟨w.heap.size, 1, none⟩ (.int .u8 y) = wz at *
  exact bodyPost_ret (v := .tuple #[.agg #[.int .u8 x, .int .u8 y], .nilIface]) (results_cell_row_tmp rfl _ _ _ w.heap.size _ rfl (run_loadVar_row wz w.heap.size 54 54 _ (0, 0) _ H1.out Tryd.underlying54 rfl (by kernel_rfl)) .nilIface rfl) rfl ⟨rfl, H2.out⟩
set_option maxHeartbeats 1000000 in
theorem put_long (a n : Nat) (w : World) (ha : a < n) (hn : 4096 < n) (h2 : n ≤ 16383) :
    Calls Tryd.prog 26 #[.int .i64 (a : Int), .int .i64 (n : Int)] w fun e w' => e = .returned (.tuple #[.agg #[.int .u8 (a / 256 : Nat), .int .u8 (a % 256 : Nat)], .nilIface]) ∧ Below w.heap.size w w' := by
  have HS := Lib.hid fun W => size_yes n W (by omega) (by omega)
  have HB := Lib.hid fun W => lowBits_long n W (by omega)
  have HL := Lib.hid fun W => long_yes n W hn
  have e0 := shr8 a
  have e1 := and255 a (by omega)
  go_enter Tryd.func26, Tryd.ntmps26
  go_wp2_with fail
  refine (HS.out _).mono ?_
  rintro e w1 ⟨rfl, rfl⟩
  clear HS
  go_wp2_with fail
  refine (HB.out _).mono ?_
  rintro e w1 ⟨rfl, rfl⟩
  clear HB
  go_wp2_with fail
  go_quiet (fail)
  clear e0
  go_wp2_with fail
  refine (HL.out _).mono ?_
  rintro e w1 ⟨rfl, rfl⟩
  clear HL
  go_wp2_with fail
  obtain ⟨h1, h2⟩ := two_set w nq 54 (.int .u8 0) (.int .u8 0) (.int .u8 ((a : Int) / 256)) (.int .u8 ((a : Int) % 256))
  have H1 := Lib.hid h1
  have H2 := Lib.hid h2
  clear h1 h2
  generalize (((w.alloc (.cells #[.int .u8 0, .int .u8 0] 54)).drewN nq).setCell ⟨w.heap.size, 0, none⟩ (.int .u8 ((a : Int) / 256))).setCell ⟨w.heap.size, 1, none⟩ (.int .u8 ((a : Int) % 256)) = wz at *
  exact bodyPost_ret (v := .tuple #[.agg #[.int .u8 ((a : Int) / 256), .int .u8 ((a : Int) % 256)], .nilIface]) (results_cell_row_tmp rfl _ _ _ w.heap.size _ rfl (run_loadVar_row wz w.heap.size 54 54 _ (0, 0) _ H1.out Tryd.underlying54 rfl (by kernel_rfl)) .nilIface rfl) rfl ⟨rfl, H2.out⟩
end Adr
end Go.Proofs.YtllpmgddcpgegaaDoor
