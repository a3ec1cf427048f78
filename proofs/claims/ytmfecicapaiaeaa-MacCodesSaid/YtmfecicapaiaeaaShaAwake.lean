/- 'awake' of the statements about package hash answers true. -/
import Derived.Test.YtmfecicapaiaeaaShaOf
import Derived.Lib.SlBytesConst
namespace Go.Proofs.Ytmfecicapaiaeaa
open Go.RowKit
namespace Sha
theorem parts_none (w : World) : PartsIn w (.slice none 0 0) [] := ⟨none, 0, rfl, .inl rfl⟩
theorem digest_nil_at : (digest []).getD 0 0 = 227 ∧ (digest []).getD 1 0 = 176 ∧ (digest []).getD 31 0 = 85 := by rw [digest_nil]; decide
theorem digest_abc_at : (digest [97, 98, 99]).getD 0 0 = 186 ∧ (digest [97, 98, 99]).getD 1 0 = 120 ∧ (digest [97, 98, 99]).getD 31 0 = 173 := by rw [digest_abc]; decide

theorem dg_size (m : List Nat) : (u8s (digest m)).toArray.size = 32 := by rw [List.size_toArray, u8s_length, digest_length]
theorem put_dg {w : World} {N : Nat} (h : w.heap[N]? = some (.cells (u8s (pad 32 [])).toArray 25 (0, 0))) (m : List Nat) :
    (w.setCells N 0 (u8s (digest m)).toArray.toList).heap[N]? = some (.cells (u8s (digest m)).toArray 25 (0, 0)) := by
  have hdl := digest_length m
  have := heap_setCells N 25 (0, 0) (u8s (digest m)) 0 w _ h (by rw [u8s_length, u8s_length, pad_length (by decide), hdl]; decide)
  rw [this, Nat.zero_add, List.take_zero, List.nil_append, List.drop_of_length_le (by rw [u8s_length, u8s_length, pad_length (by decide), hdl]; decide), List.append_nil]
theorem dg_there {w : World} {N : Nat} (h : w.heap[N]? = some (.cells (u8s (pad 32 [])).toArray 25 (0, 0))) (m : List Nat) : w.there N 0 (u8s (digest m)).toArray.size :=
  there_of_block h 0 _ (by rw [dg_size]; decide)
theorem dg_info (m : List Nat) : (Try.prog.info? 25).map (·.size) = some (u8s (digest m)).toArray.size := by rw [dg_size]; kernel_rfl
/-- A digest lies in block N. -/
def DgAt (w : World) (N : Nat) (m : List Nat) : Prop := w.heap[N]? = some (.cells (u8s (digest m)).toArray 25 (0, 0))
theorem dg_cell {w : World} {N : Nat} {m : List Nat} (h : DgAt w N m) (i : Nat) (hi : i < 32) : w.cell? ⟨N, i, none⟩ = some (.int .u8 (((digest m).getD i 0 : Nat) : Int)) :=
  (cell_of_row w N i _ _ _ h).trans (u8s_at (by rw [digest_length]; exact hi))

theorem parts_abc (w : World) : PartsIn ((w.alloc (.cells #[.int .u8 97, .int .u8 98, .int .u8 99] 5 (3, 4))).alloc (.cells #[.slice (some ⟨w.heap.size, 0, none⟩) 3 3] 22)) (.slice (some ⟨w.heap.size + 1, 0, none⟩) 1 1) [[97, 98, 99]] := by
  have h1 := heap_alloc2_old w (.cells #[.int .u8 97, .int .u8 98, .int .u8 99] 5 (3, 4)) (.cells #[.slice (some ⟨w.heap.size, 0, none⟩) 3 3] 22)
  have h2 := heap_alloc2_new w (.cells #[.int .u8 97, .int .u8 98, .int .u8 99] 5 (3, 4)) (.cells #[.slice (some ⟨w.heap.size, 0, none⟩) 3 3] 22)
  refine ⟨_, 1, rfl, .inr ⟨w.heap.size + 1, 0, rfl, fun j hj => ?_⟩⟩
  obtain rfl : j = 0 := by simpa using hj
  refine ⟨.slice (some ⟨w.heap.size, 0, none⟩) 3 3, cell_of_row _ _ _ _ _ _ h2, ⟨_, 3, rfl, by decide, .inr ⟨w.heap.size, 0, rfl, fun i hi => ?_⟩⟩⟩
  rw [cell_of_row _ w.heap.size (0 + i) _ _ _ h1, Nat.zero_add]
  match i, hi with
  | 0, _ => rfl
  | 1, _ => rfl
  | 2, _ => rfl

set_option maxRecDepth 100000 in
set_option maxHeartbeats 1000000 in
theorem awake_any (w : World) :
    Calls Try.prog 13 #[] w fun e w' => e = .returned (.bool true) ∧ Below w.heap.size w w' := by
  have kc := fun (w : World) (C : Array Value) (n c : Nat) => Lib.run_convert_bytes_const (P := Try.prog) w 22 5 C n c Try.underlying22 Try.underlying5
  go_enter Try.func13, Try.ntmps13
  go_wp2_with fail
  refine (of_any [] _ _ (parts_none _) (by simp) (by decide) (by decide)).mono ?_
  rintro e w1 ⟨rfl, hb1⟩
  dsimp only
  rename_i hK
  refine hK _ _ ?_
  clear hK
  refine wpList_plain rfl (fun K hK => ?_)
  go_simp
  refine hK _ _ ?_
  clear hK K
  have hbk : (w1.alloc (.cells (u8s (pad 32 [])).toArray 25)).heap[w1.heap.size]? = some (.cells (u8s (pad 32 [])).toArray 25 (0, 0)) := heap_alloc_new w1 _
  change wpList _ _ _ _ _ (w1.alloc (.cells (u8s (pad 32 [])).toArray 25))
  have hL := hb1.trans (((Below.refl w.heap.size w1).alloc hb1.size (.cells (u8s (pad 32 [])).toArray 25)))
  have hN1 : w.heap.size ≤ w1.heap.size := hb1.size
  clear hb1
  generalize w1.heap.size = N1 at hbk hN1
  generalize w1.alloc (.cells (u8s (pad 32 [])).toArray 25) = w2 at hbk hL
  refine wpList_store_mid rfl 25 _ _ rfl N1 0 _ rfl rfl (dg_there hbk _) (dg_info _) (u8s_cells _) ?_
  have D3 := Lib.hid (show DgAt (w2.setCells N1 0 (u8s (digest [])).toArray.toList) N1 [] from put_dg hbk [])
  have L3 := Lib.hid (below_setCells N1 hN1 (u8s (digest [])).toArray.toList 0 _ hL)
  change wpList _ _ _ _ _ (w2.setCells N1 0 (u8s (digest [])).toArray.toList)
  generalize w2.setCells N1 0 (u8s (digest [])).toArray.toList = w3 at D3 L3
  clear hbk hL
  go_wp2_with fail
  refine (of_any [[97, 98, 99]] _ _ (parts_abc w3) (by simp) (by decide) (by decide)).mono ?_
  rintro e w4 ⟨rfl, hb4⟩
  have hb4' : Below w3.heap.size w3 w4 := (((Below.refl _ _).alloc (Nat.le_refl _) _).alloc (by simp) _).trans (hb4.mono (by simp; omega))
  have D4 := Lib.hid (show DgAt w4 N1 [] from (hb4'.block _ (lt_of_heap D3.out)).trans D3.out)
  have hL4 := L3.out.trans (hb4'.mono L3.out.size)
  have hlt4 : N1 < w4.heap.size := Nat.lt_of_lt_of_le (lt_of_heap D3.out) hb4'.size
  clear hb4 hb4' D3 L3
  dsimp only
  rename_i hK
  refine hK _ _ ?_
  clear hK
  refine wpList_plain rfl (fun K hK => ?_)
  go_simp
  refine hK _ _ ?_
  clear hK K
  have hbk : (w4.alloc (.cells (u8s (pad 32 [])).toArray 25)).heap[w4.heap.size]? = some (.cells (u8s (pad 32 [])).toArray 25 (0, 0)) := heap_alloc_new w4 _
  change wpList _ _ _ _ _ (w4.alloc (.cells (u8s (pad 32 [])).toArray 25))
  have hd5 : DgAt (w4.alloc (.cells (u8s (pad 32 [])).toArray 25)) N1 [] := (heap_alloc_old w4 _ hlt4).trans D4.out
  have hL5 := hL4.alloc (hL4.size) (.cells (u8s (pad 32 [])).toArray 25)
  have hN2 : w.heap.size ≤ w4.heap.size := hL4.size
  generalize w4.alloc (.cells (u8s (pad 32 [])).toArray 25) = w5 at hbk hd5 hL5
  clear hL4 D4
  generalize w4.heap.size = N2 at hbk hN2 hlt4
  refine wpList_store_mid rfl 25 _ _ rfl N2 0 _ rfl rfl (dg_there hbk _) (dg_info _) (u8s_cells _) ?_
  have D6 := Lib.hid (show DgAt (w5.setCells N2 0 (u8s (digest [97, 98, 99])).toArray.toList) N2 [97, 98, 99] from put_dg hbk _)
  have E6 := Lib.hid (show DgAt (w5.setCells N2 0 (u8s (digest [97, 98, 99])).toArray.toList) N1 [] from ((gsetCells N2 _ 0 w5).block N1 (lt_of_heap hd5) (by intro e; injection e with e; omega)).trans hd5)
  have L6 := Lib.hid (below_setCells N2 hN2 (u8s (digest [97, 98, 99])).toArray.toList 0 _ hL5)
  change wpList _ _ _ _ _ (w5.setCells N2 0 (u8s (digest [97, 98, 99])).toArray.toList)
  generalize w5.setCells N2 0 (u8s (digest [97, 98, 99])).toArray.toList = w6 at D6 E6 L6
  clear hbk hd5 hL5 kc
  have c1 := dg_cell E6.out 0 (by decide)
  have c2 := dg_cell E6.out 1 (by decide)
  have c3 := dg_cell E6.out 31 (by decide)
  have c4 := dg_cell D6.out 0 (by decide)
  have c5 := dg_cell D6.out 1 (by decide)
  have c6 := dg_cell D6.out 31 (by decide)
  rw [digest_nil_at.1] at c1
  rw [digest_nil_at.2.1] at c2
  rw [digest_nil_at.2.2] at c3
  rw [digest_abc_at.1] at c4
  rw [digest_abc_at.2.1] at c5
  rw [digest_abc_at.2.2] at c6
  go_wp2_with fail
  go_ret
  exact ⟨rfl, L6.out⟩
end Sha
end Go.Proofs.Ytmfecicapaiaeaa
