/- 'New' of package hash begins an empty sum; 'Add' adds parts; 'End' is the sum; 'Of' all at once. -/
import Derived.Test.YtdiidfkmmgcjmaaDoorShaFill
set_option maxRecDepth 100000
namespace Go.Proofs.YtdiidfkmmgcjmaaDoor
open Go.RowKit
namespace Sha
theorem begin_snoc (k : Nat) (h : k < 8) : (pad 8 (beginWords.take k)).set k (beginWords.getD k 0) = pad 8 (beginWords.take (k + 1)) := by
  have hl : beginWords.length = 8 := rfl
  have := pad_snoc (n := 8) (l := beginWords.take k) (beginWords.getD k 0) (by rw [List.length_take, hl]; omega)
  rw [List.length_take, hl, Nat.min_eq_left (by omega)] at this
  rw [this, List.take_succ_eq_append_getElem (by omega), List.getD_eq_getElem?_getD, List.getElem?_eq_getElem (by omega)]
  rfl
theorem sum_st {st blk : List Nat} {L k v : Nat} (hst : st.length = 8) (hk : k < 8) : (sumCells st blk L).toArray.setIfInBounds k (.int .u32 (v : Int)) = (sumCells (st.set k v) blk L).toArray := by
  have e1 : (u32s st).length = 8 := by rw [u32s_length, hst]
  have : (sumCells st blk L).set k (.int .u32 (v : Int)) = sumCells (st.set k v) blk L := by
    rw [sumCells, List.set_append_left _ _ (by omega), sumCells]; simp [u32s, List.map_set]
  simp [this]

def blank : Array Value := (sumCells (pad 8 []) (List.replicate 64 0) 0).toArray
attribute [local go_sem ↓] Go.wp_at_zero Go.wp_at_succ
set_option maxRecDepth 100000 in
set_option maxHeartbeats 1000000 in
theorem new_any (w : World) :
    Calls Tryd.prog 32 #[] w fun e w' => e = .returned (.pointer (some ⟨w.heap.size, 0, none⟩)) ∧ SumAt w' w.heap.size [] ∧ Below w.heap.size w w' := by
  have hz : (zeroValue 97).run Tryd.prog w = .ok (.agg blank) w := by kernel_rfl
  go_enter Tryd.func32, Tryd.ntmps32
  go_wp2_with fail
  go_loopw [5] (fun i wr => ∃ k : Nat, k ≤ 8 ∧ i = .int .i64 k ∧ wr.heap[w.heap.size]? = some (.cells (sumCells (pad 8 (beginWords.take k)) (List.replicate 64 0) 0).toArray 97 (0, 0)) ∧ Below w.heap.size w wr) (fun i _ => 8 - (intOf i).toNat)
  case atStart =>
    refine ⟨0, Nat.zero_le _, rfl, ?_, (Below.refl _ _).alloc (Nat.le_refl _) _⟩
    exact heap_alloc_new w _
  case round =>
    obtain ⟨k, hk, rfl, hr, hb⟩ := hrel
    by_cases hlt : k < 8
    · have hbl : w.heap.size < wr.heap.size := lt_of_heap hr
      have c0 : wr.cell? ⟨w.heap.size, k, none⟩ = some (.int .u32 (((pad 8 (beginWords.take k)).getD k 0 : Nat) : Int)) := by
        have hl : (pad 8 (beginWords.take k)).length = 8 := pad_length (by rw [List.length_take]; exact Nat.min_le_right _ _)
        rw [cell_of_row wr w.heap.size k _ _ _ hr, List.getElem?_toArray, sumCells, List.getElem?_append_left (by rw [u32s_length, hl]; exact hlt)]
        have := u32s_at (l := pad 8 (beginWords.take k)) (i := k) (by rw [hl]; exact hlt)
        simpa using this
      have f0 : wr.frozen? ⟨w.heap.size, k, none⟩ = false := frozen_of_row wr w.heap.size k _ _ hr
      have hi0 : (0 : Int) ≤ (k : Int) := by omega
      have hi1 : (k : Int) < 8 := by omega
      have HR := Lib.hid hr
      have HB := Lib.hid hb
      have hbl2 : w.heap.size < wr.drew.heap.size := hbl
      generalize (pad 8 (beginWords.take k)).getD k 0 = x at c0
      clear hr hb
      go_wp2_with fail
      go_region_with (go_at_call 41; refine (bword_any _ (by kernel_rfl) k hlt _).mono ?_; rintro e w' ⟨rfl, hb3⟩; obtain ⟨hc3, hf3, hl3⟩ := bk hb3 (by assumption))
      have HS := Lib.hid (heap_setCell_same _ w.heap.size k _ _ (.int .u32 ((beginWords.getD k 0 : Nat) : Int)) ((hb3.block _ hbl2).trans HR.out))
      have HB2 := Lib.hid ((HB.out.drew.trans (hb3.mono (Nat.le_of_lt hbl2))).setCell (p := ⟨w.heap.size, k, none⟩) (Nat.le_refl _) (.int .u32 ((beginWords.getD k 0 : Nat) : Int)))
      clear hb3 hc3 hf3 hl3 c0 f0
      go_wp2_with fail
      go_roundw
      case rel =>
        have kd : beginWords[k]?.getD 0 = beginWords.getD k 0 := (List.getD_eq_getElem?_getD ..).symm
        rw [kd]
        refine ⟨k + 1, by omega, by go_num, ?_, HB2.out⟩
        have := HS.out
        rw [sum_st (pad_length (by rw [List.length_take]; exact Nat.min_le_right _ _)) hlt, begin_snoc k hlt] at this
        exact this
      case measure => simp [intOf]; omega
    · have e : k = 8 := by omega
      rw [e] at hr
      have hge : 8 ≤ k := by omega
      have HR := Lib.hid hr
      have HB := Lib.hid hb
      clear hr hb hlt e
      go_wp2_with fail
      go_ret
      exact ⟨rfl, ⟨List.replicate 64 0, HR.out, inv_nil⟩, HB.out⟩
end Sha
end Go.Proofs.YtdiidfkmmgcjmaaDoor
