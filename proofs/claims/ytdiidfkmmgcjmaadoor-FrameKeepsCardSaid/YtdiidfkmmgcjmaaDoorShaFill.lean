/- 'filling' of package hash: what stands behind a text. -/
import Derived.Test.YtdiidfkmmgcjmaaDoorShaTake
import Derived.OwnWalk
set_option maxRecDepth 100000
namespace Go.Proofs.YtdiidfkmmgcjmaaDoor
open Go.RowKit
namespace Sha
theorem info5 : (Tryd.prog.info? 5).map (fun i => (i.zero, i.size, i.bytes)) = some (some (.int .u8 0), 1, 1) := by kernel_rfl
theorem make_fill (w : World) (z : Nat) (hz : z < 64) : ∃ w1, (Instr.makeSlice 22 (.int .u64 (1 + (z : Int))) (.int .i64 128)).run Tryd.prog w = .ok (.slice (some ⟨w.heap.size, 0, none⟩) (1 + z) 128) w1 ∧
    w1.heap[w.heap.size]? = some (.cells (u8s (List.replicate 128 0)).toArray 5 (0, 0)) ∧ Below w.heap.size w w1 := by
  obtain ⟨i0, hi, hz0, hz1, hz2⟩ := info_parts info5
  have hr := run_make w 22 5 i0 (.int .u8 0) Tryd.underlying22 hi hz0 .u64 .i64 (1 + (z : Int)) 128 (by omega) (by omega) (by rw [hz2]; decide) (by decide)
  have h1 : (1 + (z : Int)).toNat = 1 + z := by omega
  rw [h1, hz1] at hr
  have hc : madeCells (Value.int .u8 0).cells (Int.toNat 128 * 1) = (u8s (List.replicate 128 0)).toArray := by kernel_rfl
  rw [hc] at hr
  exact ⟨_, hr, heap_alloc_new w _, (Below.refl _ _).alloc (Nat.le_refl _) _⟩
theorem u8s_rep (n x : Nat) : u8s (List.replicate n x) = List.replicate n (.int .u8 (x : Int)) := by simp [u8s]
theorem lenByte (n : Nat) : ∀ i, i < 8 → n * 8 / 2 ^ (56 - 8 * i) % 256 = (lenBytes n).getD i 0
  | 0, _ => rfl | 1, _ => rfl | 2, _ => rfl | 3, _ => rfl | 4, _ => rfl | 5, _ => rfl | 6, _ => rfl | 7, _ => by simp [lenBytes]
  | k + 8, h => by omega

set_option maxRecDepth 100000 in
set_option maxHeartbeats 1000000 in
theorem filling_any (n : Nat) (w : World) (hn : n < 2000000000) :
    Calls Tryd.prog 43 #[.int .u64 n] w fun e w' => (∃ c, e = .returned (.slice (some ⟨w.heap.size, 0, none⟩) (fill n).length c) ∧ (fill n).length ≤ c) ∧ (∀ j, j < (fill n).length → w'.cell? ⟨w.heap.size, j, none⟩ = some (.int .u8 (((fill n).getD j 0 : Nat) : Int))) ∧ Below w.heap.size w w' := by
  obtain ⟨z, hz⟩ : ∃ z, z = zeros n := ⟨_, rfl⟩
  have hz64 : z < 64 := by rw [hz]; exact zeros_lt n
  obtain ⟨w1, hmk, hb1, hbl⟩ := make_fill w z hz64
  have e1 : (64 - ((n : Int) + 1 + 8) % 64) % 64 = (z : Int) := by rw [hz]; unfold zeros; omega
  have e2 : -(((n : Int) + 1 + 8) % 64) % 64 = (z : Int) := by rw [hz]; unfold zeros; omega
  have HB := Lib.hid hb1
  have HL := Lib.hid hbl
  have HZ := Lib.hid hz
  clear hb1 hbl hz
  have c0 : w1.cell? ⟨w.heap.size, 0, none⟩ = some (.int .u8 0) := by rw [cell_of_row w1 w.heap.size 0 _ _ _ HB.out]; rfl
  have f0 : w1.frozen? ⟨w.heap.size, 0, none⟩ = false := frozen_of_row w1 w.heap.size 0 _ _ HB.out
  go_enter Tryd.func43, Tryd.ntmps43
  go_wp2_with fail
  rw [e1]
  clear e1 e2 hmk c0 f0
  go_loopw [5, 7] (fun s i wr => ∃ k : Nat, k ≤ 8 ∧ i = .int .i64 (56 - 8 * (k : Int)) ∧ s = .slice (some ⟨w.heap.size, 0, none⟩) (1 + z + k) 128 ∧
      wr.ownsRow w.heap.size 5 1 (.slice (some ⟨w.heap.size, 0, none⟩) (1 + z + k) 128) (1 + z + k) (u8s (128 :: (List.replicate z 0 ++ (lenBytes n).take k))) ∧ Below w.heap.size w wr) (fun _ i _ => (intOf i + 8).toNat)
  case atStart =>
    have hown : w1.ownsRow w.heap.size 5 1 (.slice (some ⟨w.heap.size, 0, none⟩) (1 + z) 128) (1 + z) (u8s (List.replicate (1 + z) 0)) := by
      refine ⟨by simp [u8s], .inr ⟨w.heap.size, 128, _, rfl, Nat.le_refl _, HB.out, by omega, by decide, by rw [List.size_toArray, u8s_length, List.length_replicate], ?_⟩⟩
      rw [Nat.mul_one, u8s_rep, u8s_rep, List.take_replicate, Nat.min_eq_left (show 1 + z ≤ 128 by omega)]
    refine ⟨0, Nat.zero_le _, rfl, rfl, ?_, HL.out.setCell (Nat.le_refl _) _⟩
    have := (hown.stored 0 (.int .u8 128)).1
    have e : (u8s (List.replicate (1 + z) 0)).set 0 (.int .u8 128) = u8s (128 :: (List.replicate z 0 ++ (lenBytes n).take 0)) := by
      rw [Nat.add_comm 1 z, List.replicate_succ]; simp [u8s]
    rw [e] at this
    exact this
  case round =>
    obtain ⟨k, hk, rfl, rfl, ho, hb⟩ := hrel
    by_cases hlt : k < 8
    · have hge : (0 : Int) ≤ 56 - 8 * (k : Int) := by omega
      have HO := Lib.hid ho
      have HBL := Lib.hid hb
      clear ho hb
      have HV := Lib.hid (show ((n : Int) * 8 / 2 ^ (56 - 8 * k) % 256) = (((lenBytes n).getD k 0 : Nat) : Int) by rw [← lenByte n k hlt]; simp)
      have HT := Lib.hid (show (lenBytes n).take (k + 1) = (lenBytes n).take k ++ [(lenBytes n).getD k 0] by
        have hl : k < (lenBytes n).length := hlt
        rw [List.take_succ_eq_append_getElem hl, List.getD_eq_getElem?_getD, List.getElem?_eq_getElem hl]; rfl)
      obtain ⟨i0, hi, hz0, hz1, hz2⟩ := info_parts info5
      go_wp2_with (at_builtin; refine wpList_append_fits _ rfl (.tmp 26) (.tmp 31) 22 rfl w.heap.size 5 i0 1 Tryd.underlying22 hi hz1 w.heap.size (1 + z + k) 128 _ rfl (HO.out.alloc _) ⟨wr.heap.size, 0, none⟩ 1 1 [.int .u8 ((n : Int) * 8 / 2 ^ (56 - 8 * k) % 256)] rfl rfl ?_ ?_ ?_ ?_)
      · exact cell_one_new _ _ _
      · intro u hu; simp at hu; subst hu; rfl
      · omega
      · intro w2 hown2 hgrow2
        have HO2 := Lib.hid hown2
        have HG2 := Lib.hid (show Below w.heap.size w w2 from (HBL.out.alloc (by have := HBL.out.size; exact this) _).grown hgrow2 (by have := HBL.out.size; simp; omega) (by intro k hk; injection hk with hk; omega))
        clear hown2 hgrow2 hi hz0 hz1 hz2
        go_wp2_with fail
        go_roundw
        case rel =>
          refine ⟨k + 1, by omega, by go_num, rfl, ?_, HG2.out⟩
          rw [HT.out]
          have := HO2.out
          rw [HV.out] at this
          have e : u8s (128 :: (List.replicate z 0 ++ (lenBytes n).take k)) ++ [.int .u8 (((lenBytes n).getD k 0 : Nat) : Int)] = u8s (128 :: (List.replicate z 0 ++ ((lenBytes n).take k ++ [(lenBytes n).getD k 0]))) := by simp [u8s]
          rw [e] at this
          exact this
        case measure => simp [intOf]; omega
    · have hk8 : k = 8 := by omega
      have hge : 56 - 8 * (k : Int) < 0 := by omega
      have hfl : (fill n).length = 1 + z + 8 := by rw [fill_length, HZ.out]; omega
      have he : 128 :: (List.replicate z 0 ++ (lenBytes n).take 8) = fill n := by rw [HZ.out]; rfl
      have HF := Lib.hid hfl
      have HK := Lib.hid hk8
      rw [hk8, he] at ho
      have HO := Lib.hid ho
      have HBL := Lib.hid hb
      clear ho hb hfl he hk8 hlt
      go_wp2_with fail
      go_ret
      refine ⟨⟨128, by show Ending.returned (Value.slice _ (1 + z + k) 128) = _; rw [HF.out, HK.out], by rw [HF.out]; omega⟩, fun j hj => ?_, HBL.out⟩
      rw [HO.out.cellAt j (by rw [← HF.out]; omega)]
      have := u8s_at hj
      simpa using this
end Sha
end Go.Proofs.YtdiidfkmmgcjmaaDoor
