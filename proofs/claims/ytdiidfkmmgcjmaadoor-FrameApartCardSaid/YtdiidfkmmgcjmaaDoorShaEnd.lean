/- 'End' of package hash is the sum of all that was added. -/
import Derived.Test.YtdiidfkmmgcjmaaDoorShaAdd
set_option maxRecDepth 100000
namespace Go.Proofs.YtdiidfkmmgcjmaaDoor
open Go.RowKit
namespace Sha
theorem sum_cells_length {st blk : List Nat} {L : Nat} (h : st.length = 8) (hb : blk.length = 64) : (sumCells st blk L).length = 73 := by
  simp [sumCells, u32s_length, u8s_length, h, hb]
theorem sum_cells_one (st blk : List Nat) (L : Nat) : ∀ v ∈ sumCells st blk L, v.oneCell' = true := by
  intro v hv
  simp only [sumCells, List.mem_append, List.mem_singleton] at hv
  rcases hv with hv | hv | rfl
  · exact u32s_one _ v hv
  · exact u8s_one _ v hv
  · rfl
theorem sum_below {w w1 : World} {b : Nat} {m : List Nat} (h : SumAt w b m) (hb : Below w.heap.size w w1) : SumAt w1 b m := by
  obtain ⟨blk, hr, hi⟩ := h
  exact ⟨blk, (hb.block _ (lt_of_heap hr)).trans hr, hi⟩

/-- The memory of 'End': its result, its bytes so far. -/
structure EMem (H N : Nat) (l : List Nat) (w0 w : World) : Prop where
  res : w.heap[H]? = some (.cells (u8s (pad 32 [])).toArray 55 (0, 0))
  row : w.heap[N]? = some (.cells (u8s (pad 32 l)).toArray 55 (0, 0))
  old : Below H w0 w
theorem EMem.alone {H N : Nat} {l : List Nat} {w0 w : World} (h : EMem H N l w0 w) (hl : l.length < 32) (hHN : H < N) (v : Nat) :
    EMem H N (l ++ [v]) w0 (w.setCell ⟨N, l.length, none⟩ (.int .u8 (v : Int))) := by
  refine ⟨(heap_setCell_other w _ H _ (by simp; omega)).trans h.res, ?_, h.old.setCell (by simp; omega) _⟩
  have := heap_setCell_same w N l.length _ _ (.int .u8 (v : Int)) h.row
  rw [u8s_set, pad_snoc v hl] at this
  exact this
theorem bytes4_val (x : Nat) : ∀ j, j < 4 → x / 2 ^ (24 - 8 * j) % 256 = (bytes4 x).getD j 0
  | 0, _ => rfl | 1, _ => rfl | 2, _ => rfl | 3, _ => by simp [bytes4]
  | k + 4, h => by omega
theorem out_length (s : St) : (out s).length = 32 := rfl
theorem out_snoc (s : St) (i j : Nat) (hi : i < 8) (hj : j < 4) : (out s).take (4 * i + (j + 1)) = (out s).take (4 * i + j) ++ [(bytes4 (s.list.getD i 0)).getD j 0] := by
  have hl := out_length s
  rw [← Nat.add_assoc, List.take_succ_eq_append_getElem (by omega)]
  congr 2
  match i, hi, j, hj with
  | 0, _, 0, _ => rfl | 0, _, 1, _ => rfl | 0, _, 2, _ => rfl | 0, _, 3, _ => rfl
  | 1, _, 0, _ => rfl | 1, _, 1, _ => rfl | 1, _, 2, _ => rfl | 1, _, 3, _ => rfl
  | 2, _, 0, _ => rfl | 2, _, 1, _ => rfl | 2, _, 2, _ => rfl | 2, _, 3, _ => rfl
  | 3, _, 0, _ => rfl | 3, _, 1, _ => rfl | 3, _, 2, _ => rfl | 3, _, 3, _ => rfl
  | 4, _, 0, _ => rfl | 4, _, 1, _ => rfl | 4, _, 2, _ => rfl | 4, _, 3, _ => rfl
  | 5, _, 0, _ => rfl | 5, _, 1, _ => rfl | 5, _, 2, _ => rfl | 5, _, 3, _ => rfl
  | 6, _, 0, _ => rfl | 6, _, 1, _ => rfl | 6, _, 2, _ => rfl | 6, _, 3, _ => rfl
  | 7, _, 0, _ => rfl | 7, _, 1, _ => rfl | 7, _, 2, _ => rfl | 7, _, 3, _ => rfl

set_option maxRecDepth 100000 in
set_option maxHeartbeats 2000000 in
theorem end_any (b : Nat) (m : List Nat) (w : World) (hS : SumAt w b m) (hm : m.length < 900000000) :
    Calls Tryd.prog 35 #[.pointer (some ⟨b, 0, none⟩)] w fun e w' => e = .returned (.agg (u8s (digest m)).toArray) ∧ Below w.heap.size w w' := by
  obtain ⟨blk, hr, hi⟩ := hS
  have hbl : b < w.heap.size := lt_of_heap hr
  have HR := Lib.hid hr
  have HI := Lib.hid hi
  have HBL := Lib.hid hbl
  clear hr hi hbl
  go_enter Tryd.func35, Tryd.ntmps35
  go_upto_region 3 with (fail)
  have h1 : (w.alloc (.cells (u8s (pad 32 [])).toArray 55)).heap[w.heap.size]? = some (.cells (u8s (pad 32 [])).toArray 55 (0, 0)) := heap_alloc_new w _
  have h2 : (w.alloc (.cells (u8s (pad 32 [])).toArray 55)).heap[b]? = some (.cells (sumCells (stOf m).list blk m.length).toArray 97 (0, 0)) := (heap_alloc_old w _ HBL.out).trans HR.out
  have h3 : Below w.heap.size w (w.alloc (.cells (u8s (pad 32 [])).toArray 55)) := (Below.refl _ _).alloc (Nat.le_refl _) _
  have h4 : (w.alloc (.cells (u8s (pad 32 [])).toArray 55)).heap.size = w.heap.size + 1 := by show (w.heap.push _).size = _; simp
  change Code.wp _ _ _ _ (w.alloc (.cells (u8s (pad 32 [])).toArray 55))
  generalize w.alloc (.cells (u8s (pad 32 [])).toArray 55) = w1 at h1 h2 h3 h4
  have hz : (zeroValue 97).run Tryd.prog w1 = .ok (.agg blank) w1 := by kernel_rfl
  have hlen := HI.out.len
  have hcl : (sumCells (stOf m).list blk m.length).length = 73 := sum_cells_length rfl hlen
  have hsz : (Tryd.prog.info? 97).map (·.size) = some (sumCells (stOf m).list blk m.length).toArray.size := by rw [List.size_toArray, hcl]; kernel_rfl
  have H1 := Lib.hid h1
  have H3 := Lib.hid h3
  clear h1 h3 hlen
  refine wp_region_lit ?_
  refine wpList_plain rfl (fun K hK => ?_)
  go_simp
  refine hK _ _ ?_
  clear hK K
  refine wpList_plain rfl (fun K hK => ?_)
  go_simp
  refine hK _ _ ?_
  clear hK K
  refine wpList_load_row rfl 97 _ rfl b rfl 97 _ _ _ h2 Tryd.underlying97 rfl hsz ?_
  have H2 := Lib.hid h2
  clear h2
  refine wpList_plain rfl (fun K hK => ?_)
  go_simp
  refine hK _ _ ?_
  clear hK K
  have hb2 : (w1.alloc (.cells blank 97)).heap[w.heap.size + 1]? = some (.cells blank 97 (0, 0)) := by rw [← h4]; exact heap_alloc_new w1 _
  have hth : (w1.alloc (.cells blank 97)).there (w.heap.size + 1) 0 (sumCells (stOf m).list blk m.length).toArray.size := there_of_block hb2 0 _ (by rw [List.size_toArray, hcl]; decide)
  refine wpList_store_mid rfl 97 _ _ rfl (w.heap.size + 1) 0 _ rfl rfl hth hsz (all_oneCell_toArray (sum_cells_one _ _ _)) ?_
  have hr2 := heap_setCells (w.heap.size + 1) 97 (0, 0) (sumCells (stOf m).list blk m.length) 0 (w1.alloc (.cells blank 97)) (sumCells (pad 8 []) (List.replicate 64 0) 0) hb2 (by rw [hcl, sum_cells_length (by rfl) (by simp)]; decide)
  rw [Nat.zero_add, List.take_zero, List.nil_append, List.drop_of_length_le (by rw [hcl, sum_cells_length (by rfl) (by simp)]; decide), List.append_nil] at hr2
  have ho2 : ((w1.alloc (.cells blank 97)).setCells (w.heap.size + 1) 0 (sumCells (stOf m).list blk m.length)).heap[w.heap.size]? = some (.cells (u8s (pad 32 [])).toArray 55 (0, 0)) :=
    ((gsetCells (w.heap.size + 1) _ 0 (w1.alloc (.cells blank 97))).block w.heap.size (by simp [h4]; omega) (by simp)).trans ((heap_alloc_old w1 _ (by omega)).trans H1.out)
  have hl2 : Below w.heap.size w ((w1.alloc (.cells blank 97)).setCells (w.heap.size + 1) 0 (sumCells (stOf m).list blk m.length)) := below_setCells _ (Nat.le_succ _) _ _ _ (H3.out.alloc (by omega) _)
  have hc2 : ((w1.alloc (.cells blank 97)).setCells (w.heap.size + 1) 0 (sumCells (stOf m).list blk m.length)).cell? ⟨b, 72, none⟩ = some (.int .u64 (m.length : Int)) := by
    rw [cell_of_row _ b 72 _ _ _ ((hl2.block b HBL.out).trans HR.out)]
    simp [sumCells, u32s, u8s, St.list, HI.out.len]
  change wpList _ _ _ _ _ ((w1.alloc (.cells blank 97)).setCells (w.heap.size + 1) 0 (sumCells (stOf m).list blk m.length))
  generalize (w1.alloc (.cells blank 97)).setCells (w.heap.size + 1) 0 (sumCells (stOf m).list blk m.length) = w2 at hr2 ho2 hl2 hc2
  have S2 := Lib.hid (show SumAt w2 (w.heap.size + 1) m from ⟨blk, hr2, HI.out⟩)
  have O2 := Lib.hid ho2
  have L2 := Lib.hid hl2
  have hlt2 : w.heap.size + 1 < w2.heap.size := lt_of_heap hr2
  clear hr2 ho2 hl2 hz hcl hsz h4 hb2 hth H1 H2 H3
  go_wp2_with fail
  refine (filling_any m.length _ (by omega)).mono ?_
  rintro e w3 ⟨⟨c, rfl, hc⟩, hcells, hb3⟩
  have C3 := Lib.hid hcells
  have S3 := Lib.hid (sum_below S2.out hb3)
  have O3 := Lib.hid ((hb3.block _ (by omega)).trans O2.out)
  have L3 := Lib.hid (L2.out.trans (hb3.mono (by omega)))
  have hz3 : w2.heap.size ≤ w3.heap.size := hb3.size
  have HC := Lib.hid hc
  clear hcells hb3 hc2 hc
  go_wp2_with fail
  refine (take_any (w.heap.size + 1) m (fill m.length) _ _ S3.out ⟨_, c, rfl, HC.out, .inr ⟨w2.heap.size, 0, rfl, by omega, fun j hj => by rw [Nat.zero_add]; exact C3.out j hj⟩⟩ (fill_small _) (by have := zeros_lt m.length; rw [fill_length]; omega)).mono ?_
  rintro e w4 ⟨rfl, ⟨blk4, hr4, hi4⟩, hg4⟩
  have R4 := Lib.hid hr4
  have O4 := Lib.hid ((hg4.block _ (by omega) (by simp)).trans O3.out)
  have L4 := Lib.hid (show Below w.heap.size w w4 from L3.out.grown hg4 (by omega) (by intro k hk; injection hk with hk; omega))
  have hz4 : w.heap.size + 1 < w4.heap.size := lt_of_heap hr4
  clear hr4 hi4 hg4
  go_upto_region 6 with (fail)
  obtain ⟨s, hs⟩ : ∃ s, s = stOf (m ++ fill m.length) := ⟨_, rfl⟩
  have hdg : digest m = out s := by rw [hs]; rfl
  have hsok : s.Ok := by rw [hs]; exact stOf_ok _
  have r4 := R4.out
  rw [← hs] at r4
  have N4 : EMem w.heap.size w4.heap.size [] w (w4.alloc (.cells (u8s (pad 32 [])).toArray 55)) :=
    ⟨(heap_alloc_old w4 _ (by omega)).trans O4.out, heap_alloc_new w4 _, L4.out.alloc (by omega) _⟩
  have hrg : (w4.alloc (.cells (u8s (pad 32 [])).toArray 55)).rangeAt (w.heap.size + 1) 0 (u32s s.list) := by
    intro j v hj
    have e := (heap_alloc_old w4 (.cells (u8s (pad 32 [])).toArray 55) hz4).trans r4
    have hjl : j < (u32s s.list).length := by
      rcases Nat.lt_or_ge j (u32s s.list).length with h' | h'
      · exact h'
      · rw [List.getElem?_eq_none h'] at hj; cases hj
    rw [cell_of_row _ (w.heap.size + 1) (0 + j) _ _ _ e, Nat.zero_add, List.getElem?_toArray, sumCells, List.getElem?_append_left hjl]
    exact hj
  have HN := Lib.hid N4
  have HDG := Lib.hid hdg
  change Code.wp _ _ _ _ (w4.alloc (.cells (u8s (pad 32 [])).toArray 55))
  have HHN : w.heap.size < w4.heap.size := by omega
  generalize w4.heap.size = N at HN HHN
  generalize w4.alloc (.cells (u8s (pad 32 [])).toArray 55) = w5 at HN hrg
  clear r4 R4 O4 L4 N4 hz4 S3 O3 L3 C3 S2 O2 L2 hs hdg hlt2 hz3 HC
  refine wp_region_lit ?_
  refine wpList_plain rfl (fun K hK => ?_)
  go_simp
  refine hK _ _ ?_
  clear hK K
  refine wpList_load_mid rfl 94 _ rfl (w.heap.size + 1) 0 rfl (u32s s.list) _ hrg Tryd.underlying94 rfl (by kernel_rfl) ?_
  clear hrg
  go_wp2_with fail
  go_loopw [22] (fun i wr => ∃ k : Nat, k ≤ 8 ∧ i = .int .i64 k ∧ EMem w.heap.size N ((out s).take (4 * k)) w wr) (fun i _ => 8 - (intOf i).toNat)
  case atStart => exact ⟨0, Nat.zero_le _, rfl, HN.out⟩
  case round =>
    obtain ⟨k, hk, rfl, hm1⟩ := hrel
    by_cases hlt : k < 8
    · have hix := index_u32 94 8 Tryd.underlying94 s.list rfl k hlt wr
      have hx := getD_lt hsok.all (by decide) k
      have HM1 := Lib.hid hm1
      have HV := Lib.hid (fun j (hj : j < 4) => out_snoc s k j hlt hj)
      generalize s.list.getD k 0 = x at hix hx HV
      clear hm1
      go_wp2_with fail
      go_loopw [26] (fun i wr => ∃ j : Nat, j ≤ 4 ∧ i = .int .i64 j ∧ EMem w.heap.size N ((out s).take (4 * k + j)) w wr) (fun i _ => 4 - (intOf i).toNat)
      case atStart => exact ⟨0, Nat.zero_le _, rfl, HM1.out⟩
      case round =>
        obtain ⟨j, hj, rfl, hm2⟩ := hrel
        by_cases hlt2 : j < 4
        · have HM2 := Lib.hid hm2
          have hlen : ((out s).take (4 * k + j)).length = 4 * k + j := by rw [List.length_take, out_length]; omega
          have c0 : wr.cell? ⟨N, 4 * k + j, none⟩ = some (.int .u8 (((pad 32 ((out s).take (4 * k + j))).getD (4 * k + j) 0 : Nat) : Int)) :=
            (cell_of_row wr N (4 * k + j) _ _ _ hm2.row).trans (u8s_at (by rw [pad_length (by omega)]; omega))
          have f0 : wr.frozen? ⟨N, 4 * k + j, none⟩ = false := frozen_of_row wr N (4 * k + j) _ _ hm2.row
          generalize (pad 32 ((out s).take (4 * k + j))).getD (4 * k + j) 0 = y at c0
          have HL := Lib.hid hlen
          have hi0 : (0 : Int) ≤ 4 * (k : Int) + (j : Int) := by omega
          have hi1 : 4 * (k : Int) + (j : Int) < 32 := by omega
          have hi2 : (0 : Int) ≤ 24 - 8 * (j : Int) := by omega
          have hi3 : 24 - 8 * (j : Int) ≤ 24 := by omega
          have hi4 : (4 * (k : Int) + (j : Int)).toNat = 4 * k + j := by omega
          clear hm2 hlen hix
          go_wp2_with fail
          go_roundw
          case rel =>
            refine ⟨j + 1, by omega, by go_num, ?_⟩
            have hv : ((x : Int) / 2 ^ (24 - 8 * j) % 256) = (((bytes4 x).getD j 0 : Nat) : Int) := by rw [← bytes4_val x j hlt2]; simp
            rw [hv, HV.out j hlt2]
            have := HM2.out.alone (by rw [HL.out]; omega) HHN ((bytes4 x).getD j 0)
            rw [HL.out] at this
            exact this
          case measure => simp [intOf]; omega
        · have e : j = 4 := by omega
          rw [e] at hm2
          have HM2 := Lib.hid hm2
          have hge : 4 ≤ j := by omega
          clear hm2 hlt2 e hix
          go_wp2_with fail
          go_roundw
          case rel => exact ⟨k + 1, by omega, by go_num, HM2.out⟩
          case measure => simp [intOf]; omega
    · have e : k = 8 := by omega
      rw [e] at hm1
      have ho : (out s).take (4 * 8) = out s := List.take_of_length_le (by rw [out_length]; decide)
      rw [ho] at hm1
      have HM1 := Lib.hid hm1
      have hge : 8 ≤ k := by omega
      clear hm1 hlt e ho
      go_upto_region 15 with (fail)
      have hrow := HM1.out.row
      have hres := HM1.out.res
      rw [pad_full (out_length s)] at hrow
      have hsz : (u8s (out s)).toArray.size = 32 := by rw [List.size_toArray, u8s_length, out_length]
      have hth : wr.there w.heap.size 0 (u8s (out s)).toArray.size := there_of_block hres 0 _ (by rw [hsz]; decide)
      have hend : ((wr.setCells w.heap.size 0 (u8s (out s)).toArray.toList).heap[w.heap.size]? = some (.cells (u8s (out s)).toArray 55 (0, 0))) := by
        have := heap_setCells w.heap.size 55 (0, 0) (u8s (out s)) 0 wr _ hres (by rw [u8s_length, u8s_length, pad_length (by decide), out_length]; decide)
        rw [this, Nat.zero_add, List.take_zero, List.nil_append, List.drop_of_length_le (by rw [u8s_length, u8s_length, pad_length (by decide), out_length]; decide), List.append_nil]
      have HE := Lib.hid hend
      clear hend hres
      refine wp_region_lit ?_
      refine wpList_load_row rfl 55 _ rfl N rfl 55 _ _ _ hrow Tryd.underlying55 rfl (by rw [hsz]; kernel_rfl) ?_
      refine wpList_store_mid rfl 55 _ _ rfl w.heap.size 0 _ rfl rfl hth (by rw [hsz]; kernel_rfl) (u8s_cells _) ?_
      clear hrow hth
      have HB := Lib.hid (below_setCells w.heap.size (Nat.le_refl _) (u8s (out s)).toArray.toList 0 _ HM1.out.old)
      generalize wr.setCells w.heap.size 0 (u8s (out s)).toArray.toList = wz at HE HB
      go_wp2_with fail
      exact bodyPost_ret (v := .agg (u8s (out s)).toArray) (results_cell_row rfl _ _ w.heap.size 55 _ (0, 0) _ rfl HE.out Tryd.underlying55 rfl (by rw [hsz]; kernel_rfl)) rfl ⟨by rw [HDG.out], HB.out⟩
end Sha
end Go.Proofs.YtdiidfkmmgcjmaaDoor
