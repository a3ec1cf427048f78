/- 'spread' of package hash: the words of a block. -/
import Derived.Test.YtdiidfkmmgcjmaaDoorShaLeaf
import Derived.Test.YtdiidfkmmgcjmaaDoorBunBase
import Derived.StillTailTactics
import Derived.Deep.RegionHeld3
import Derived.Deep.DrawnRows
import Derived.Deep.Cut
set_option maxRecDepth 100000
namespace Go.Proofs.YtdiidfkmmgcjmaaDoor
open Go.RowKit
namespace Sha
/-- The memory of 'spread': its block, its result, its words. -/
structure Mem (H : Nat) (b l : List Nat) (w0 w : World) : Prop where
  blk : w.heap[H]? = some (.cells (u8s b).toArray 70 (0, 0))
  res : w.heap[H + 1]? = some (.cells (u32s (pad 64 [])).toArray 107 (0, 0))
  row : w.heap[H + 2]? = some (.cells (u32s (pad 64 l)).toArray 107 (0, 0))
  old : Below H w0 w

theorem arr_blk : Tryd.prog.underlying 70 = some (.array (Tryd.prog.arrayLen 70) (Tryd.prog.elem 70)) := by kernel_rfl
theorem len_blk : Tryd.prog.arrayLen 70 = 64 := by kernel_rfl
theorem slice_blk (H k : Nat) (hk : k < 16) (w : World) :
    (Instr.sliceAt 70 (.pointer (some ⟨H, 0, none⟩)) (some (.int .i64 (4 * (k : Int)))) (some (.int .i64 (4 * (k : Int) + 4))) none).run Tryd.prog w = .ok (.slice (some ⟨H, 4 * k, none⟩) 4 (64 - 4 * k)) w := by
  have hs : ((sizeOf (Tryd.prog.elem 70)).run Tryd.prog w) = .ok 1 w := by kernel_rfl
  rw [run_sliceAt_array_lh (P := Tryd.prog) w 70 _ arr_blk _ _ _ _ (by omega) (by omega) (by rw [len_blk]; omega), len_blk, hs]
  have e1 : (4 * (k : Int)).toNat = 4 * k := by omega
  have e2 : (4 * (k : Int) + 4).toNat = 4 * k + 4 := by omega
  simp only [Result.andThen, slicedAt, e1, e2, Addr.add]
  rw [if_neg (by omega)]
  simp
  omega

theorem Mem.alone {H : Nat} {b l : List Nat} {w0 w : World} (h : Mem H b l w0 w) (hl : l.length < 64) (v : Nat) :
    Mem H b (l ++ [v]) w0 (w.setCell ⟨H + 1 + 1, l.length, none⟩ (.int .u32 (v : Int))) := by
  refine ⟨(heap_setCell_other w _ H _ (by simp; omega)).trans h.blk, (heap_setCell_other w _ (H + 1) _ (by simp)).trans h.res, ?_, h.old.setCell (by simp; omega) _⟩
  have := heap_setCell_same w (H + 2) l.length _ _ (.int .u32 (v : Int)) h.row
  rw [u32s_set, pad_snoc v hl] at this
  exact this
theorem Mem.drewN {H : Nat} {b l : List Nat} {w0 w : World} (h : Mem H b l w0 w) (n : Nat) : Mem H b l w0 (w.drewN n) :=
  ⟨h.blk, h.res, h.row, ⟨h.old.os, h.old.tape, h.old.output, h.old.size, h.old.block⟩⟩
theorem wnext_val {l : List Nat} {k : Nat} (hl : l.length = k + 16) :
    Value.int .u32 ((((((ssig1 (l.getD (k + 14) 0) : Nat) : Int) + ((l.getD (k + 9) 0 : Nat) : Int)) % 4294967296 + ((ssig0 (l.getD (k + 1) 0) : Nat) : Int)) % 4294967296 + ((l.getD k 0 : Nat) : Int)) % 4294967296) = .int .u32 ((wnext l : Nat) : Int) := by
  unfold wnext
  rw [hl, show k + 16 - 2 = k + 14 by omega, show k + 16 - 7 = k + 9 by omega, show k + 16 - 15 = k + 1 by omega, show k + 16 - 16 = k by omega]
  simp
theorem mul24 {x : Nat} (h : x < 256) : x * 16777216 < 4294967296 := by omega
theorem mul16 {x : Nat} (h : x < 256) : x * 65536 < 4294967296 := by omega
theorem mul8 {x : Nat} (h : x < 256) : x * 256 < 4294967296 := by omega
theorem be4_val {b : List Nat} (h : ∀ x ∈ b, x < 256) (k : Nat) :
    Value.int .u32 (bits .or .u32 (bits .or .u32 (bits .or .u32 (((b.getD (4 * k) 0 : Nat) : Int) * 16777216) (((b.getD (4 * k + 1) 0 : Nat) : Int) * 65536)) (((b.getD (4 * k + 2) 0 : Nat) : Int) * 256)) ((b.getD (4 * k + 3) 0 : Nat) : Int)) = .int .u32 ((be4 b k : Nat) : Int) := by
  have b0 := getD_lt h (by decide) (4 * k)
  have b1 := getD_lt h (by decide) (4 * k + 1)
  have b2 := getD_lt h (by decide) (4 * k + 2)
  have b3 := getD_lt h (by decide) (4 * k + 3)
  unfold be4
  have c0 := mul24 b0
  have c1 := mul16 b1
  have c2 := mul8 b2
  rw [Nat.mod_eq_of_lt c0, Nat.mod_eq_of_lt c1, Nat.mod_eq_of_lt c2]
  generalize b.getD (4 * k) 0 = x0 at *
  generalize b.getD (4 * k + 1) 0 = x1 at *
  generalize b.getD (4 * k + 2) 0 = x2 at *
  generalize b.getD (4 * k + 3) 0 = x3 at *
  have d0 : (x0 : Int) * 16777216 = ((x0 * 16777216 : Nat) : Int) := by simp
  have d1 : (x1 : Int) * 65536 = ((x1 * 65536 : Nat) : Int) := by simp
  have d2 : (x2 : Int) * 256 = ((x2 * 256 : Nat) : Int) := by simp
  have c3 : x3 < 4294967296 := by omega
  rw [d0, d1, d2]
  rw [u32_or_nat _ _ c0 c1, u32_or_nat _ _ (or_lt c0 c1) c2, u32_or_nat _ _ (or_lt (or_lt c0 c1) c2) c3]

attribute [local go_sem ↓] Go.wp_at_zero Go.wp_at_succ
set_option maxHeartbeats 2000000 in
theorem spread_any (b : List Nat) (w : World) (hb : b.length = 64) (h8 : ∀ x ∈ b, x < 256) :
    Calls Tryd.prog 49 #[.agg (u8s b).toArray] w fun e w' => e = .returned (.agg (u32s (words b)).toArray) ∧ Below w.heap.size w w' := by
  go_enter Tryd.func49, Tryd.ntmps49
  go_wp2_with fail
  go_loopw [7] (fun i wr => ∃ k : Nat, k ≤ 16 ∧ i = .int .i64 k ∧ Mem w.heap.size b (wfirst b k) w wr) (fun i _ => 16 - (intOf i).toNat)
  case atStart =>
    refine ⟨0, Nat.zero_le _, rfl, ?_⟩
    refine ⟨?_, ?_, ?_, ((((Below.refl _ _).alloc (Nat.le_refl _) _).alloc (by simp) _).alloc (by simp; omega) _)⟩
    · exact (heap_alloc3 w _ _ _).1
    · exact (heap_alloc3 w _ _ _).2.1
    · exact (heap_alloc3 w _ _ _).2.2
  case round =>
    obtain ⟨k, hk, rfl, hm⟩ := hrel
    by_cases hlt : k < 16
    · have HM := Lib.hid hm
      clear hm
      have hsl := slice_blk w.heap.size k hlt wr
      go_wp2_with fail
      have hc0 := (cell_of_row wr w.heap.size (4 * k) _ _ _ HM.out.blk).trans (u8s_at (l := b) (i := 4 * k) (by omega))
      have hc1 := (cell_of_row wr w.heap.size (4 * k + 1) _ _ _ HM.out.blk).trans (u8s_at (l := b) (i := 4 * k + 1) (by omega))
      have hc2 := (cell_of_row wr w.heap.size (4 * k + 2) _ _ _ HM.out.blk).trans (u8s_at (l := b) (i := 4 * k + 2) (by omega))
      have hc3 := (cell_of_row wr w.heap.size (4 * k + 3) _ _ _ HM.out.blk).trans (u8s_at (l := b) (i := 4 * k + 3) (by omega))
      have b0 := getD_lt h8 (by decide) (4 * k)
      have b1 := getD_lt h8 (by decide) (4 * k + 1)
      have b2 := getD_lt h8 (by decide) (4 * k + 2)
      have b3 := getD_lt h8 (by decide) (4 * k + 3)
      have HV := Lib.hid (be4_val h8 k)
      generalize b.getD (4 * k) 0 = x0 at hc0 b0 HV
      generalize b.getD (4 * k + 1) 0 = x1 at hc1 b1 HV
      generalize b.getD (4 * k + 2) 0 = x2 at hc2 b2 HV
      generalize b.getD (4 * k + 3) 0 = x3 at hc3 b3 HV
      have hi0 : (0 : Int) ≤ (k : Int) := by omega
      have hi1 : (k : Int) < 64 := by omega
      go_still_tail 24, (by kernel_rfl)
      change wpList _ _ _ _ _ wr.drew
      have hcs : wr.cell? ⟨w.heap.size + 1 + 1, k, none⟩ = some (.int .u32 ((pad 64 (wfirst b k)).getD k 0 : Nat)) := (cell_of_row wr (w.heap.size + 2) k _ _ _ HM.out.row).trans (u32s_at (by rw [pad_length (by rw [wfirst_length]; omega)]; omega))
      have hfs : wr.frozen? ⟨w.heap.size + 1 + 1, k, none⟩ = false := frozen_of_row wr (w.heap.size + 2) k _ _ HM.out.row
      go_wp2
      go_roundw
      case rel =>
        refine ⟨k + 1, by omega, by go_num, ?_⟩
        rw [HV.out, wfirst]
        have := HM.out.alone (by rw [wfirst_length]; omega) (be4 b k)
        rw [wfirst_length] at this
        exact this.drewN 1
      case measure => simp [intOf]; omega
    · have e : k = 16 := by omega
      rw [e] at hm
      have HM := Lib.hid hm
      have hge : 16 ≤ k := by omega
      clear hm hlt e
      go_wp2_with fail
      go_loopw [6] (fun i wr => ∃ k : Nat, k ≤ 48 ∧ i = .int .i64 (k + 16) ∧ Mem w.heap.size b (wext (wfirst b 16) k) w wr) (fun i _ => 64 - (intOf i).toNat)
      case atStart => exact ⟨0, Nat.zero_le _, rfl, HM.out⟩
      case round =>
        obtain ⟨j, hj, rfl, hm⟩ := hrel
        by_cases hlt : j < 48
        · have hi0 : (0 : Int) ≤ (j : Int) + 16 := by omega
          have hi1 : (j : Int) + 16 < 64 := by omega
          have HM := Lib.hid hm
          clear hm
          have hi2 : (j : Int) + 14 < 64 := by omega
          have hi3 : (j : Int) + 9 < 64 := by omega
          have hi4 : (j : Int) + 1 < 64 := by omega
          have hi5 : (j : Int) < 64 := by omega
          have hi6 : (0 : Int) ≤ (j : Int) + 14 := by omega
          have hi7 : (0 : Int) ≤ (j : Int) + 9 := by omega
          have hi8 : (0 : Int) ≤ (j : Int) + 1 := by omega
          have hi9 : (0 : Int) ≤ (j : Int) := by omega
          have hl : (wext (wfirst b 16) j).length = j + 16 := by rw [wext_length, wfirst_length]; omega
          have hlt32 := wext_lt (wfirst_lt h8 16) j
          have HN := Lib.hid (show wext (wfirst b 16) (j + 1) = wext (wfirst b 16) j ++ [wnext (wext (wfirst b 16) j)] from rfl)
          generalize wext (wfirst b 16) j = l at HM HN hl hlt32
          have row := HM.out.row
          have x0 := (cell_of_row wr (w.heap.size + 2) (j + 14) _ _ _ row).trans (u32s_at (l := pad 64 l) (by rw [pad_length (by omega)]; omega))
          have x1 := (cell_of_row wr (w.heap.size + 2) (j + 9) _ _ _ row).trans (u32s_at (l := pad 64 l) (by rw [pad_length (by omega)]; omega))
          have x2 := (cell_of_row wr (w.heap.size + 2) (j + 1) _ _ _ row).trans (u32s_at (l := pad 64 l) (by rw [pad_length (by omega)]; omega))
          have x3 := (cell_of_row wr (w.heap.size + 2) j _ _ _ row).trans (u32s_at (l := pad 64 l) (by rw [pad_length (by omega)]; omega))
          have x4 := (cell_of_row wr (w.heap.size + 2) (j + 16) _ _ _ row).trans (u32s_at (l := pad 64 l) (by rw [pad_length (by omega)]; omega))
          have x5 : wr.frozen? ⟨w.heap.size + 1 + 1, j + 16, none⟩ = false := frozen_of_row wr (w.heap.size + 2) (j + 16) _ _ row
          rw [pad_getD (by omega)] at x0 x1 x2 x3
          generalize (pad 64 l).getD (j + 16) 0 = v4 at x4
          have y0 := getD_lt hlt32 (by decide) (j + 14)
          have y1 := getD_lt hlt32 (by decide) (j + 9)
          have y2 := getD_lt hlt32 (by decide) (j + 1)
          have y3 := getD_lt hlt32 (by decide) j
          have HL := Lib.hid hl
          have HV := Lib.hid (wnext_val hl)
          clear row hl hlt32
          generalize l.getD (j + 14) 0 = v0 at x0 y0 HV
          generalize l.getD (j + 9) 0 = v1 at x1 y1 HV
          generalize l.getD (j + 1) 0 = v2 at x2 y2 HV
          generalize l.getD j 0 = v3 at x3 y3 HV
          clear hi0
          have hi0 : (0 : Int) ≤ (j : Int) + 16 := by omega
          go_wp2_with fail
          have e0 : IntKind.i64.wrap ((j : Int) + 16 - 2) = (j : Int) + 14 := by rw [IntWalk.i64_in _ (by omega)]; omega
          have e1 : IntKind.i64.wrap ((j : Int) + 16 - 7) = (j : Int) + 9 := by rw [IntWalk.i64_in _ (by omega)]; omega
          have e2 : IntKind.i64.wrap ((j : Int) + 16 - 15) = (j : Int) + 1 := by rw [IntWalk.i64_in _ (by omega)]; omega
          have e3 : IntKind.i64.wrap ((j : Int) + 16 - 16) = (j : Int) := by rw [IntWalk.i64_in _ (by omega)]; omega
          have e4 : IntKind.i64.wrap (j : Int) = (j : Int) := by rw [IntWalk.i64_in _ (by omega)]
          have f0 : ((j : Int) + 14).toNat = j + 14 := by omega
          have f1 : ((j : Int) + 9).toNat = j + 9 := by omega
          have f2 : ((j : Int) + 1).toNat = j + 1 := by omega
          have f3 : ((j : Int) + 16).toNat = j + 16 := by omega
          go_region_held3 (fun w' => w'.cell? ⟨w.heap.size + 1 + 1, j + 14, none⟩ = some (.int .u32 (v0 : Int)) ∧ w'.cell? ⟨w.heap.size + 1 + 1, j + 9, none⟩ = some (.int .u32 (v1 : Int)) ∧ w'.cell? ⟨w.heap.size + 1 + 1, j + 1, none⟩ = some (.int .u32 (v2 : Int)) ∧ w'.cell? ⟨w.heap.size + 1 + 1, j, none⟩ = some (.int .u32 (v3 : Int)))
            (first | go_keep | (refine ⟨keep_cell (by omega) ?_, keep_cell (by omega) ?_, keep_cell (by omega) ?_, keep_cell (by omega) ?_⟩ <;> go_keep))
            (first | (go_at_call 54; refine (ssig1_any _ _ ?_).mono ?_; (simp [*]); rintro e w' ⟨rfl, kk, rfl⟩) | (go_at_call 55; refine (ssig0_any _ _ ?_).mono ?_; (simp [*]); rintro e w' ⟨rfl, kk, rfl⟩))
          rename_i kk1 hHeld
          clear hHeld e0 e1 e2 e3 e4 f0 f1 f2 f3 x0 x1 x2 x3
          go_wp2_with fail
          go_roundw
          case rel =>
            refine ⟨j + 1, by omega, by go_num, ?_⟩
            rw [HV.out, HN.out]
            have := (HM.out.drewN (1 + kk1 + kk)).alone (by rw [HL.out]; omega) (wnext l)
            rw [HL.out] at this
            exact this
          case measure => simp only [intOf]; omega
        · have e : j = 48 := by omega
          rw [e] at hm
          have HM := Lib.hid (show Mem w.heap.size b (words b) w wr from hm)
          have hge : 48 ≤ j := by omega
          clear hm hlt e
          go_upto_region 12 with (fail)
          have hrow := HM.out.row
          have hres := HM.out.res
          have hlen := words_length b
          rw [pad_full hlen] at hrow
          have hsz : (u32s (words b)).toArray.size = 64 := by simp [u32s, hlen]
          have hth : wr.there (w.heap.size + 1) 0 (u32s (words b)).toArray.size := there_of_block hres 0 _ (by rw [hsz]; decide)
          have hend : ((wr.setCells (w.heap.size + 1) 0 (u32s (words b)).toArray.toList).heap[w.heap.size + 1]? = some (.cells (u32s (words b)).toArray 107 (0, 0))) := by
            have := heap_setCells (w.heap.size + 1) 107 (0, 0) (u32s (words b)) 0 wr _ hres (by rw [u32s_length, u32s_length, pad_length (by decide), hlen]; decide)
            rw [this]
            simp [u32s_length, hlen, pad]
          have HE := Lib.hid hend
          clear hend hres
          refine wp_region_lit ?_
          refine wpList_load_row rfl 107 _ rfl (w.heap.size + 2) rfl 107 _ _ _ hrow Tryd.underlying107 rfl (by rw [hsz]; kernel_rfl) ?_
          refine wpList_store_mid rfl 107 _ _ rfl (w.heap.size + 1) 0 _ rfl rfl hth (by rw [hsz]; kernel_rfl) (u32s_cells _) ?_
          clear hrow hth
          generalize hwz : wr.setCells (w.heap.size + 1) 0 (u32s (words b)).toArray.toList = wz at HE
          have HW := Lib.hid hwz
          clear hwz
          go_wp2_with fail
          exact bodyPost_ret (v := .agg (u32s (words b)).toArray) (results_cell_row rfl _ _ (w.heap.size + 1) 107 _ (0, 0) _ rfl HE.out Tryd.underlying107 rfl (by rw [hsz]; kernel_rfl)) rfl ⟨rfl, by rw [← HW.out]; exact below_setCells _ (Nat.le_succ _) _ _ _ HM.out.old⟩
end Sha
end Go.Proofs.YtdiidfkmmgcjmaaDoor
