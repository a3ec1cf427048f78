/- 'Tag' of package mac is the beginning of the code. -/
import Derived.Test.YtdiidfkmmgcjmaaDoorMacCode
set_option maxRecDepth 100000
namespace Go.Proofs.YtdiidfkmmgcjmaaDoor
open Go.RowKit
namespace Sha
theorem put_row {w : World} {b : Nat} {T : TypeId} {C D : List Nat} (hD : D.length = C.length) (h : w.heap[b]? = some (.cells (u8s C).toArray T (0, 0))) :
    (w.setCells b 0 (u8s D).toArray.toList).heap[b]? = some (.cells (u8s D).toArray T (0, 0)) := by
  have := heap_setCells b T (0, 0) (u8s D) 0 w _ h (by rw [u8s_length, u8s_length, hD]; omega)
  rw [this, Nat.zero_add, List.take_zero, List.nil_append, List.drop_of_length_le (by rw [u8s_length, u8s_length, hD]; exact Nat.le_refl _), List.append_nil]
/-- The memory of 'Tag': its result, a digest in block N. -/
structure TMem (H N : Nat) (D : List Nat) (w0 w : World) : Prop where
  res : w.heap[H]? = some (.cells (u8s (pad 16 [])).toArray 47 (0, 0))
  dg : w.heap[N]? = some (.cells (u8s D).toArray 55 (0, 0))
  old : Below H w0 w
theorem TMem.below {H N : Nat} {D : List Nat} {w0 w w1 : World} (h : TMem H N D w0 w) (hb : Below w.heap.size w w1) : TMem H N D w0 w1 :=
  ⟨(hb.block _ (lt_of_heap h.res)).trans h.res, (hb.block _ (lt_of_heap h.dg)).trans h.dg, h.old.trans (hb.mono (Nat.le_of_lt (lt_of_heap h.res)))⟩
theorem TMem.grown {H N M : Nat} {D : List Nat} {w0 w w1 : World} (h : TMem H N D w0 w) (hg : w.grownBy w1 (some M)) (h1 : H < M) (h2 : N ≠ M) : TMem H N D w0 w1 :=
  ⟨(hg.block _ (lt_of_heap h.res) (by intro e; injection e with e; omega)).trans h.res, (hg.block _ (lt_of_heap h.dg) (by intro e; injection e with e; omega)).trans h.dg, h.old.grown hg (Nat.le_of_lt (lt_of_heap h.res)) (by intro k hk; injection hk with hk; omega)⟩
attribute [local go_sem ↓] Go.wp_at_zero Go.wp_at_succ
set_option maxRecDepth 100000 in
set_option maxHeartbeats 2000000 in
theorem tag_any (ad : Option Addr) (n cap : Nat) (key : List Nat) (v : Value) (ps : List (List Nat)) (w : World) (hB : BytesIn w (.slice ad n cap) key) (h8 : ∀ x ∈ key, x < 256) (hn : n < 1000000) (hP : PartsIn w v ps) (hp8 : ∀ p ∈ ps, ∀ x ∈ p, x < 256) (hm : ps.flatten.length < 700000000) (hps : ps.length < 1000000) :
    Calls Tryd.prog 20 #[.slice ad n cap, v] w fun e w' => e = .returned (.agg (u8s ((hmac key ps.flatten).take 16)).toArray) ∧ Below w.heap.size w w' := by
  have HB := Lib.hid hB
  have H8 := Lib.hid h8
  have HP := Lib.hid hP
  have HP8 := Lib.hid hp8
  have HM := Lib.hid hm
  have HPS := Lib.hid hps
  clear hB h8 hP hp8 hm hps
  go_enter Tryd.func20, Tryd.ntmps20
  go_upto_region 1 with (fail)
  have h1 : (w.alloc (.cells (u8s (pad 16 [])).toArray 47)).heap[w.heap.size]? = some (.cells (u8s (pad 16 [])).toArray 47 (0, 0)) := heap_alloc_new w _
  have h3 : Below w.heap.size w (w.alloc (.cells (u8s (pad 16 [])).toArray 47)) := (Below.refl _ _).alloc (Nat.le_refl _) _
  change Code.wp _ _ _ _ (w.alloc (.cells (u8s (pad 16 [])).toArray 47))
  generalize w.alloc (.cells (u8s (pad 16 [])).toArray 47) = w1 at h1 h3
  have F1 := Lib.hid h1
  have B1 := Lib.hid h3
  clear h1 h3
  go_wp2_with fail
  refine (code_any ad n cap key v ps _ (bytes_below HB.out B1.out) H8.out hn (parts_below HP.out B1.out) HP8.out HM.out HPS.out).mono ?_
  rintro e w2 ⟨rfl, hb2⟩
  have HDL := Lib.hid (hmac_length key ps.flatten)
  generalize hD : hmac key ps.flatten = D at HDL ⊢
  have HD := Lib.hid hD
  clear hD
  have F2 := Lib.hid ((hb2.block _ (lt_of_heap F1.out)).trans F1.out)
  have B2 := Lib.hid (B1.out.trans (hb2.mono B1.out.size))
  clear hb2 F1 B1
  dsimp only
  rename_i hK
  refine hK _ _ ?_
  clear hK
  refine wpList_plain rfl (fun K hK => ?_)
  go_simp
  refine hK _ _ ?_
  clear hK K
  have hbk : (w2.alloc (.cells (u8s (pad 32 [])).toArray 55)).heap[w2.heap.size]? = some (.cells (u8s (pad 32 [])).toArray 55 (0, 0)) := heap_alloc_new w2 _
  have hbl := B2.out.alloc B2.out.size (.cells (u8s (pad 32 [])).toArray 55)
  have hfr := (heap_alloc_old w2 (.cells (u8s (pad 32 [])).toArray 55) (lt_of_heap F2.out)).trans F2.out
  have hN : w.heap.size < w2.heap.size := lt_of_heap F2.out
  change wpList _ _ _ _ _ (w2.alloc (.cells (u8s (pad 32 [])).toArray 55))
  generalize w2.alloc (.cells (u8s (pad 32 [])).toArray 55) = w3 at hbk hbl hfr
  clear F2 B2
  generalize w2.heap.size = N at hbk hN
  have hsz : (u8s D).toArray.size = 32 := by rw [List.size_toArray, u8s_length, HDL.out]
  refine wpList_store_mid rfl 55 _ _ rfl N 0 _ rfl rfl (there_of_block hbk 0 _ (by rw [hsz]; decide)) (by rw [hsz]; kernel_rfl) (u8s_cells _) ?_
  have T4 := Lib.hid (show TMem w.heap.size N D w (w3.setCells N 0 (u8s D).toArray.toList) from
    ⟨((gsetCells N _ 0 w3).block _ (lt_of_heap hfr) (by intro e; injection e with e; omega)).trans hfr, put_row (by rw [HDL.out, pad_length (by decide)]) hbk, below_setCells N (Nat.le_of_lt hN) _ 0 _ hbl⟩)
  change wpList _ _ _ _ _ (w3.setCells N 0 (u8s D).toArray.toList)
  generalize w3.setCells N 0 (u8s D).toArray.toList = w4 at T4
  clear hbk hbl hfr hsz
  go_upto_region 3 with (fail)
  have hl4 : N < w4.heap.size := lt_of_heap T4.out.dg
  have hc5 : (w4.alloc (.cells (u8s (pad 16 [])).toArray 47)).heap[w4.heap.size]? = some (.cells (u8s (pad 16 [])).toArray 47 (0, 0)) := heap_alloc_new w4 _
  have T5 := Lib.hid (T4.out.below ((Below.refl _ _).alloc (Nat.le_refl _) (.cells (u8s (pad 16 [])).toArray 47)))
  change Code.wp _ _ _ _ (w4.alloc (.cells (u8s (pad 16 [])).toArray 47))
  generalize w4.alloc (.cells (u8s (pad 16 [])).toArray 47) = w5 at hc5 T5
  clear T4
  generalize w4.heap.size = M at hc5 hl4
  have HC5 := Lib.hid hc5
  clear hc5
  go_still_tail 2, (by kernel_rfl)
  change wpList _ _ _ _ _ w5.drew
  have HC6 := Lib.hid (show w5.drew.heap[M]? = some (.cells (u8s (pad 16 [])).toArray 47 (0, 0)) from HC5.out)
  have T6 := Lib.hid (T5.out.below ((Below.refl w5.heap.size w5).drew))
  generalize w5.drew = w6 at HC6 T6
  clear HC5 T5
  refine copy_row rfl (.tmp 10) (.tmp 11) rfl 47 M 16 16 (pad 16 []) D (by decide) rfl _ rfl (row_all T6.out.dg HDL.out) HC6.out ?_
  intro w7 hb7 hg7
  have hcut : D.take 16 ++ (pad 16 []).drop D.length = D.take 16 := by
    rw [HDL.out, List.drop_of_length_le (by decide), List.append_nil]
  rw [hcut] at hb7
  have HTL := Lib.hid (show (D.take 16).length = 16 by rw [List.length_take, HDL.out]; decide)
  have T7 := Lib.hid (T6.out.grown hg7 (by omega) (by omega))
  have HB7 := Lib.hid hb7
  clear hcut hb7 hg7 HC6 T6
  generalize hE : D.take 16 = E at HTL HB7
  have HE := Lib.hid hE
  clear hE
  have hsz : (u8s E).toArray.size = 16 := by rw [List.size_toArray, u8s_length, HTL.out]
  go_upto_region 4 with (fail)
  refine wp_region_lit ?_
  refine wpList_load_row rfl 47 _ rfl M rfl 47 _ _ _ HB7.out Tryd.underlying47 rfl (by rw [hsz]; kernel_rfl) ?_
  refine wpList_store_mid rfl 47 _ _ rfl w.heap.size 0 _ rfl rfl (there_of_block T7.out.res 0 _ (by rw [hsz]; decide)) (by rw [hsz]; kernel_rfl) (u8s_cells _) ?_
  have FZ := Lib.hid (put_row (D := E) (by rw [HTL.out, pad_length (by decide)]) T7.out.res)
  have BZ := Lib.hid (below_setCells w.heap.size (Nat.le_refl _) (u8s E).toArray.toList 0 _ T7.out.old)
  generalize w7.setCells w.heap.size 0 (u8s E).toArray.toList = wz at FZ BZ
  clear hsz
  go_wp2_with fail
  exact bodyPost_ret (v := .agg (u8s E).toArray) (results_cell_row rfl _ _ w.heap.size 47 _ (0, 0) _ rfl FZ.out Tryd.underlying47 rfl (by rw [List.size_toArray, u8s_length, HTL.out]; kernel_rfl)) rfl ⟨by rw [HD.out, HE.out], BZ.out⟩
end Sha
end Go.Proofs.YtdiidfkmmgcjmaaDoor
