/- 'Of' of package hash is the sum of its parts. -/
import Derived.Test.YtdiidfkmmgcjmaaDoorShaEnd
import Derived.Test.YtdiidfkmmgcjmaaDoorBunBase
set_option maxRecDepth 100000
namespace Go.Proofs.YtdiidfkmmgcjmaaDoor
open Go.RowKit
namespace Sha
/-- v is a slice of the slices ps. -/
def PartsIn (w : World) (v : Value) (ps : List (List Nat)) : Prop :=
  ∃ ad cap, v = .slice ad ps.length cap ∧ (ps = [] ∨ ∃ g off, ad = some ⟨g, off, none⟩ ∧ ∀ j, j < ps.length → ∃ u, w.cell? ⟨g, off + j, none⟩ = some u ∧ BytesIn w u (ps.getD j []))
theorem bytes_in {w : World} {v : Value} {xs : List Nat} (h : BytesIn w v xs) {b : Nat} (hb : w.heap.size ≤ b) : BytesAt w b v xs := by
  obtain ⟨ad, cap, rfl, hcap, hc⟩ := h
  refine ⟨ad, cap, rfl, hcap, ?_⟩
  rcases hc with h0 | ⟨g, off, rfl, hc⟩
  · exact .inl h0
  · by_cases h0 : xs.length = 0
    · exact .inl (List.eq_nil_of_length_eq_zero h0)
    · have hg : g < w.heap.size := block_lt_of_cell (hc 0 (by omega))
      exact .inr ⟨g, off, rfl, by omega, hc⟩
theorem parts_below {w w1 : World} {v : Value} {ps : List (List Nat)} (h : PartsIn w v ps) (hb : Below w.heap.size w w1) : PartsIn w1 v ps := by
  obtain ⟨ad, cap, rfl, hc⟩ := h
  refine ⟨ad, cap, rfl, ?_⟩
  rcases hc with h0 | ⟨g, off, rfl, hc⟩
  · exact .inl h0
  · refine .inr ⟨g, off, rfl, fun j hj => ?_⟩
    obtain ⟨u, hu, hbu⟩ := hc j hj
    exact ⟨u, (hb.cell (p := ⟨g, off + j, none⟩) (block_lt_of_cell hu)).trans hu, bytes_below hbu hb⟩
theorem parts_at {w w1 : World} {v : Value} {ps : List (List Nat)} (h : PartsIn w v ps) (hb : Below w.heap.size w w1) {b : Nat} (hlt : w.heap.size ≤ b) : PartsAt w1 b v ps := by
  obtain ⟨ad, cap, rfl, hc⟩ := h
  refine ⟨ad, cap, rfl, ?_⟩
  rcases hc with h0 | ⟨g, off, rfl, hc⟩
  · exact .inl h0
  · by_cases h0 : ps.length = 0
    · exact .inl (List.eq_nil_of_length_eq_zero h0)
    · have hg : g < w.heap.size := by obtain ⟨u, hu, _⟩ := hc 0 (by omega); exact block_lt_of_cell hu
      refine .inr ⟨g, off, rfl, by omega, fun j hj => ?_⟩
      obtain ⟨u, hu, hbu⟩ := hc j hj
      refine ⟨u, (hb.cell (p := ⟨g, off + j, none⟩) (block_lt_of_cell hu)).trans hu, ?_⟩
      have := bytes_in hbu hlt
      obtain ⟨ad, cap, rfl, hcap, hx⟩ := this
      refine ⟨ad, cap, rfl, hcap, ?_⟩
      rcases hx with h0 | ⟨g2, o2, rfl, hne, hx⟩
      · exact .inl h0
      · exact .inr ⟨g2, o2, rfl, hne, fun j hj => (hb.cell (p := ⟨g2, o2 + j, none⟩) (block_lt_of_cell (hx j hj))).trans (hx j hj)⟩
theorem digest_length (m : List Nat) : (digest m).length = 32 := rfl

set_option maxRecDepth 100000 in
set_option maxHeartbeats 1000000 in
theorem of_any (ps : List (List Nat)) (v : Value) (w : World) (hP : PartsIn w v ps) (h8 : ∀ p ∈ ps, ∀ x ∈ p, x < 256) (hm : ps.flatten.length < 800000000) (hps : ps.length < 1000000) :
    Calls Tryd.prog 36 #[v] w fun e w' => e = .returned (.agg (u8s (digest ps.flatten)).toArray) ∧ Below w.heap.size w w' := by
  have HP := Lib.hid hP
  have H8 := Lib.hid h8
  have HM := Lib.hid hm
  have HPS := Lib.hid hps
  clear hP h8 hm hps
  go_enter Tryd.func36, Tryd.ntmps36
  go_upto_region 1 with (fail)
  have h1 : (w.alloc (.cells (u8s (pad 32 [])).toArray 55)).heap[w.heap.size]? = some (.cells (u8s (pad 32 [])).toArray 55 (0, 0)) := heap_alloc_new w _
  have h3 : Below w.heap.size w (w.alloc (.cells (u8s (pad 32 [])).toArray 55)) := (Below.refl _ _).alloc (Nat.le_refl _) _
  change Code.wp _ _ _ _ (w.alloc (.cells (u8s (pad 32 [])).toArray 55))
  generalize w.alloc (.cells (u8s (pad 32 [])).toArray 55) = w1 at h1 h3
  have H1 := Lib.hid h1
  have H3 := Lib.hid h3
  have hlt1 : w.heap.size < w1.heap.size := lt_of_heap h1
  clear h1 h3
  go_wp2_with fail
  refine (new_any _).mono ?_
  rintro e w2 ⟨rfl, hs2, hb2⟩
  have S2 := Lib.hid hs2
  have L2 := Lib.hid (H3.out.trans (hb2.mono (Nat.le_of_lt hlt1)))
  have O2 := Lib.hid ((hb2.block _ hlt1).trans H1.out)
  have hsz2 : w1.heap.size ≤ w2.heap.size := hb2.size
  clear hs2 hb2
  go_wp2_with fail
  refine (add_any w1.heap.size [] ps v _ S2.out (parts_at HP.out L2.out (by omega)) H8.out (by have := HM.out; simpa using (by omega : ps.flatten.length < 1000000000)) HPS.out).mono ?_
  rintro e w3 ⟨rfl, hs3, hg3⟩
  have S3 := Lib.hid hs3
  have O3 := Lib.hid ((hg3.block _ (by omega) (by intro e; injection e with e; omega)).trans O2.out)
  have L3 := Lib.hid (show Below w.heap.size w w3 from L2.out.grown hg3 (by omega) (by intro k hk; injection hk with hk; omega))
  have hsz3 : w2.heap.size ≤ w3.heap.size := hg3.size
  clear hs3 hg3
  go_wp2_with fail
  refine (end_any w1.heap.size ([] ++ ps.flatten) _ S3.out (by have := HM.out; rw [List.nil_append]; omega)).mono ?_
  rintro e w4 ⟨rfl, hb4⟩
  have O4 := Lib.hid ((hb4.block _ (by omega)).trans O3.out)
  have L4 := Lib.hid (L3.out.trans (hb4.mono (by omega)))
  clear hb4 S2 L2 O2 S3 O3 L3 H1 H3
  dsimp only
  rename_i hK
  refine hK _ _ ?_
  clear hK
  rw [List.nil_append]
  have hdl := digest_length ps.flatten
  have hsz : (u8s (digest ps.flatten)).toArray.size = 32 := by rw [List.size_toArray, u8s_length, hdl]
  have hth : w4.there w.heap.size 0 (u8s (digest ps.flatten)).toArray.size := there_of_block O4.out 0 _ (by rw [hsz]; decide)
  have hend : ((w4.setCells w.heap.size 0 (u8s (digest ps.flatten)).toArray.toList).heap[w.heap.size]? = some (.cells (u8s (digest ps.flatten)).toArray 55 (0, 0))) := by
    have := heap_setCells w.heap.size 55 (0, 0) (u8s (digest ps.flatten)) 0 w4 _ O4.out (by rw [u8s_length, u8s_length, pad_length (by decide), hdl]; decide)
    rw [this, Nat.zero_add, List.take_zero, List.nil_append, List.drop_of_length_le (by rw [u8s_length, u8s_length, pad_length (by decide), hdl]; decide), List.append_nil]
  have HE := Lib.hid hend
  clear hend
  refine wpList_store_mid rfl 55 _ _ rfl w.heap.size 0 _ rfl rfl hth (by rw [hsz]; kernel_rfl) (u8s_cells _) ?_
  clear hth
  have HB := Lib.hid (below_setCells w.heap.size (Nat.le_refl _) (u8s (digest ps.flatten)).toArray.toList 0 _ L4.out)
  generalize w4.setCells w.heap.size 0 (u8s (digest ps.flatten)).toArray.toList = wz at HE HB
  go_wp2_with fail
  exact bodyPost_ret (v := .agg (u8s (digest ps.flatten)).toArray) (results_cell_row rfl _ _ w.heap.size 55 _ (0, 0) _ rfl HE.out Tryd.underlying55 rfl (by rw [hsz]; kernel_rfl)) rfl ⟨rfl, HB.out⟩
end Sha
end Go.Proofs.YtdiidfkmmgcjmaaDoor
