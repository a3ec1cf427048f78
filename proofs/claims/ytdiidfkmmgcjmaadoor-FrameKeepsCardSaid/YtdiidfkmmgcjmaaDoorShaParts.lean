/- Parts of memory laid, digests in a block: for the walks of packages hash and mac and of what calls them; no law is named here. -/
import Derived.Test.YtdiidfkmmgcjmaaDoorShaOf
import Derived.OpenShut
set_option maxRecDepth 100000
namespace Go.Proofs.YtdiidfkmmgcjmaaDoor
open Go.RowKit
namespace Sha
theorem parts_none (w : World) : PartsIn w (.slice none 0 0) [] := ⟨none, 0, rfl, .inl rfl⟩
theorem dg_size (m : List Nat) : (u8s (digest m)).toArray.size = 32 := by rw [List.size_toArray, u8s_length, digest_length]
theorem put_dg {w : World} {N : Nat} (h : w.heap[N]? = some (.cells (u8s (pad 32 [])).toArray 55 (0, 0))) (m : List Nat) :
    (w.setCells N 0 (u8s (digest m)).toArray.toList).heap[N]? = some (.cells (u8s (digest m)).toArray 55 (0, 0)) := by
  have hdl := digest_length m
  have := heap_setCells N 55 (0, 0) (u8s (digest m)) 0 w _ h (by rw [u8s_length, u8s_length, pad_length (by decide), hdl]; decide)
  rw [this, Nat.zero_add, List.take_zero, List.nil_append, List.drop_of_length_le (by rw [u8s_length, u8s_length, pad_length (by decide), hdl]; decide), List.append_nil]
theorem dg_there {w : World} {N : Nat} (h : w.heap[N]? = some (.cells (u8s (pad 32 [])).toArray 55 (0, 0))) (m : List Nat) : w.there N 0 (u8s (digest m)).toArray.size :=
  there_of_block h 0 _ (by rw [dg_size]; decide)
theorem dg_info (m : List Nat) : (Tryd.prog.info? 55).map (·.size) = some (u8s (digest m)).toArray.size := by rw [dg_size]; kernel_rfl
/-- A digest lies in block N. -/
def DgAt (w : World) (N : Nat) (m : List Nat) : Prop := w.heap[N]? = some (.cells (u8s (digest m)).toArray 55 (0, 0))
theorem dg_cell {w : World} {N : Nat} {m : List Nat} (h : DgAt w N m) (i : Nat) (hi : i < 32) : w.cell? ⟨N, i, none⟩ = some (.int .u8 (((digest m).getD i 0 : Nat) : Int)) :=
  (cell_of_row w N i _ _ _ h).trans (u8s_at (by rw [digest_length]; exact hi))

theorem bytesat_below {w w1 : World} {b : Nat} {v : Value} {xs : List Nat} (h : BytesAt w b v xs) (hb : Below w.heap.size w w1) : BytesAt w1 b v xs := by
  obtain ⟨ad, cap, rfl, hcap, hc⟩ := h
  refine ⟨ad, cap, rfl, hcap, ?_⟩
  rcases hc with h0 | ⟨g, off, rfl, hne, hc⟩
  · exact .inl h0
  · exact .inr ⟨g, off, rfl, hne, fun j hj => (hb.cell (p := ⟨g, off + j, none⟩) (block_lt_of_cell (hc j hj))).trans (hc j hj)⟩
/-- A list of parts that the call has just laid. -/
theorem parts_laid {w0 w : World} (ho : Below w0.heap.size w0 w) (vs : List Value) (ps : List (List Nat)) (hl : vs.length = ps.length) (h : ∀ j, j < ps.length → BytesIn w0 (vs.getD j undef) (ps.getD j [])) {b : Nat} (hb : w0.heap.size ≤ b) (hb2 : b < w.heap.size) (n : Nat) (hn : n = ps.length) :
    PartsAt (w.alloc (.cells vs.toArray 22)) b (.slice (some ⟨w.heap.size, 0, none⟩) n n) ps := by
  subst hn
  refine ⟨_, ps.length, rfl, .inr ⟨w.heap.size, 0, rfl, by omega, fun j hj => ⟨vs.getD j undef, ?_, ?_⟩⟩⟩
  · rw [cell_of_row _ w.heap.size (0 + j) _ _ _ (heap_alloc_new w _), Nat.zero_add]
    have hj2 : j < vs.length := by omega
    simp [List.getD_eq_getElem?_getD, hj2]
  · exact bytesat_below (bytes_in (h j hj) hb) (ho.alloc ho.size _)
theorem parts_laid_in {w0 w : World} (ho : Below w0.heap.size w0 w) (vs : List Value) (ps : List (List Nat)) (hl : vs.length = ps.length) (h : ∀ j, j < ps.length → BytesIn w0 (vs.getD j undef) (ps.getD j [])) (n : Nat) (hn : n = ps.length) :
    PartsIn (w.alloc (.cells vs.toArray 22)) (.slice (some ⟨w.heap.size, 0, none⟩) n n) ps := by
  subst hn
  refine ⟨_, ps.length, rfl, .inr ⟨w.heap.size, 0, rfl, fun j hj => ⟨vs.getD j undef, ?_, ?_⟩⟩⟩
  · rw [cell_of_row _ w.heap.size (0 + j) _ _ _ (heap_alloc_new w _), Nat.zero_add]
    have hj2 : j < vs.length := by omega
    simp [List.getD_eq_getElem?_getD, hj2]
  · exact bytes_below (h j hj) (ho.alloc ho.size _)
/-- Two sums side by side. -/
structure Two (w0 w : World) (b1 b2 : Nat) (m1 m2 : List Nat) : Prop where
  old : Below w0.heap.size w0 w
  s1 : SumAt w b1 m1
  s2 : SumAt w b2 m2
  ne : b1 ≠ b2
  h1 : w0.heap.size ≤ b1
  h2 : w0.heap.size ≤ b2
theorem sum_lt {w : World} {b : Nat} {m : List Nat} (h : SumAt w b m) : b < w.heap.size := by obtain ⟨blk, hr, _⟩ := h; exact lt_of_heap hr
theorem sum_grown {w w1 : World} {b b2 : Nat} {m : List Nat} (h : SumAt w b m) (hg : w.grownBy w1 (some b2)) (hne : b ≠ b2) : SumAt w1 b m := by
  obtain ⟨blk, hr, hi⟩ := h
  exact ⟨blk, (hg.block _ (lt_of_heap hr) (by intro e; injection e with e; exact hne e)).trans hr, hi⟩
theorem Two.below {w0 w w1 : World} {b1 b2 : Nat} {m1 m2 : List Nat} (h : Two w0 w b1 b2 m1 m2) (hb : Below w.heap.size w w1) : Two w0 w1 b1 b2 m1 m2 :=
  ⟨h.old.trans (hb.mono h.old.size), sum_below h.s1 hb, sum_below h.s2 hb, h.ne, h.h1, h.h2⟩
theorem Two.alloc {w0 w : World} {b1 b2 : Nat} {m1 m2 : List Nat} (h : Two w0 w b1 b2 m1 m2) (o : Obj) : Two w0 (w.alloc o) b1 b2 m1 m2 := h.below ((Below.refl _ _).alloc (Nat.le_refl _) _)
theorem Two.add1 {w0 w w1 : World} {b1 b2 : Nat} {m1 m2 m : List Nat} (h : Two w0 w b1 b2 m1 m2) (hs : SumAt w1 b1 m) (hg : w.grownBy w1 (some b1)) : Two w0 w1 b1 b2 m m2 :=
  ⟨h.old.grown hg h.old.size (by intro k hk; injection hk with hk; rw [← hk]; exact h.h1), hs, sum_grown h.s2 hg (Ne.symm h.ne), h.ne, h.h1, h.h2⟩
theorem Two.add2 {w0 w w1 : World} {b1 b2 : Nat} {m1 m2 m : List Nat} (h : Two w0 w b1 b2 m1 m2) (hs : SumAt w1 b2 m) (hg : w.grownBy w1 (some b2)) : Two w0 w1 b1 b2 m1 m :=
  ⟨h.old.grown hg h.old.size (by intro k hk; injection hk with hk; rw [← hk]; exact h.h2), sum_grown h.s1 hg h.ne, hs, h.ne, h.h1, h.h2⟩
theorem one_part {w : World} {v : Value} {l : List Nat} (h : BytesIn w v l) : PartsIn (w.alloc (.cells #[v] 22)) (.slice (some ⟨w.heap.size, 0, none⟩) 1 1) [l] :=
  parts_laid_in (Below.refl _ w) [v] [l] rfl (fun | 0, _ => h) 1 rfl
end Sha
end Go.Proofs.YtdiidfkmmgcjmaaDoor
