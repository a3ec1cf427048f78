/- What the statements about package hash have in common: arguments that are bytes, two sums side by side. -/
import Derived.Test.YtmfecicapaiaeaaShaEq
import Derived.OpenShut
namespace Go.Proofs.Ytmfecicapaiaeaa
open Go.RowKit
namespace Sha
/-- A slice of integers that came in. -/
def IsRow (k : IntKind) (w : World) (a : Option Addr) (len cap : Nat) (zs : List Int) : Prop :=
  (a = none ∧ len = 0 ∧ cap = 0 ∧ zs = []) ∨
  ∃ x, a = some x ∧ len ≤ cap ∧ cap ≤ maxLen ∧ zs.length = cap ∧ (∀ i, i < zs.length → w.cell? (x.add i) = some (.int k (zs.getD i 0))) ∧ ∀ n ∈ zs, (Lit.int k n).wf = true
theorem isRow_le {k : IntKind} {w : World} {a : Option Addr} {len cap : Nat} {zs : List Int} (h : IsRow k w a len cap zs) : len ≤ maxLen := by
  rcases h with ⟨_, rfl, _, _⟩ | ⟨x, _, h1, h2, _⟩
  · exact Nat.zero_le _
  · omega
theorem spot_of_cell {w : World} {a : Addr} {v : Value} (h : w.cell? a = some v) : a = ⟨a.block, a.off, none⟩ := by
  obtain ⟨b, o, s⟩ := a
  cases s with
  | none => rfl
  | some s => simp [World.cell?] at h; split at h <;> simp at h
theorem isRow_bytes {w : World} {a : Option Addr} {len cap : Nat} {zs : List Int} (h : IsRow .u8 w a len cap zs) :
    ∃ xs : List Nat, xs.length = len ∧ (∀ x ∈ xs, x < 256) ∧ BytesIn w (.slice a len cap) xs := by
  rcases h with ⟨rfl, rfl, rfl, rfl⟩ | ⟨x, rfl, hlc, hcm, hz, hc, hw⟩
  · exact ⟨[], rfl, by simp, none, 0, rfl, Nat.le_refl _, .inl rfl⟩
  · have hwb : ∀ n ∈ zs, 0 ≤ n ∧ n < 256 := fun n hn => by
      have := bounds_u8 (hw n hn); omega
    refine ⟨(zs.take len).map Int.toNat, by simp; omega, ?_, some x, cap, by simp; omega, by simp; omega, ?_⟩
    · intro y hy
      simp only [List.mem_map] at hy
      obtain ⟨n, hn, rfl⟩ := hy
      have := hwb n (List.mem_of_mem_take hn); omega
    · by_cases h0 : len = 0
      · exact .inl (by simp [h0])
      · have hx : x = ⟨x.block, x.off, none⟩ := by
          have := hc 0 (by omega)
          rw [show x.add 0 = x from rfl] at this
          exact spot_of_cell this
        refine .inr ⟨x.block, x.off, by rw [← hx], fun j hj => ?_⟩
        simp only [List.length_map, List.length_take] at hj
        have h1 := hc j (by omega)
        rw [hx, Addr.add_mid] at h1
        rw [h1]
        have hj2 : j < zs.length := by omega
        have hb := hwb zs[j] (List.getElem_mem hj2)
        have hjl : j < len := by omega
        simp [List.getD_eq_getElem?_getD, hj2, hjl]
        omega

theorem bytesat_below {w w1 : World} {b : Nat} {v : Value} {xs : List Nat} (h : BytesAt w b v xs) (hb : Below w.heap.size w w1) : BytesAt w1 b v xs := by
  obtain ⟨ad, cap, rfl, hcap, hc⟩ := h
  refine ⟨ad, cap, rfl, hcap, ?_⟩
  rcases hc with h0 | ⟨g, off, rfl, hne, hc⟩
  · exact .inl h0
  · exact .inr ⟨g, off, rfl, hne, fun j hj => (hb.cell (p := ⟨g, off + j, none⟩) (block_lt_of_cell (hc j hj))).trans (hc j hj)⟩
/-- A list of parts that the call has just laid. -/
theorem parts_laid {w0 w : World} (ho : Below w0.heap.size w0 w) (vs : List Value) (ps : List (List Nat)) (hl : vs.length = ps.length) (h : ∀ j, j < ps.length → BytesIn w0 (vs.getD j undef) (ps.getD j [])) {b : Nat} (hb : w0.heap.size ≤ b) (hb2 : b < w.heap.size) (n : Nat) (hn : n = ps.length) :
    PartsAt (w.alloc (.cells vs.toArray 22)) b (.slice (some ⟨w.heap.size, 0, none⟩) n n) ps := by
  subst hn
  refine ⟨_, ps.length, rfl, .inr ⟨w.heap.size, 0, rfl, by omega, fun j hj => ⟨vs.getD j undef, ?_, ?_⟩⟩⟩
  · rw [cell_of_row _ w.heap.size (0 + j) _ _ _ (heap_alloc_new w _), Nat.zero_add]
    have hj2 : j < vs.length := by omega
    simp [List.getD_eq_getElem?_getD, hj2]
  · exact bytesat_below (bytes_in (h j hj) hb) (ho.alloc ho.size _)
theorem parts_laid_in {w0 w : World} (ho : Below w0.heap.size w0 w) (vs : List Value) (ps : List (List Nat)) (hl : vs.length = ps.length) (h : ∀ j, j < ps.length → BytesIn w0 (vs.getD j undef) (ps.getD j [])) (n : Nat) (hn : n = ps.length) :
    PartsIn (w.alloc (.cells vs.toArray 22)) (.slice (some ⟨w.heap.size, 0, none⟩) n n) ps := by
  subst hn
  refine ⟨_, ps.length, rfl, .inr ⟨w.heap.size, 0, rfl, fun j hj => ⟨vs.getD j undef, ?_, ?_⟩⟩⟩
  · rw [cell_of_row _ w.heap.size (0 + j) _ _ _ (heap_alloc_new w _), Nat.zero_add]
    have hj2 : j < vs.length := by omega
    simp [List.getD_eq_getElem?_getD, hj2]
  · exact bytes_below (h j hj) (ho.alloc ho.size _)
/-- Two sums side by side. -/
structure Two (w0 w : World) (b1 b2 : Nat) (m1 m2 : List Nat) : Prop where
  old : Below w0.heap.size w0 w
  s1 : SumAt w b1 m1
  s2 : SumAt w b2 m2
  ne : b1 ≠ b2
  h1 : w0.heap.size ≤ b1
  h2 : w0.heap.size ≤ b2
theorem sum_lt {w : World} {b : Nat} {m : List Nat} (h : SumAt w b m) : b < w.heap.size := by obtain ⟨blk, hr, _⟩ := h; exact lt_of_heap hr
theorem sum_grown {w w1 : World} {b b2 : Nat} {m : List Nat} (h : SumAt w b m) (hg : w.grownBy w1 (some b2)) (hne : b ≠ b2) : SumAt w1 b m := by
  obtain ⟨blk, hr, hi⟩ := h
  exact ⟨blk, (hg.block _ (lt_of_heap hr) (by intro e; injection e with e; exact hne e)).trans hr, hi⟩
theorem Two.below {w0 w w1 : World} {b1 b2 : Nat} {m1 m2 : List Nat} (h : Two w0 w b1 b2 m1 m2) (hb : Below w.heap.size w w1) : Two w0 w1 b1 b2 m1 m2 :=
  ⟨h.old.trans (hb.mono h.old.size), sum_below h.s1 hb, sum_below h.s2 hb, h.ne, h.h1, h.h2⟩
theorem Two.alloc {w0 w : World} {b1 b2 : Nat} {m1 m2 : List Nat} (h : Two w0 w b1 b2 m1 m2) (o : Obj) : Two w0 (w.alloc o) b1 b2 m1 m2 := h.below ((Below.refl _ _).alloc (Nat.le_refl _) _)
theorem Two.add1 {w0 w w1 : World} {b1 b2 : Nat} {m1 m2 m : List Nat} (h : Two w0 w b1 b2 m1 m2) (hs : SumAt w1 b1 m) (hg : w.grownBy w1 (some b1)) : Two w0 w1 b1 b2 m m2 :=
  ⟨h.old.grown hg h.old.size (by intro k hk; injection hk with hk; rw [← hk]; exact h.h1), hs, sum_grown h.s2 hg (Ne.symm h.ne), h.ne, h.h1, h.h2⟩
theorem Two.add2 {w0 w w1 : World} {b1 b2 : Nat} {m1 m2 m : List Nat} (h : Two w0 w b1 b2 m1 m2) (hs : SumAt w1 b2 m) (hg : w.grownBy w1 (some b2)) : Two w0 w1 b1 b2 m1 m :=
  ⟨h.old.grown hg h.old.size (by intro k hk; injection hk with hk; rw [← hk]; exact h.h2), sum_grown h.s1 hg h.ne, hs, h.ne, h.h1, h.h2⟩
end Sha
end Go.Proofs.Ytmfecicapaiaeaa
