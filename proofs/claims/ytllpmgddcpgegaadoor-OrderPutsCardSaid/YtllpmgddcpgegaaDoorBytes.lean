/- Slices of bytes in memory; no program is named here. -/
import Derived.Test.YtllpmgddcpgegaaDoorMem
import Derived.Below
import Derived.OpenShut
namespace Go.Proofs.YtllpmgddcpgegaaDoor
open Go.RowKit
namespace Sha
/-- v is a slice of the bytes xs. -/
def BytesIn (w : World) (v : Value) (xs : List Nat) : Prop :=
  ∃ ad cap, v = .slice ad xs.length cap ∧ xs.length ≤ cap ∧ (xs = [] ∨ ∃ g off, ad = some ⟨g, off, none⟩ ∧ ∀ j, j < xs.length → w.cell? ⟨g, off + j, none⟩ = some (.int .u8 ((xs.getD j 0 : Nat) : Int)))
theorem bytes_below {w w1 : World} {v : Value} {xs : List Nat} (h : BytesIn w v xs) (hb : Below w.heap.size w w1) : BytesIn w1 v xs := by
  obtain ⟨ad, cap, rfl, hcap, hc⟩ := h
  refine ⟨ad, cap, rfl, hcap, ?_⟩
  rcases hc with h0 | ⟨g, off, rfl, hc⟩
  · exact .inl h0
  · exact .inr ⟨g, off, rfl, fun j hj => (hb.cell (p := ⟨g, off + j, none⟩) (block_lt_of_cell (hc j hj))).trans (hc j hj)⟩
/-- A slice of integers that came in. -/
def IsRow (k : IntKind) (w : World) (a : Option Addr) (len cap : Nat) (zs : List Int) : Prop :=
  (a = none ∧ len = 0 ∧ cap = 0 ∧ zs = []) ∨
  ∃ x, a = some x ∧ len ≤ cap ∧ cap ≤ maxLen ∧ zs.length = cap ∧ (∀ i, i < zs.length → w.cell? (x.add i) = some (.int k (zs.getD i 0))) ∧ ∀ n ∈ zs, (Lit.int k n).wf = true
theorem isRow_le {k : IntKind} {w : World} {a : Option Addr} {len cap : Nat} {zs : List Int} (h : IsRow k w a len cap zs) : len ≤ maxLen := by
  rcases h with ⟨_, rfl, _, _⟩ | ⟨x, _, h1, h2, _⟩
  · exact Nat.zero_le _
  · omega
theorem spot_of_cell {w : World} {a : Addr} {v : Value} (h : w.cell? a = some v) : a = ⟨a.block, a.off, none⟩ := by
  obtain ⟨b, o, s⟩ := a
  cases s with
  | none => rfl
  | some s => simp [World.cell?] at h; split at h <;> simp at h
theorem isRow_bytes {w : World} {a : Option Addr} {len cap : Nat} {zs : List Int} (h : IsRow .u8 w a len cap zs) :
    ∃ xs : List Nat, xs.length = len ∧ (∀ x ∈ xs, x < 256) ∧ BytesIn w (.slice a len cap) xs := by
  rcases h with ⟨rfl, rfl, rfl, rfl⟩ | ⟨x, rfl, hlc, hcm, hz, hc, hw⟩
  · exact ⟨[], rfl, by simp, none, 0, rfl, Nat.le_refl _, .inl rfl⟩
  · have hwb : ∀ n ∈ zs, 0 ≤ n ∧ n < 256 := fun n hn => by
      have := bounds_u8 (hw n hn); omega
    refine ⟨(zs.take len).map Int.toNat, by simp; omega, ?_, some x, cap, by simp; omega, by simp; omega, ?_⟩
    · intro y hy
      simp only [List.mem_map] at hy
      obtain ⟨n, hn, rfl⟩ := hy
      have := hwb n (List.mem_of_mem_take hn); omega
    · by_cases h0 : len = 0
      · exact .inl (by simp [h0])
      · have hx : x = ⟨x.block, x.off, none⟩ := by
          have := hc 0 (by omega)
          rw [show x.add 0 = x from rfl] at this
          exact spot_of_cell this
        refine .inr ⟨x.block, x.off, by rw [← hx], fun j hj => ?_⟩
        simp only [List.length_map, List.length_take] at hj
        have h1 := hc j (by omega)
        rw [hx, Addr.add_mid] at h1
        rw [h1]
        have hj2 : j < zs.length := by omega
        have hb := hwb zs[j] (List.getElem_mem hj2)
        have hjl : j < len := by omega
        simp [List.getD_eq_getElem?_getD, hj2, hjl]
        omega

theorem isRow_nil {k : IntKind} {w : World} {a : Option Addr} {len cap : Nat} {zs : List Int} (h : IsRow k w a len cap zs) : a = none → len = 0 ∧ cap = 0 := by
  rcases h with ⟨_, h1, h2, _⟩ | ⟨x, h1, _⟩
  · exact fun _ => ⟨h1, h2⟩
  · intro h; rw [h] at h1; cases h1
theorem byte_lt {l : List Nat} {N : Nat} (h : ∀ x ∈ l, x < N) (h0 : 0 < N) (i : Nat) : l.getD i 0 < N := by
  rcases Nat.lt_or_ge i l.length with hi | hi
  · rw [List.getD_eq_getElem?_getD, List.getElem?_eq_getElem hi]; exact h _ (List.getElem_mem hi)
  · rw [List.getD_eq_getElem?_getD, List.getElem?_eq_none hi]; exact h0
end Sha
end Go.Proofs.YtllpmgddcpgegaaDoor
