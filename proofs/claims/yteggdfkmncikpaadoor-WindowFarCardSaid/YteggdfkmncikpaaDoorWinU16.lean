/- Rows of numbers of 16 bits that came in. Written by tools/gen_win_laws.py. -/
import Derived.Test.YteggdfkmncikpaaDoorWinArg
import Derived.Deep.QuietTactic
import Derived.BigQuiet
import Derived.Deep.Cut
import Derived.Deep.LoopGhost
import Derived.Deep.RegionLaw
import Derived.Deep.RegionHeld3
import Derived.IntWalk
import Derived.Lib.SmallJoins
namespace Go.Proofs.YteggdfkmncikpaaDoor
open Go.RowKit Sha Six Apd Cut Err
set_option linter.unusedVariables false
set_option linter.unusedSimpArgs false
namespace Win
theorem meas {n j : Nat} (h : j < n) : n + 1 - (j + 1) < n + 1 - j := by omega
structure R16 (w : World) (a : Option Addr) (xs : List Nat) : Prop where
  cell : ∀ j, j < xs.length → ∃ g off, a = some ⟨g, off, none⟩ ∧ w.cell? ⟨g, off + j, none⟩ = some (.int .u16 (xs.getD j 0 : Nat))
  small : ∀ x ∈ xs, x < 65536
theorem R16.below {w w' : World} {a : Option Addr} {xs : List Nat} (h : R16 w a xs) (hb : Below w.heap.size w w') : R16 w' a xs := by
  refine ⟨fun j hj => ?_, h.small⟩
  obtain ⟨g, off, e, hc⟩ := h.cell j hj
  exact ⟨g, off, e, (hb.cell (p := ⟨g, off + j, none⟩) (block_lt_of_cell hc)).trans hc⟩
theorem row16 {w : World} {a : Option Addr} {len cap : Nat} {zs : List Int} (h : IsRow .u16 w a len cap zs) : ∃ xs : List Nat, len = xs.length ∧ R16 w a xs := by
  rcases h with ⟨rfl, rfl, rfl, rfl⟩ | ⟨x, rfl, hlc, hcm, hz, hc, hw⟩
  · exact ⟨[], rfl, fun j hj => by simp at hj, by simp⟩
  · have hwb : ∀ n ∈ zs, 0 ≤ n ∧ n < 65536 := fun n hn => by
      have := bounds_u16 (hw n hn); omega
    refine ⟨(zs.take len).map Int.toNat, by simp; omega, fun j hj => ?_, ?_⟩
    · simp only [List.length_map, List.length_take] at hj
      have hx : x = ⟨x.block, x.off, none⟩ := by
        have := hc 0 (by omega)
        rw [show x.add 0 = x from rfl] at this
        exact spot_of_cell this
      refine ⟨x.block, x.off, by rw [← hx], ?_⟩
      have h1 := hc j (by omega)
      rw [hx, Addr.add_mid] at h1
      rw [h1]
      have hj2 : j < zs.length := by omega
      have hb := hwb zs[j] (List.getElem_mem hj2)
      have hjl : j < len := by omega
      simp [List.getD_eq_getElem?_getD, hj2, hjl]
      omega
    · intro y hy
      simp only [List.mem_map] at hy
      obtain ⟨n, hn, rfl⟩ := hy
      have := hwb n (List.mem_of_mem_take hn); omega
end Win
end Go.Proofs.YteggdfkmncikpaaDoor
