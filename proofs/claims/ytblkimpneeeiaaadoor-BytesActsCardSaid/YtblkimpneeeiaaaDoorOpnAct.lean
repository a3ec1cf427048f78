/- An argument that is a slice of structs of two numbers: its cells. -/
import Derived.Test.YtblkimpneeeiaaaDoorBytes
import Derived.Test.YtblkimpneeeiaaaDoorProg
import Derived.WalkKit
import Derived.ProofKit
import Derived.OpenShut
import Derived.Deep.SlicePairs
namespace Go.Proofs.YtblkimpneeeiaaaDoor
open Go.ChangeShapes Go.WideShapes Go.RowKit Go.Deep
namespace Opn
/-- The cells of a slice of pairs of numbers. -/
def Pairs (w : World) (a : Option Addr) (len : Nat) (l : List (Int × Int)) : Prop :=
  l.length = len ∧ (l = [] ∨ ∃ g o, a = some ⟨g, o, none⟩ ∧ ∀ j, j < l.length → w.cell? ⟨g, o + j * 2, none⟩ = some (.int .i64 (l.getD j (0, 0)).1) ∧ w.cell? ⟨g, o + j * 2 + 1, none⟩ = some (.int .i64 (l.getD j (0, 0)).2))
section
variable {H : Type} {enc : TypeId × Value → H} {W : World} {base b0 : Nat} {spare : Nat → Bool} {held : Bool} {r : Reach} {v : Value} {d : DataW H} {p : List MemPlace}
set_option maxRecDepth 100000 in
theorem open_acts (hv : Value.okWide Tryd.prog W r b0 23 v) (h : DataW.Trod enc Tryd.prog W base spare held 23 v d p) :
    ∃ (a : Option Addr) (len cap : Nat) (l : List (Int × Int)), v = .slice a len cap ∧ Pairs W a len l := by
  obtain ⟨a, len, cap, rfl⟩ := okWide_slice Tryd.underlying23 hv
  obtain ⟨fuel, hf⟩ := h
  rcases open_slice_pairs Tryd.underlying23 Tryd.underlying28 (by kernel_rfl) rfl rfl (by kernel_rfl) (by kernel_rfl) hf with ⟨hcs, _⟩ | ⟨x, l, c, m, n, V0, V1, D0, D1, P0, P1, hcs, _, hl, hm, hmm, _, hi⟩
  · simp [Value.cells] at hcs
    obtain ⟨rfl, rfl, rfl⟩ := hcs
    exact ⟨none, 0, 0, [], rfl, rfl, .inl rfl⟩
  · simp [Value.cells] at hcs
    obtain ⟨rfl, rfl, rfl⟩ := hcs
    have hlm : len ≤ m := by rw [hmm]; split <;> omega
    have each : ∀ i, i < len → V0 i = .int .i64 (intOf (V0 i)) ∧ V1 i = .int .i64 (intOf (V1 i)) := by
      intro i hil
      obtain ⟨_, _, h0, h1⟩ := hi i (by omega)
      obtain ⟨k0, e0, _⟩ := DataW.trod_int Tryd.underlying3 h0
      obtain ⟨k1, e1, _⟩ := DataW.trod_int Tryd.underlying3 h1
      simp at e0 e1
      rw [e0, e1]
      exact ⟨rfl, rfl⟩
    refine ⟨some x, len, cap, (List.range len).map fun i => (intOf (V0 i), intOf (V1 i)), rfl, by simp, ?_⟩
    by_cases h0 : len = 0
    · exact .inl (by simp [h0])
    · have hx : x = ⟨x.block, x.off, none⟩ := by
        have := (hi 0 (by omega)).1
        rw [Nat.zero_mul, show x.add 0 = x from rfl] at this
        exact Sha.spot_of_cell this
      refine .inr ⟨x.block, x.off, by rw [← hx], fun j hj => ?_⟩
      simp only [List.length_map, List.length_range] at hj
      obtain ⟨h2, h3, _⟩ := hi j (by omega)
      obtain ⟨e2, e3⟩ := each j hj
      rw [hx, Addr.add_mid] at h2 h3
      have hg : ((List.range len).map fun i => (intOf (V0 i), intOf (V1 i))).getD j (0, 0) = (intOf (V0 j), intOf (V1 j)) := by
        simp [List.getD_eq_getElem?_getD, hj]
      rw [hg]
      exact ⟨h2.trans (by rw [← e2]), h3.trans (by rw [← e3])⟩
end
end Opn
end Go.Proofs.YtblkimpneeeiaaaDoor
