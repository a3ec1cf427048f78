/- A slice of numbers anywhere in memory: cut, compared, sought in. -/
import Derived.Test.YtaopkelobglnbaaGreatDoorBunGrd
import Derived.Deep.LoopGhost
import Derived.Deep.QuietTactic
import Derived.BigQuiet
import Derived.IntWalk
namespace Go.Proofs.YtaopkelobglnbaaGreatDoor
open Go.RowKit Sha Six Apd Cut Err Att
set_option linter.unusedVariables false
namespace Grd
/-- v is a slice of these numbers. -/
def IntsIn (w : World) (v : Value) (xs : List Nat) : Prop :=
  ∃ ad cap, v = .slice ad xs.length cap ∧ xs.length ≤ cap ∧ (xs.length = 0 ∨ ∃ b o, ad = some ⟨b, o, none⟩ ∧ ∀ i, i < xs.length → w.cell? ⟨b, o + i, none⟩ = some (.int .i64 ((xs.getD i 0 : Nat) : Int)))
theorem IntsIn.below {w w' : World} {v : Value} {xs : List Nat} (h : IntsIn w v xs) (hb : Below w.heap.size w w') : IntsIn w' v xs := by
  obtain ⟨ad, cap, h1, h2, h3⟩ := h
  refine ⟨ad, cap, h1, h2, ?_⟩
  rcases h3 with h3 | ⟨b, o, h4, h5⟩
  · exact .inl h3
  · exact .inr ⟨b, o, h4, fun i hi => (hb.cell (p := ⟨b, o + i, none⟩) (cell_lt (h5 i hi))).trans (h5 i hi)⟩
theorem IntsIn.form {w : World} {v : Value} {xs : List Nat} (h : IntsIn w v xs) : ∃ ad c, v = .slice ad xs.length c := by
  obtain ⟨ad, cap, h1, _⟩ := h
  exact ⟨ad, cap, h1⟩
theorem IntsIn.cell {w : World} {n c : Nat} {ad : Option Addr} {xs : List Nat} (h : IntsIn w (.slice ad n c) xs) {i : Nat} (hi : i < xs.length) : ∃ b o, ad = some ⟨b, o, none⟩ ∧ w.cell? ⟨b, o + i, none⟩ = some (.int .i64 ((xs.getD i 0 : Nat) : Int)) := by
  obtain ⟨ad2, cap, hv, _, h3⟩ := h
  injection hv with e1 _ _
  subst e1
  rcases h3 with h3 | ⟨b, o, h4, h5⟩
  · omega
  · exact ⟨b, o, h4, h5 i hi⟩
theorem OwnInts.to {w : World} {base : Nat} {v : Value} {xs : List Nat} (h : OwnInts w base v xs) : IntsIn w v xs := by
  obtain ⟨ad, c, rfl⟩ := h.form
  by_cases h0 : xs.length = 0
  · refine ⟨ad, c, rfl, by omega, .inl h0⟩
  · obtain ⟨g, rfl, _, _, _⟩ := h.cell (i := 0) (by omega)
    refine ⟨_, c, rfl, ?_, .inr ⟨g, 0, rfl, fun i hi => ?_⟩⟩
    · rcases h.2 with ⟨e, _⟩ | ⟨_, _, _, e, _, _, hnc, _⟩
      · injection e with e; cases e
      · injection e with _ _ e; subst e; exact hnc
    · obtain ⟨g', e, _, _, d, _⟩ := h.cell hi
      injection e with e; injection e with e; subst e; exact d
def cutI (a : Option Addr) (k cap : Nat) : Option Addr := if cap = k then a else a.map (·.add k)
theorem run_lI (a : Option Addr) (len cap k : Nat) (hk : k ≤ len) (w : World) :
    (Instr.slice 43 (.slice a len cap) (some (.int .i64 (k : Int))) none none).run Tryz.prog w = .ok (.slice (cutI a k cap) (len - k) (cap - k)) w := by
  have hu : Tryz.prog.underlying 43 = some (.slice (Tryz.prog.elem 43)) := by kernel_rfl
  have hs : ((sizeOf (Tryz.prog.elem 43)).run Tryz.prog w) = .ok 1 w := by kernel_rfl
  rw [run_slice_l (P := Tryz.prog) w _ _ _ _ hu _ _ (by omega) (by omega), hs]
  simp [Result.andThen, sliced, cutI]
theorem run_hI (a : Option Addr) (len cap k : Nat) (hk : k ≤ cap) (w : World) :
    (Instr.slice 43 (.slice a len cap) none (some (.int .i64 (k : Int))) none).run Tryz.prog w = .ok (.slice a k cap) w := by
  have hu : Tryz.prog.underlying 43 = some (.slice (Tryz.prog.elem 43)) := by kernel_rfl
  have hs : ((sizeOf (Tryz.prog.elem 43)).run Tryz.prog w) = .ok 1 w := by kernel_rfl
  rw [run_slice_h (P := Tryz.prog) w _ _ _ _ hu _ _ (by omega) (by omega), hs]
  cases a with
  | none => simp [Result.andThen, sliced]
  | some x => simp [Result.andThen, sliced, show x.add 0 = x from rfl]
theorem ints_h {w : World} {len cap k : Nat} {a : Option Addr} {xs : List Nat} (h : IntsIn w (.slice a len cap) xs) (hk : k ≤ len) : IntsIn w (.slice a k cap) (xs.take k) := by
  obtain ⟨ad, c, hv, hcap, hc⟩ := h
  injection hv with e1 e2 e3
  subst e1 e2 e3
  have hl : (xs.take k).length = k := by rw [List.length_take]; omega
  refine ⟨_, _, by rw [hl], by omega, ?_⟩
  rcases hc with h0 | ⟨b, o, h1, h2⟩
  · exact .inl (by omega)
  · refine .inr ⟨b, o, h1, fun i hi => ?_⟩
    rw [hl] at hi
    have := h2 i (by omega)
    simpa [List.getD_eq_getElem?_getD, List.getElem?_take_of_lt hi] using this
theorem ints_l {w : World} {len cap k : Nat} {a : Option Addr} {xs : List Nat} (h : IntsIn w (.slice a len cap) xs) (hk : k ≤ len) : IntsIn w (.slice (cutI a k cap) (len - k) (cap - k)) (xs.drop k) := by
  obtain ⟨ad, c, hv, hcap, hc⟩ := h
  injection hv with e1 e2 e3
  subst e1 e2 e3
  have hl : (xs.drop k).length = xs.length - k := List.length_drop
  refine ⟨cutI a k cap, cap - k, by rw [hl], by omega, ?_⟩
  rcases hc with h0 | ⟨b, o, rfl, h3⟩
  · exact .inl (by rw [hl]; omega)
  · by_cases hke : k = xs.length
    · exact .inl (by rw [hl]; omega)
    · have hne : ¬ cap = k := by omega
      refine .inr ⟨b, o + k, by rw [cutI, if_neg hne, Option.map_some, Addr.add_mid], fun i hi => ?_⟩
      rw [hl] at hi
      have := h3 (k + i) (by omega)
      rw [show o + k + i = o + (k + i) by omega]
      simpa [List.getD_eq_getElem?_getD] using this
end Grd
end Go.Proofs.YtaopkelobglnbaaGreatDoor
