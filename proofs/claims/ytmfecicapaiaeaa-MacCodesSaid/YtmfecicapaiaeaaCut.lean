/- Slices of bytes that are cut in two. -/
import Derived.Test.YtmfecicapaiaeaaShaLaw
namespace Go.Proofs.Ytmfecicapaiaeaa
open Go.RowKit
namespace Sha
theorem run_slice_only (v : Value) (lo hi : Option Value) (w : World) :
    (Instr.sliceAt 22 v lo hi none).run Try.prog w = (Instr.slice 22 v lo hi none).run Try.prog w := by
  have hu : Try.prog.underlying 22 = some (.slice (Try.prog.elem 22)) := by kernel_rfl
  exact run_sliceAt_slice (P := Try.prog) w _ _ _ _ _ hu
def cutA (a : Option Addr) (k cap : Nat) : Option Addr := if cap = k then a else a.map (·.add k)
theorem run_cut_h (a : Option Addr) (len cap k : Nat) (hk : k ≤ cap) (w : World) :
    (Instr.sliceAt 22 (.slice a len cap) none (some (.int .i64 (k : Int))) none).run Try.prog w = .ok (.slice a k cap) w := by
  have hu : Try.prog.underlying 22 = some (.slice (Try.prog.elem 22)) := by kernel_rfl
  have hs : ((sizeOf (Try.prog.elem 22)).run Try.prog w) = .ok 1 w := by kernel_rfl
  rw [run_sliceAt_slice (P := Try.prog) w _ _ _ _ _ hu, run_slice_h (P := Try.prog) w _ _ _ _ hu _ _ (by omega) (by omega), hs]
  simp only [Result.andThen, sliced]
  cases a <;> simp [Addr.add]
theorem run_cut_l (a : Option Addr) (len cap k : Nat) (hk : k ≤ len) (w : World) :
    (Instr.sliceAt 22 (.slice a len cap) (some (.int .i64 (k : Int))) none none).run Try.prog w = .ok (.slice (cutA a k cap) (len - k) (cap - k)) w := by
  have hu : Try.prog.underlying 22 = some (.slice (Try.prog.elem 22)) := by kernel_rfl
  have hs : ((sizeOf (Try.prog.elem 22)).run Try.prog w) = .ok 1 w := by kernel_rfl
  rw [run_sliceAt_slice (P := Try.prog) w _ _ _ _ _ hu, run_slice_l (P := Try.prog) w _ _ _ _ hu _ _ (by omega) (by omega), hs]
  simp [Result.andThen, sliced, cutA]
theorem bytes_h {w : World} {a : Option Addr} {len cap k : Nat} {xs : List Nat} (h : BytesIn w (.slice a len cap) xs) (hk : k ≤ len) : BytesIn w (.slice a k cap) (xs.take k) := by
  obtain ⟨ad, c, hv, hcap, hc⟩ := h
  injection hv with e1 e2 e3
  subst e1 e2 e3
  have hl : (xs.take k).length = k := by rw [List.length_take]; omega
  refine ⟨a, cap, by rw [hl], by omega, ?_⟩
  rcases hc with h0 | ⟨g, off, rfl, hc⟩
  · exact .inl (by rw [h0]; simp)
  · refine .inr ⟨g, off, rfl, fun j hj => ?_⟩
    rw [hl] at hj
    rw [hc j (by omega)]
    simp [List.getD_eq_getElem?_getD, hj]
theorem bytes_l {w : World} {a : Option Addr} {len cap k : Nat} {xs : List Nat} (h : BytesIn w (.slice a len cap) xs) (hk : k ≤ len) : BytesIn w (.slice (cutA a k cap) (len - k) (cap - k)) (xs.drop k) := by
  obtain ⟨ad, c, hv, hcap, hc⟩ := h
  injection hv with e1 e2 e3
  subst e1 e2 e3
  have hl : (xs.drop k).length = xs.length - k := by rw [List.length_drop]
  refine ⟨cutA a k cap, cap - k, by rw [hl], by omega, ?_⟩
  rcases hc with h0 | ⟨g, off, rfl, hc⟩
  · exact .inl (by rw [h0]; simp)
  · by_cases he : xs.length = k
    · exact .inl (List.eq_nil_of_length_eq_zero (by omega))
    · have hne : ¬ cap = k := by omega
      refine .inr ⟨g, off + k, by rw [cutA, if_neg hne, Option.map_some, Addr.add_mid], fun j hj => ?_⟩
      rw [hl] at hj
      rw [Nat.add_assoc, hc (k + j) (by omega)]
      simp [List.getD_eq_getElem?_getD]
theorem isRow_nil {k : IntKind} {w : World} {a : Option Addr} {len cap : Nat} {zs : List Int} (h : IsRow k w a len cap zs) : a = none → len = 0 ∧ cap = 0 := by
  rcases h with ⟨_, h1, h2, _⟩ | ⟨x, h1, _⟩
  · exact fun _ => ⟨h1, h2⟩
  · intro h; rw [h] at h1; cases h1
theorem one_part {w : World} {v : Value} {l : List Nat} (h : BytesIn w v l) : PartsIn (w.alloc (.cells #[v] 22)) (.slice (some ⟨w.heap.size, 0, none⟩) 1 1) [l] :=
  parts_laid_in (Below.refl _ w) [v] [l] rfl (fun | 0, _ => h) 1 rfl
end Sha
end Go.Proofs.Ytmfecicapaiaeaa
