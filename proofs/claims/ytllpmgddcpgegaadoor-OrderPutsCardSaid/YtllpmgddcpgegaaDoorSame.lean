/- 'Same' of the document's answer tells whether two lists of bytes are alike (no hash is needed). -/
import Derived.Test.YtllpmgddcpgegaaDoorBytes
import Derived.Test.YtllpmgddcpgegaaDoorSixLeaf
namespace Go.Proofs.YtllpmgddcpgegaaDoor
open Go.RowKit
namespace Sam
open Sha
theorem eq_of_getD {xs ys : List Nat} (hl : xs.length = ys.length) (h : ∀ i, i < xs.length → xs.getD i 0 = ys.getD i 0) : xs = ys := by
  apply List.ext_getElem hl
  intro i h1 h2
  have := h i h1
  simpa [List.getD_eq_getElem?_getD, h1, h2] using this
set_option maxRecDepth 100000 in
set_option maxHeartbeats 1000000 in
theorem same_any (v1 v2 : Value) (xs : List Nat) (w : World) (h1 : BytesIn w v1 xs) (h2 : BytesIn w v2 xs) (hx8 : ∀ x ∈ xs, x < 256) (hl : xs.length < 1000000) :
    Calls Tryd.prog 11 #[v1, v2] w fun e w' => e = .returned (.bool true) ∧ ∃ k, w' = w.drewN k := by
  obtain ⟨ad1, c1, rfl, _, h1⟩ := h1
  obtain ⟨ad2, c2, rfl, _, h2⟩ := h2
  have H1 := Lib.hid h1
  have H2 := Lib.hid h2
  clear h1 h2
  go_enter Tryd.func11, Tryd.ntmps11
  go_wp2_with fail
  go_loopw [5] (fun i wr => ∃ k : Nat, k ≤ xs.length ∧ i = .int .i64 k ∧ ∃ n, wr = w.drewN n) (fun i _ => xs.length - (intOf i).toNat)
  case atStart => exact ⟨0, Nat.zero_le _, rfl, 0, rfl⟩
  case round =>
    obtain ⟨k, hk, rfl, n, rfl⟩ := hrel
    by_cases hlt : k < xs.length
    · rcases H1.out with h0 | ⟨g1, o1, rfl, hc1⟩
      · rw [h0] at hlt; simp at hlt
      rcases H2.out with h0 | ⟨g2, o2, rfl, hc2⟩
      · rw [h0] at hlt; simp at hlt
      have d1 := hc1 k hlt
      have d2 := hc2 k hlt
      have hx := byte_lt hx8 (by decide) k
      generalize xs.getD k 0 = x at d1 d2 hx
      have hi0 : (0 : Int) ≤ (k : Int) := by omega
      have hi1 : (k : Int) < (xs.length : Int) := by omega
      clear hc1 hc2
      go_wp2_with fail
      go_quiet (fail)
      go_wp2_with fail
      go_roundw
      case rel => exact ⟨k + 1, by omega, by go_num, n + nq, rfl⟩
      case measure => simp [intOf]; omega
    · have hge : xs.length ≤ k := by omega
      clear hlt
      go_wp2_with fail
      go_ret
      exact ⟨rfl, n, rfl⟩

set_option maxRecDepth 100000 in
set_option maxHeartbeats 1000000 in
theorem same_gen (v1 v2 : Value) (xs ys : List Nat) (w : World) (h1 : BytesIn w v1 xs) (h2 : BytesIn w v2 ys) (hx8 : ∀ x ∈ xs, x < 256) (hy8 : ∀ x ∈ ys, x < 256) (hl : xs.length < 1000000) :
    Calls Tryd.prog 11 #[v1, v2] w fun e w' => e = .returned (.bool (decide (xs = ys))) ∧ ∃ k, w' = w.drewN k := by
  by_cases heq : xs = ys
  · subst heq
    refine (same_any v1 v2 xs w h1 h2 hx8 hl).mono fun e w' ⟨he, hw⟩ => ⟨?_, hw⟩
    rw [he, decide_eq_true rfl]
  have HF := Lib.hid (show decide (xs = ys) = false by simpa using heq)
  obtain ⟨ad1, c1, rfl, _, h1⟩ := h1
  obtain ⟨ad2, c2, rfl, _, h2⟩ := h2
  have H1 := Lib.hid h1
  have H2 := Lib.hid h2
  clear h1 h2
  by_cases hne : xs.length = ys.length
  · have HQ := Lib.hid (fun h => heq (eq_of_getD (xs := xs) (ys := ys) hne h))
    have HL := Lib.hid hne
    rw [← hne]
    clear hne heq
    go_enter Tryd.func11, Tryd.ntmps11
    go_wp2_with fail
    go_loopw [5] (fun i wr => ∃ k : Nat, k ≤ xs.length ∧ i = .int .i64 k ∧ (∀ i, i < k → xs.getD i 0 = ys.getD i 0) ∧ ∃ n, wr = w.drewN n) (fun i _ => xs.length - (intOf i).toNat)
    case atStart => exact ⟨0, Nat.zero_le _, rfl, fun i hi => absurd hi (by omega), 0, rfl⟩
    case round =>
      obtain ⟨k, hk, rfl, hall, n, rfl⟩ := hrel
      by_cases hlt : k < xs.length
      · rcases H1.out with h0 | ⟨g1, o1, rfl, hc1⟩
        · rw [h0] at hlt; simp at hlt
        rcases H2.out with h0 | ⟨g2, o2, rfl, hc2⟩
        · have := HL.out; rw [h0, List.length_nil] at this; omega
        have d1 := hc1 k hlt
        have d2 := hc2 k (by have := HL.out; omega)
        have hx := byte_lt hx8 (by decide) k
        have hy := byte_lt hy8 (by decide) k
        have HA := Lib.hid (show xs.getD k 0 = ys.getD k 0 → ∀ i, i < k + 1 → xs.getD i 0 = ys.getD i 0 from fun h i hi => by
          rcases Nat.lt_or_ge i k with h' | h'
          · exact hall i h'
          · obtain rfl : i = k := by omega
            exact h)
        generalize xs.getD k 0 = x at d1 hx HA
        generalize ys.getD k 0 = y at d2 hy HA
        have hi0 : (0 : Int) ≤ (k : Int) := by omega
        have hi1 : (k : Int) < (xs.length : Int) := by omega
        clear hc1 hc2 hall
        by_cases hxy : x = y
        · subst hxy
          go_wp2_with fail
          go_quiet (fail)
          go_wp2_with fail
          go_roundw
          case rel => exact ⟨k + 1, by omega, by go_num, HA.out (by first | trivial | rfl), n + nq, rfl⟩
          case measure => simp [intOf]; omega
        · have hb : ((x : Int) != (y : Int)) = true := by simp; omega
          have hb2 : ((x : Int) == (y : Int)) = false := by simp; omega
          clear hxy
          go_wp2_with fail
          go_quiet (fail)
          go_wp2_with fail
          go_ret
          refine ⟨?_, n + nq, by first | rfl | simp [World.drewN, Nat.add_assoc]⟩
          rw [HF.out]; rfl
      · exact absurd (fun i hi => hall i (by omega)) HQ.out
  · have HNE := Lib.hid hne
    clear hne heq
    go_enter Tryd.func11, Tryd.ntmps11
    go_wp2_with fail
    · go_ret
      refine ⟨?_, 0, rfl⟩
      rw [HF.out]; rfl
    · exfalso
      have h : ((xs.length : Int) != (ys.length : Int)) = false := by assumption
      have := HNE.out
      simp at h
      omega
theorem same_b (v1 v2 : Value) (xs : List Nat) (w : World) (h1 : BytesIn w v1 xs) (h2 : BytesIn w v2 xs) (hx8 : ∀ x ∈ xs, x < 256) (hl : xs.length < 1000000) :
    Calls Tryd.prog 11 #[v1, v2] w fun e w' => e = .returned (.bool true) ∧ Below w.heap.size w w' :=
  (same_any v1 v2 xs w h1 h2 hx8 hl).mono fun _ _ ⟨he, m, hw⟩ => ⟨he, by rw [hw]; exact Six.below_drewN _ _ _⟩
theorem same_gb (v1 v2 : Value) (xs ys : List Nat) (w : World) (h1 : BytesIn w v1 xs) (h2 : BytesIn w v2 ys) (hx8 : ∀ x ∈ xs, x < 256) (hy8 : ∀ x ∈ ys, x < 256) (hl : xs.length < 1000000) :
    Calls Tryd.prog 11 #[v1, v2] w fun e w' => e = .returned (.bool (decide (xs = ys))) ∧ Below w.heap.size w w' :=
  (same_gen v1 v2 xs ys w h1 h2 hx8 hy8 hl).mono fun _ _ ⟨he, m, hw⟩ => ⟨he, by rw [hw]; exact Six.below_drewN _ _ _⟩
end Sam
end Go.Proofs.YtllpmgddcpgegaaDoor
