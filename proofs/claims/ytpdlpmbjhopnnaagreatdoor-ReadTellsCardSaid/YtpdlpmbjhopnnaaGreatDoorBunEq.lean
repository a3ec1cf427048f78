/- Equal of package slices, of bytes. -/
import Derived.Test.YtpdlpmbjhopnnaaGreatDoorBunBase
import Derived.Deep.LoopGhost
namespace Go.Proofs.YtpdlpmbjhopnnaaGreatDoor
open Go.RowKit Sha Cut Err Six
namespace Ord
set_option maxRecDepth 100000 in
set_option maxHeartbeats 1000000 in
theorem equal_any (v1 v2 : Value) (xs ys : List Nat) (w : World) (h1 : BytesIn w v1 xs) (h2 : BytesIn w v2 ys) (hx8 : ∀ x ∈ xs, x < 256) (hy8 : ∀ x ∈ ys, x < 256) (hl : xs.length < 1000000) :
    Calls Tryz.prog 100 #[v1, v2] w fun e w' => e = .returned (.bool (decide (xs = ys))) ∧ ∃ k, w' = w.drewN k := by
  obtain ⟨ad1, c1, rfl, _, h1⟩ := h1
  obtain ⟨ad2, c2, rfl, _, h2⟩ := h2
  have H1 := Lib.hid h1
  have H2 := Lib.hid h2
  clear h1 h2
  by_cases hne : xs.length = ys.length
  · have HQ := Lib.hid (fun h => Sam.eq_of_getD (xs := xs) (ys := ys) hne h)
    have HL := Lib.hid hne
    rw [← hne]
    clear hne
    go_enter Tryz.func100, Tryz.ntmps100
    go_wp2_with fail
    go_loopg [13] (xs.length + 1) (fun n i wr => ∃ k : Nat, k ≤ xs.length ∧ n = xs.length + 1 - k ∧ i = .int .i64 k ∧ Hid (∀ i, i < k → xs.getD i 0 = ys.getD i 0) ∧ ∃ n, wr = w.drewN n)
    case atStart => exact ⟨0, Nat.zero_le _, rfl, rfl, Lib.hid fun i hi => absurd hi (by omega), 0, rfl⟩
    case round =>
      obtain ⟨k, hk, rfl, rfl, hall, n, rfl⟩ := hrel
      by_cases hlt : k < xs.length
      · rcases H1.out with h0 | ⟨g1, o1, rfl, hc1⟩
        · rw [h0] at hlt; simp at hlt
        rcases H2.out with h0 | ⟨g2, o2, rfl, hc2⟩
        · have := HL.out; rw [h0, List.length_nil] at this; omega
        have d1 := hc1 k hlt
        have d2 := hc2 k (by have := HL.out; omega)
        have hx := byte_lt hx8 (by decide) k
        have hy := byte_lt hy8 (by decide) k
        have HA := Lib.hid (show xs.getD k 0 = ys.getD k 0 → ∀ i, i < k + 1 → xs.getD i 0 = ys.getD i 0 from fun h i hi => by
          rcases Nat.lt_or_ge i k with h' | h'
          · exact hall.out i h'
          · obtain rfl : i = k := by omega
            exact h)
        have HF := Lib.hid (show xs.getD k 0 ≠ ys.getD k 0 → decide (xs = ys) = false from fun h => by
          simp only [decide_eq_false_iff_not]; intro e; exact h (by rw [e]))
        generalize xs.getD k 0 = x at d1 hx HA HF
        generalize ys.getD k 0 = y at d2 hy HA HF
        have hi0 : (0 : Int) ≤ (k : Int) := by omega
        have hi1 : (k : Int) < (xs.length : Int) := by omega
        have ew : IntKind.i64.wrap ((k : Int) + 1) = (k : Int) + 1 := by
          rw [IntWalk.i64_in] <;> omega
        clear hc1 hc2 hall
        by_cases hxy : x = y
        · subst hxy
          go_wp2_with fail
          go_quiet (fail)
          go_wp2_with fail
          go_roundg (xs.length + 1 - (k + 1))
          case measure => omega
          case rel => exact ⟨k + 1, by omega, rfl, by go_num, Lib.hid (HA.out (by first | trivial | rfl)), n + nq, by first | rfl | simp [World.drewN, Nat.add_assoc]⟩
        · have hb : ((x : Int) != (y : Int)) = true := by simp; omega
          have hb2 : ((x : Int) == (y : Int)) = false := by simp; omega
          have HFF := Lib.hid (HF.out hxy)
          clear hxy HF HA
          go_wp2_with fail
          go_quiet (fail)
          go_wp2_with fail
          go_ret
          refine ⟨?_, n + nq, by first | rfl | simp [World.drewN, Nat.add_assoc]⟩
          rw [HFF.out]; rfl
      · have hge : xs.length ≤ k := by omega
        have HE := Lib.hid (show decide (xs = ys) = true from by simp only [decide_eq_true_eq]; exact HQ.out fun i hi => hall.out i (by omega))
        clear hlt hall
        go_wp2_with fail
        go_ret
        refine ⟨?_, n, rfl⟩
        rw [HE.out]; rfl
  · have HNE := Lib.hid hne
    have hb : ((xs.length : Int) != (ys.length : Int)) = true := by simp; omega
    have HF := Lib.hid (show decide (xs = ys) = false by simp only [decide_eq_false_iff_not]; intro e; exact hne (by rw [e]))
    clear hne
    go_enter Tryz.func100, Tryz.ntmps100
    go_wp2_with fail
    go_ret
    refine ⟨?_, 0, rfl⟩
    rw [HF.out]; rfl
end Ord
end Go.Proofs.YtpdlpmbjhopnnaaGreatDoor
