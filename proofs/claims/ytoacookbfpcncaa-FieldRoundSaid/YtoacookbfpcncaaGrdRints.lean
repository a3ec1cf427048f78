/- Ints of the document, layer 10. -/
import Derived.Test.YtoacookbfpcncaaGrdRow
import Derived.Deep.LoopGhost
import Derived.Deep.QuietTactic
import Derived.BigQuiet
import Derived.IntWalk
namespace Go.Proofs.Ytoacookbfpcncaa
open Go.RowKit Sha Six Apd Cut Err Att
set_option linter.unusedVariables false
namespace Grd
theorem i_ext {xs ys : List Nat} (hl : xs.length = ys.length) (h : ∀ i, i < xs.length → xs.getD i 0 = ys.getD i 0) : xs = ys := by
  apply List.ext_getElem hl
  intro i h1 h2
  have := h i h1
  rwa [List.getD_eq_getElem?_getD, List.getD_eq_getElem?_getD, List.getElem?_eq_getElem h1, List.getElem?_eq_getElem h2] at this
set_option maxRecDepth 100000 in
set_option maxHeartbeats 8000000 in
theorem rints_same (v1 v2 : Value) (xs : List Nat) (b1 b2 : Nat) (w : World) (h1 : OwnInts w b1 v1 xs) (h2 : OwnInts w b2 v2 xs) (hl : xs.length < 100000000) :
    Calls Try.prog 15 #[v1, v2] w fun e w' => e = .returned (.bool true) ∧ ∃ m, w' = w.drewN m := by
  have H1 := Lib.hid h1
  have H2 := Lib.hid h2
  have HL := Lib.hid hl
  obtain ⟨a1, k1, rfl⟩ := h1.form
  obtain ⟨a2, k2, rfl⟩ := h2.form
  clear h1 h2 hl
  have hne : ((xs.length : Int) != (xs.length : Int)) = false := by simp
  go_enter Try.func15, Try.ntmps15
  go_wp2_with fail
  go_loopg [5] (xs.length + 1) (fun m i wr => ∃ k : Nat, k ≤ xs.length ∧ m = xs.length + 1 - k ∧ i = .int .i64 k ∧ ∃ n, wr = w.drewN n)
  case atStart => exact ⟨0, Nat.zero_le _, rfl, rfl, 0, rfl⟩
  case round =>
    obtain ⟨k, hk, rfl, rfl, n, rfl⟩ := hrel
    have ew : IntKind.i64.wrap ((k : Int) + 1) = (k : Int) + 1 := by
      have := HL.out
      rw [IntWalk.i64_in] <;> omega
    by_cases hlt : k < xs.length
    · obtain ⟨g1, rfl, _, _, d1, _⟩ := H1.out.cell hlt
      obtain ⟨g2, rfl, _, _, d2, _⟩ := H2.out.cell hlt
      rw [Nat.zero_add] at d1 d2
      have hi0 : (0 : Int) ≤ (k : Int) := by omega
      have hi1 : (k : Int) < (xs.length : Int) := by omega
      generalize xs.getD k 0 = x at d1 d2
      have hb : ((x : Int) != (x : Int)) = false := by simp
      go_wp2_with fail
      go_quiet (fail)
      go_wp2_with fail
      go_roundg (xs.length + 1 - (k + 1))
      case measure => omega
      case rel => exact ⟨k + 1, by omega, rfl, by first | rfl | go_num, n + nq, by first | rfl | simp [World.drewN, Nat.add_assoc]⟩
    · have hn0 : ¬ (k : Int) < (xs.length : Int) := by omega
      clear hlt
      go_wp2_with fail
      go_ret
      exact ⟨rfl, n, rfl⟩
end Grd
end Go.Proofs.Ytoacookbfpcncaa
