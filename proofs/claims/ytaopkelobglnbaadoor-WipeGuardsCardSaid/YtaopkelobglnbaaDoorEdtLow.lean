/- Package edit's leafs: Digit, suitsNumeric, Deny, Modify; the searches through a list of numbers. -/
import Derived.Test.YtaopkelobglnbaaDoorEdtFirst
import Derived.Test.YtaopkelobglnbaaDoorGrdInts
import Derived.Test.YtaopkelobglnbaaDoorScrBox
import Derived.Test.YtaopkelobglnbaaDoorScrGave
import Derived.Test.YtaopkelobglnbaaDoorBunFlc
import Derived.Test.YtaopkelobglnbaaDoorBunFlc
import Derived.Test.YtaopkelobglnbaaDoorBunFlc
import Derived.Test.YtaopkelobglnbaaDoorBunLow
import Derived.Deep.Cut
import Derived.Deep.RegionHeld3
namespace Go.Proofs.YtaopkelobglnbaaDoor
open Go.RowKit Sha Six Apd Cut Err Att Grd Fld Scr
set_option linter.unusedVariables false
namespace Edt
set_option maxRecDepth 100000 in
set_option maxHeartbeats 2000000 in
theorem digit_w (c : Nat) (w : World) (hc : c < 256) : Calls Tryd.prog 56 #[.int .u8 (c : Int)] w fun e w' => e = .returned (.bool (digit c)) ∧ w = w' := by
  unfold digit
  by_cases h1 : c = 96
  · subst h1
    go_enter Tryd.func56, Tryd.ntmps56
    go_wp2
    go_ret
    exact ⟨rfl, rfl⟩
  by_cases h2 : c = 75
  · subst h2
    go_enter Tryd.func56, Tryd.ntmps56
    go_wp2
    go_ret
    exact ⟨rfl, rfl⟩
  have k1 : ((c : Int) == 96) = false := by simp; omega
  have k2 : ((c : Int) == 75) = false := by simp; omega
  have hd : (c == 96 || c == 75) = false := by simp [h1, h2]
  rw [hd, Bool.or_false]
  clear hd h1 h2
  by_cases h3 : 240 ≤ c
  · by_cases h4 : c ≤ 249
    · go_enter Tryd.func56, Tryd.ntmps56
      go_wp2
      go_ret
      exact ⟨ret_bool (by simp), rfl⟩
    · go_enter Tryd.func56, Tryd.ntmps56
      go_wp2
      go_ret
      exact ⟨ret_bool (by simp [h4]; try omega), rfl⟩
  · go_enter Tryd.func56, Tryd.ntmps56
    go_wp2
    go_ret
    exact ⟨ret_bool (by simp), rfl⟩
theorem digit_any (c : Nat) (w : World) (hc : c < 256) : Calls Tryd.prog 56 #[.int .u8 (c : Int)] w fun e w' => e = .returned (.bool (digit c)) ∧ Below w.heap.size w w' :=
  (digit_w c w hc).mono fun e w' ⟨h1, h2⟩ => ⟨h1, h2 ▸ Below.refl _ _⟩
set_option maxRecDepth 100000 in
set_option maxHeartbeats 2000000 in
theorem suits_w (c : Nat) (w : World) (hc : c < 256) : Calls Tryd.prog 40 #[.int .u8 (c : Int)] w fun e w' => e = .returned (.bool (suits c)) ∧ w = w' := by
  have HD := Lib.hid fun W => digit_w c W hc
  unfold suits
  have e1 : ((c : Int) == 28) = (c == 28) := by rw [Bool.eq_iff_iff]; simp; omega
  have e2 : ((c : Int) == 30) = (c == 30) := by rw [Bool.eq_iff_iff]; simp; omega
  generalize digit c = d at *
  generalize (c == 28) = x at *
  generalize (c == 30) = y at *
  cases d <;> cases x <;> cases y <;>
  · go_enter Tryd.func40, Tryd.ntmps40
    go_wp2_with fail
    refine (HD.out _).mono ?_
    rintro e w1 ⟨rfl, rfl⟩
    go_wp2_with fail
    go_ret
    exact ⟨rfl, rfl⟩
set_option maxRecDepth 100000 in
set_option maxHeartbeats 8000000 in
theorem index_any (v : Value) (xs : List Nat) (a j : Nat) (w : World) (h : IntsIn w v xs) (hl : xs.length < 100000000) (hj : j < xs.length) (hja : xs.getD j 0 = a) (hn : ∀ i, i < j → xs.getD i 0 ≠ a) :
    Calls Tryd.prog 37 #[v, .int .i64 (a : Int)] w fun e w' => e = .returned (.int .i64 (j : Int)) ∧ w = w' := by
  have H1 := Lib.hid h
  have HL := Lib.hid hl
  have HJ := Lib.hid hj
  have HA := Lib.hid hja
  have HN := Lib.hid hn
  obtain ⟨a1, k1, rfl⟩ := h.form
  clear h hl hj hja hn
  go_enter Tryd.func37, Tryd.ntmps37
  go_wp2_with fail
  go_loopg [8] (xs.length + 1) (fun m i wr => ∃ k : Nat, k ≤ j ∧ m = xs.length + 1 - k ∧ i = .int .i64 k ∧ w = wr)
  case atStart => exact ⟨0, Nat.zero_le _, rfl, rfl, rfl⟩
  case round =>
    obtain ⟨k, hk, rfl, rfl, rfl⟩ := hrel
    have hkl : k < xs.length := by have := HJ.out; omega
    have ew : IntKind.i64.wrap ((k : Int) + 1) = (k : Int) + 1 := by
      have := HL.out
      rw [IntWalk.i64_in] <;> omega
    have hlt : (k : Int) < (xs.length : Int) := by omega
    obtain ⟨g1, o1, rfl, d1⟩ := H1.out.cell hkl
    have hi0 : (0 : Int) ≤ (k : Int) := by omega
    by_cases he : k = j
    · have hx : ((a : Int) == ((xs.getD k 0 : Nat) : Int)) = true := by rw [he, HA.out]; simp
      generalize xs.getD k 0 = x at *
      replace he := Lib.hid he
      go_wp2_with fail
      go_ret
      exact ⟨by rw [← he.out]; rfl, rfl⟩
    · have hx : ((a : Int) == ((xs.getD k 0 : Nat) : Int)) = false := by have := HN.out k (by omega); rw [Bool.eq_false_iff]; intro h0; rw [beq_iff_eq] at h0; omega
      generalize xs.getD k 0 = x at *
      have hk1 := Lib.hid (show k + 1 ≤ j by omega)
      clear he hk
      go_wp2_with fail
      go_roundg (xs.length + 1 - (k + 1))
      case measure => omega
      case rel => exact ⟨k + 1, hk1.out, rfl, by first | rfl | go_num, rfl⟩
end Edt
end Go.Proofs.YtaopkelobglnbaaDoor
