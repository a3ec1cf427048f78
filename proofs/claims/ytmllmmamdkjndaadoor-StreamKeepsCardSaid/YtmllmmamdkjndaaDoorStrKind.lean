/- kind and Writes of package stream; Writes and Known of the document. -/
import Derived.Test.YtmllmmamdkjndaaDoorBunPlain
namespace Go.Proofs.YtmllmmamdkjndaaDoor
open Go.RowKit Sha Six
namespace Str
set_option maxHeartbeats 1000000 in
theorem kind_any (c : Int) (w : World) : Calls Tryd.prog 21 #[.int .i64 c] w fun e w' => e = .returned (.tuple #[.bool (known c), .bool (writes c)]) ∧ w = w' := by
  by_cases h1 : c = 241
  · subst h1
    go_enter Tryd.func21, Tryd.ntmps21
    go_wp2
    go_ret2
    exact ⟨rfl, rfl⟩
  by_cases h2 : c = 245
  · subst h2
    go_enter Tryd.func21, Tryd.ntmps21
    go_wp2
    go_ret2
    exact ⟨rfl, rfl⟩
  by_cases h3 : c = 111
  · subst h3
    go_enter Tryd.func21, Tryd.ntmps21
    go_wp2
    go_ret2
    exact ⟨rfl, rfl⟩
  by_cases h4 : c = 242
  · subst h4
    go_enter Tryd.func21, Tryd.ntmps21
    go_wp2
    go_ret2
    exact ⟨rfl, rfl⟩
  by_cases h5 : c = 246
  · subst h5
    go_enter Tryd.func21, Tryd.ntmps21
    go_wp2
    go_ret2
    exact ⟨rfl, rfl⟩
  have e1 : writes c = false := by simp [writes, h1, h2]
  have e2 : known c = false := by simp [known, writes, h1, h2, h3, h4, h5]
  rw [e1, e2]
  have g1 : (c == 241) = false := by simp [h1]
  have g2 : (c == 245) = false := by simp [h2]
  have g3 : (c == 111) = false := by simp [h3]
  have g4 : (c == 242) = false := by simp [h4]
  have g5 : (c == 246) = false := by simp [h5]
  clear h1 h2 h3 h4 h5 e1 e2
  go_enter Tryd.func21, Tryd.ntmps21
  go_wp2
  go_ret2
  exact ⟨rfl, rfl⟩
theorem writes_any (c : Int) (w : World) : Calls Tryd.prog 16 #[.int .i64 c] w fun e w' => e = .returned (.bool (writes c)) ∧ w = w' := by
  have H := Lib.hid fun W => kind_any c W
  go_enter Tryd.func16, Tryd.ntmps16
  go_wp2_with fail
  with_reducible refine (H.out _).mono ?_
  rintro e w' ⟨rfl, rfl⟩
  go_wp2_with fail
  go_ret
  exact ⟨rfl, rfl⟩
theorem rwrites_any (c : Int) (w : World) : Calls Tryd.prog 17 #[.int .i64 c] w fun e w' => e = .returned (.bool (writes c)) ∧ w = w' := by
  by_cases h1 : c = 241
  · subst h1
    go_enter Tryd.func17, Tryd.ntmps17
    go_wp2
    go_ret
    exact ⟨rfl, rfl⟩
  have g1 : (c == 241) = false := by simp [h1]
  have e : writes c = (c == 245) := by simp [writes, h1]
  rw [e]
  clear h1 e
  go_enter Tryd.func17, Tryd.ntmps17
  go_wp2
  go_ret
  exact ⟨rfl, rfl⟩
theorem rknown_any (c : Int) (w : World) : Calls Tryd.prog 23 #[.int .i64 c] w fun e w' => e = .returned (.bool (known c)) ∧ w = w' := by
  have H := Lib.hid fun W => rwrites_any c W
  cases hw : writes c with
  | true =>
    have e : known c = true := by simp [known, hw]
    rw [e]
    rw [hw] at H
    go_enter Tryd.func23, Tryd.ntmps23
    go_wp2_with fail
    with_reducible refine (H.out _).mono ?_
    rintro e w' ⟨rfl, rfl⟩
    go_wp2_with fail
    go_ret
    exact ⟨rfl, rfl⟩
  | false =>
    have e : known c = ((c == 111) || (c == 242) || (c == 246)) := by simp [known, hw]
    rw [e]
    rw [hw] at H
    clear e hw
    by_cases h1 : c = 111
    · subst h1
      go_enter Tryd.func23, Tryd.ntmps23
      go_wp2_with fail
      with_reducible refine (H.out _).mono ?_
      rintro e w' ⟨rfl, rfl⟩
      go_wp2_with fail
      go_ret
      exact ⟨rfl, rfl⟩
    by_cases h2 : c = 242
    · subst h2
      go_enter Tryd.func23, Tryd.ntmps23
      go_wp2_with fail
      with_reducible refine (H.out _).mono ?_
      rintro e w' ⟨rfl, rfl⟩
      go_wp2_with fail
      go_ret
      exact ⟨rfl, rfl⟩
    have g1 : (c == 111) = false := by simp [h1]
    have g2 : (c == 242) = false := by simp [h2]
    clear h1 h2
    go_enter Tryd.func23, Tryd.ntmps23
    go_wp2_with fail
    with_reducible refine (H.out _).mono ?_
    rintro e w' ⟨rfl, rfl⟩
    go_wp2_with fail
    go_ret
    exact ⟨by simp [g1, g2], rfl⟩
end Str
end Go.Proofs.YtmllmmamdkjndaaDoor
