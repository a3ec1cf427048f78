/- is and Refused of package keys. -/
import Derived.Test.YtpgbnnnfeaodmaaGreatDoorSErrIs
import Derived.Defers
import Derived.Recover
import Derived.Lib.Hide
namespace Go.Proofs.YtpgbnnnfeaodmaaGreatDoor
open Go.RowKit
set_option linter.unusedVariables false
namespace Kyb
open Err
theorem calm (w : World) :
    CallsD Tryz.prog 56 #[] .returning w fun e u' w' => e = .returned (.tuple #[]) ∧ u' = .returning ∧ w' = w := by
  refine callsD_of_wpS Tryz.func56 rfl fun c₀ cs hu => ?_
  apply wpS_region
  cases c₀
  simp only at hu
  subst hu
  simp [wpOpsS, go_sem, recoverD, Tryz.ntmps56, bodyPostS, results, Tryz.results56]
set_option maxRecDepth 100000 in
set_option maxHeartbeats 4000000 in
theorem is_any (ev : Value) (c p n : Int) (w : World) (h : Err.Told w ev c p) (hn : n ≠ 0) :
    Calls Tryz.prog 29 #[ev, .int .i64 n] w fun e w' => e = .returned (.bool (c == n)) ∧ w = w' := by
  have hmf : ∀ (fn : Fn) (first cap : Array Value) (w : World), (Instr.makeFunc fn first cap).run Tryz.prog w = .ok (.func fn first cap) w := fun _ _ _ _ => rfl
  have HI := Lib.hid (is_told ev c p n w h hn)
  generalize (c == n) = r at HI ⊢
  clear h hn
  go_enter_defers Tryz.func29, Tryz.ntmps29
  go_wp2_with (go_at_call 57; refine HI.out.mono ?_; rintro e w' ⟨rfl, rfl⟩)
  refine leaves_cons (f := 56) (args := #[]) (by simp) (by simp [go_sem]) ?_
  refine (calm _).mono ?_
  rintro e u' w'' ⟨rfl, rfl, rfl⟩
  exact ⟨_, results_tmp rfl _ _ _, rfl, rfl⟩
def refd (c : Int) : Bool := c == 7 || c == 8 || c == 9 || c == 10
set_option maxRecDepth 100000 in
set_option maxHeartbeats 4000000 in
theorem refused_any (ev : Value) (c p : Int) (w : World) (h : Err.Told w ev c p) :
    Calls Tryz.prog 15 #[ev] w fun e w' => e = .returned (.bool (refd c)) ∧ w = w' := by
  have Q7 := Lib.hid (is_any ev c p 7 w h (by decide))
  have Q8 := Lib.hid (is_any ev c p 8 w h (by decide))
  have Q9 := Lib.hid (is_any ev c p 9 w h (by decide))
  have Q10 := Lib.hid (is_any ev c p 10 w h (by decide))
  clear h
  have HR := Lib.hid (show refd c = (c == 7 || c == 8 || c == 9 || c == 10) from rfl)
  rw [HR.out]
  generalize (c == 7) = r7 at *
  generalize (c == 8) = r8 at *
  generalize (c == 9) = r9 at *
  generalize (c == 10) = r10 at *
  clear HR
  cases r7 <;> cases r8 <;> cases r9
  all_goals
    go_enter Tryz.func15, Tryz.ntmps15
    go_wp2_with (first | (with_reducible refine Q7.out.mono ?_; rintro e w' ⟨rfl, rfl⟩) | (with_reducible refine Q8.out.mono ?_; rintro e w' ⟨rfl, rfl⟩) | (with_reducible refine Q9.out.mono ?_; rintro e w' ⟨rfl, rfl⟩) | (with_reducible refine Q10.out.mono ?_; rintro e w' ⟨rfl, rfl⟩))
    go_ret
    exact ⟨rfl, rfl⟩
end Kyb
end Go.Proofs.YtpgbnnnfeaodmaaGreatDoor
