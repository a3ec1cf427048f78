/- Next of the document, layer 10. -/
import Derived.Test.YtoacookbfpcncaaGrdBox
namespace Go.Proofs.Ytoacookbfpcncaa
open Go.RowKit Sha Six Apd Cut Err Att
set_option linter.unusedVariables false
namespace Grd
set_option maxHeartbeats 1000000 in
theorem rnext_any (r c : Int) (ad : Option Addr) (n k : Nat) (cur : Int) (lk ins : Bool) (a : Nat) (w : World) (ha : a < n) (hn : n < 100000000) :
    Calls Try.prog 29 #[.agg #[.int .i64 r, .int .i64 c, .slice ad n k, .int .i64 cur, .bool lk, .bool ins], .int .i64 (a : Int)] w fun e w' => e = .returned (.int .i64 ((on n a 1 : Nat) : Int)) ∧ Below w.heap.size w w' := by
  have h1 := on_nat (z := n) a 1
  rw [show ((1 : Nat) : Int) = 1 from rfl] at h1
  by_cases h0 : a + 1 = n
  · have HE := Lib.hid (show on n (a : Int) 1 = 0 by rw [h1, h0, Nat.mod_self])
    have hq : ((a : Int) + 1 == (n : Int)) = true := by simp; omega
    clear h0 h1
    generalize on n (a : Int) 1 = res at HE ⊢
    go_enter Try.func29, Try.ntmps29
    go_wp2_with fail
    go_ret
    exact ⟨by rw [HE.out]; rfl, al_any _ _⟩
  · have HE := Lib.hid (show ((on n (a : Int) 1 : Nat) : Int) = (a : Int) + 1 by rw [h1, Nat.mod_eq_of_lt (by omega)]; omega)
    have hq : ((a : Int) + 1 == (n : Int)) = false := by simp; omega
    clear h0 h1
    generalize on n (a : Int) 1 = res at HE ⊢
    go_enter Try.func29, Try.ntmps29
    go_wp2_with fail
    go_ret
    exact ⟨by rw [HE.out]; rfl, al_any _ _⟩
end Grd
end Go.Proofs.Ytoacookbfpcncaa
