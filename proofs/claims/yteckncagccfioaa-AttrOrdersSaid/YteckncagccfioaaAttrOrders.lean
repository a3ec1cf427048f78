/- The law AttrOrders returns true. -/
import Derived.Test.YteckncagccfioaaAttrAwake
import Derived.Test.YteckncagccfioaaKp
namespace Go.Proofs.Yteckncagccfioaa
open Go.RowKit Six Err
namespace Att
set_option maxRecDepth 100000 in
set_option maxHeartbeats 4000000 in
theorem orders_29 (w : World) :
    Calls Try.prog 4 #[.int .u8 29] w fun e w' => e = .returned (.bool true) ∧ Below w.heap.size w w' := by
  have K0 : Hid (∀ W, Calls Try.prog 9 #[.int .u8 29] W fun e w' => e = .returned (.bool false) ∧ W = w') := fun W => char_any 29 W (by decide)
  have K1 : Hid (∀ W, Calls Try.prog 12 #[.int .u8 29] W fun e w' => e = .returned (.bool false) ∧ W = w') := fun W => bare_any 29 W (by decide)
  have K2 : Hid (∀ W, Calls Try.prog 13 #[.int .u8 29] W fun e w' => e = .returned (.bool false) ∧ W = w') := fun W => aid_any 29 W (by decide)
  go_enter Try.func4, Try.ntmps4
  go_wp2_with fail
  with_reducible refine (awake_any _).mono ?_
  rintro e w1 ⟨rfl, hb⟩
  have H := Kp.be hb
  clear hb
  go_wp2_with fail
  with_reducible refine (K0.out _).mono ?_
  rintro e w' ⟨rfl, rfl⟩
  go_wp2_with fail
  with_reducible refine (K1.out _).mono ?_
  rintro e w' ⟨rfl, rfl⟩
  go_wp2_with fail
  with_reducible refine (K2.out _).mono ?_
  rintro e w' ⟨rfl, rfl⟩
  go_wp2_with fail
  go_ret
  exact ⟨rfl, H.out⟩
set_option maxRecDepth 100000 in
set_option maxHeartbeats 4000000 in
theorem orders_17 (w : World) :
    Calls Try.prog 4 #[.int .u8 17] w fun e w' => e = .returned (.bool true) ∧ Below w.heap.size w w' := by
  have K0 : Hid (∀ W, Calls Try.prog 9 #[.int .u8 17] W fun e w' => e = .returned (.bool false) ∧ W = w') := fun W => char_any 17 W (by decide)
  have K1 : Hid (∀ W, Calls Try.prog 12 #[.int .u8 17] W fun e w' => e = .returned (.bool false) ∧ W = w') := fun W => bare_any 17 W (by decide)
  have K2 : Hid (∀ W, Calls Try.prog 13 #[.int .u8 17] W fun e w' => e = .returned (.bool false) ∧ W = w') := fun W => aid_any 17 W (by decide)
  go_enter Try.func4, Try.ntmps4
  go_wp2_with fail
  with_reducible refine (awake_any _).mono ?_
  rintro e w1 ⟨rfl, hb⟩
  have H := Kp.be hb
  clear hb
  go_wp2_with fail
  with_reducible refine (K0.out _).mono ?_
  rintro e w' ⟨rfl, rfl⟩
  go_wp2_with fail
  with_reducible refine (K1.out _).mono ?_
  rintro e w' ⟨rfl, rfl⟩
  go_wp2_with fail
  with_reducible refine (K2.out _).mono ?_
  rintro e w' ⟨rfl, rfl⟩
  go_wp2_with fail
  go_ret
  exact ⟨rfl, H.out⟩
set_option maxRecDepth 100000 in
set_option maxHeartbeats 4000000 in
theorem orders_19 (w : World) :
    Calls Try.prog 4 #[.int .u8 19] w fun e w' => e = .returned (.bool true) ∧ Below w.heap.size w w' := by
  have K0 : Hid (∀ W, Calls Try.prog 9 #[.int .u8 19] W fun e w' => e = .returned (.bool false) ∧ W = w') := fun W => char_any 19 W (by decide)
  have K1 : Hid (∀ W, Calls Try.prog 12 #[.int .u8 19] W fun e w' => e = .returned (.bool false) ∧ W = w') := fun W => bare_any 19 W (by decide)
  have K2 : Hid (∀ W, Calls Try.prog 13 #[.int .u8 19] W fun e w' => e = .returned (.bool false) ∧ W = w') := fun W => aid_any 19 W (by decide)
  go_enter Try.func4, Try.ntmps4
  go_wp2_with fail
  with_reducible refine (awake_any _).mono ?_
  rintro e w1 ⟨rfl, hb⟩
  have H := Kp.be hb
  clear hb
  go_wp2_with fail
  with_reducible refine (K0.out _).mono ?_
  rintro e w' ⟨rfl, rfl⟩
  go_wp2_with fail
  with_reducible refine (K1.out _).mono ?_
  rintro e w' ⟨rfl, rfl⟩
  go_wp2_with fail
  with_reducible refine (K2.out _).mono ?_
  rintro e w' ⟨rfl, rfl⟩
  go_wp2_with fail
  go_ret
  exact ⟨rfl, H.out⟩
set_option maxRecDepth 100000 in
set_option maxHeartbeats 4000000 in
theorem orders_5 (w : World) :
    Calls Try.prog 4 #[.int .u8 5] w fun e w' => e = .returned (.bool true) ∧ Below w.heap.size w w' := by
  have K0 : Hid (∀ W, Calls Try.prog 9 #[.int .u8 5] W fun e w' => e = .returned (.bool false) ∧ W = w') := fun W => char_any 5 W (by decide)
  have K1 : Hid (∀ W, Calls Try.prog 12 #[.int .u8 5] W fun e w' => e = .returned (.bool false) ∧ W = w') := fun W => bare_any 5 W (by decide)
  have K2 : Hid (∀ W, Calls Try.prog 13 #[.int .u8 5] W fun e w' => e = .returned (.bool false) ∧ W = w') := fun W => aid_any 5 W (by decide)
  go_enter Try.func4, Try.ntmps4
  go_wp2_with fail
  with_reducible refine (awake_any _).mono ?_
  rintro e w1 ⟨rfl, hb⟩
  have H := Kp.be hb
  clear hb
  go_wp2_with fail
  with_reducible refine (K0.out _).mono ?_
  rintro e w' ⟨rfl, rfl⟩
  go_wp2_with fail
  with_reducible refine (K1.out _).mono ?_
  rintro e w' ⟨rfl, rfl⟩
  go_wp2_with fail
  with_reducible refine (K2.out _).mono ?_
  rintro e w' ⟨rfl, rfl⟩
  go_wp2_with fail
  go_ret
  exact ⟨rfl, H.out⟩
set_option maxRecDepth 100000 in
set_option maxHeartbeats 4000000 in
theorem orders_60 (w : World) :
    Calls Try.prog 4 #[.int .u8 60] w fun e w' => e = .returned (.bool true) ∧ Below w.heap.size w w' := by
  have K0 : Hid (∀ W, Calls Try.prog 9 #[.int .u8 60] W fun e w' => e = .returned (.bool false) ∧ W = w') := fun W => char_any 60 W (by decide)
  have K1 : Hid (∀ W, Calls Try.prog 12 #[.int .u8 60] W fun e w' => e = .returned (.bool false) ∧ W = w') := fun W => bare_any 60 W (by decide)
  have K2 : Hid (∀ W, Calls Try.prog 13 #[.int .u8 60] W fun e w' => e = .returned (.bool false) ∧ W = w') := fun W => aid_any 60 W (by decide)
  go_enter Try.func4, Try.ntmps4
  go_wp2_with fail
  with_reducible refine (awake_any _).mono ?_
  rintro e w1 ⟨rfl, hb⟩
  have H := Kp.be hb
  clear hb
  go_wp2_with fail
  with_reducible refine (K0.out _).mono ?_
  rintro e w' ⟨rfl, rfl⟩
  go_wp2_with fail
  with_reducible refine (K1.out _).mono ?_
  rintro e w' ⟨rfl, rfl⟩
  go_wp2_with fail
  with_reducible refine (K2.out _).mono ?_
  rintro e w' ⟨rfl, rfl⟩
  go_wp2_with fail
  go_ret
  exact ⟨rfl, H.out⟩
set_option maxRecDepth 100000 in
set_option maxHeartbeats 4000000 in
theorem orders_18 (w : World) :
    Calls Try.prog 4 #[.int .u8 18] w fun e w' => e = .returned (.bool true) ∧ Below w.heap.size w w' := by
  have K0 : Hid (∀ W, Calls Try.prog 9 #[.int .u8 18] W fun e w' => e = .returned (.bool false) ∧ W = w') := fun W => char_any 18 W (by decide)
  have K1 : Hid (∀ W, Calls Try.prog 12 #[.int .u8 18] W fun e w' => e = .returned (.bool false) ∧ W = w') := fun W => bare_any 18 W (by decide)
  have K2 : Hid (∀ W, Calls Try.prog 13 #[.int .u8 18] W fun e w' => e = .returned (.bool false) ∧ W = w') := fun W => aid_any 18 W (by decide)
  go_enter Try.func4, Try.ntmps4
  go_wp2_with fail
  with_reducible refine (awake_any _).mono ?_
  rintro e w1 ⟨rfl, hb⟩
  have H := Kp.be hb
  clear hb
  go_wp2_with fail
  with_reducible refine (K0.out _).mono ?_
  rintro e w' ⟨rfl, rfl⟩
  go_wp2_with fail
  with_reducible refine (K1.out _).mono ?_
  rintro e w' ⟨rfl, rfl⟩
  go_wp2_with fail
  with_reducible refine (K2.out _).mono ?_
  rintro e w' ⟨rfl, rfl⟩
  go_wp2_with fail
  go_ret
  exact ⟨rfl, H.out⟩
set_option maxRecDepth 100000 in
set_option maxHeartbeats 4000000 in
theorem orders_no (b : Nat) (h0 : b ≠ 29) (h1 : b ≠ 17) (h2 : b ≠ 19) (h3 : b ≠ 5) (h4 : b ≠ 60) (h5 : b ≠ 18) (hx : bare b = false) (hy : aid b = false) (w : World) (hb8 : b < 256) :
    Calls Try.prog 4 #[.int .u8 (b : Int)] w fun e w' => e = .returned (.bool true) ∧ Below w.heap.size w w' := by
  have K1 := Lib.hid fun W => bare_any b W hb8
  have K2 := Lib.hid fun W => aid_any b W hb8
  rw [hx] at K1
  rw [hy] at K2
  have k0 : ((b : Int) == 29) = false := by simp; omega
  have k1 : ((b : Int) == 17) = false := by simp; omega
  have k2 : ((b : Int) == 19) = false := by simp; omega
  have k3 : ((b : Int) == 5) = false := by simp; omega
  have k4 : ((b : Int) == 60) = false := by simp; omega
  have k5 : ((b : Int) == 18) = false := by simp; omega
  clear hx hy h0 h1 h2 h3 h4 h5
  go_enter Try.func4, Try.ntmps4
  go_wp2_with fail
  with_reducible refine (awake_any _).mono ?_
  rintro e w1 ⟨rfl, hb⟩
  have H := Kp.be hb
  clear hb
  go_wp2_with fail
  with_reducible refine (K1.out _).mono ?_
  rintro e w' ⟨rfl, rfl⟩
  go_wp2_with fail
  with_reducible refine (K2.out _).mono ?_
  rintro e w' ⟨rfl, rfl⟩
  go_wp2_with fail
  go_ret
  exact ⟨rfl, H.out⟩
set_option maxRecDepth 100000 in
set_option maxHeartbeats 4000000 in
theorem orders_asks (b : Nat) (h0 : b ≠ 29) (h1 : b ≠ 17) (h2 : b ≠ 19) (h3 : b ≠ 5) (h4 : b ≠ 60) (h5 : b ≠ 18) (hx : bare b = false) (hy : aid b = true) (hc : char b = true) (w : World) (hb8 : b < 256) :
    Calls Try.prog 4 #[.int .u8 (b : Int)] w fun e w' => e = .returned (.bool true) ∧ Below w.heap.size w w' := by
  have K1 := Lib.hid fun W => bare_any b W hb8
  have K2 := Lib.hid fun W => aid_any b W hb8
  rw [hx] at K1
  rw [hy] at K2
  have K0 := Lib.hid fun W => char_any b W hb8
  rw [hc] at K0
  have k0 : ((b : Int) == 29) = false := by simp; omega
  have k1 : ((b : Int) == 17) = false := by simp; omega
  have k2 : ((b : Int) == 19) = false := by simp; omega
  have k3 : ((b : Int) == 5) = false := by simp; omega
  have k4 : ((b : Int) == 60) = false := by simp; omega
  have k5 : ((b : Int) == 18) = false := by simp; omega
  clear hx hy hc h0 h1 h2 h3 h4 h5
  go_enter Try.func4, Try.ntmps4
  go_wp2_with fail
  with_reducible refine (awake_any _).mono ?_
  rintro e w1 ⟨rfl, hb⟩
  have H := Kp.be hb
  clear hb
  go_wp2_with fail
  with_reducible refine (K1.out _).mono ?_
  rintro e w' ⟨rfl, rfl⟩
  go_wp2_with fail
  with_reducible refine (K2.out _).mono ?_
  rintro e w' ⟨rfl, rfl⟩
  go_wp2_with fail
  with_reducible refine (K0.out _).mono ?_
  rintro e w' ⟨rfl, rfl⟩
  go_wp2_with fail
  go_ret
  exact ⟨rfl, H.out⟩
set_option maxRecDepth 100000 in
set_option maxHeartbeats 4000000 in
theorem orders_bare (b : Nat) (h0 : b ≠ 29) (h1 : b ≠ 17) (h2 : b ≠ 19) (h3 : b ≠ 5) (h4 : b ≠ 60) (h5 : b ≠ 18) (hx : bare b = true) (hy : aid b = true) (hc : char b = true) (w : World) (hb8 : b < 256) :
    Calls Try.prog 4 #[.int .u8 (b : Int)] w fun e w' => e = .returned (.bool true) ∧ Below w.heap.size w w' := by
  have K1 := Lib.hid fun W => bare_any b W hb8
  have K2 := Lib.hid fun W => aid_any b W hb8
  rw [hx] at K1
  rw [hy] at K2
  have K0 := Lib.hid fun W => char_any b W hb8
  rw [hc] at K0
  have k0 : ((b : Int) == 29) = false := by simp; omega
  have k1 : ((b : Int) == 17) = false := by simp; omega
  have k2 : ((b : Int) == 19) = false := by simp; omega
  have k3 : ((b : Int) == 5) = false := by simp; omega
  have k4 : ((b : Int) == 60) = false := by simp; omega
  have k5 : ((b : Int) == 18) = false := by simp; omega
  clear hx hy hc h0 h1 h2 h3 h4 h5
  go_enter Try.func4, Try.ntmps4
  go_wp2_with fail
  with_reducible refine (awake_any _).mono ?_
  rintro e w1 ⟨rfl, hb⟩
  have H := Kp.be hb
  clear hb
  go_wp2_with fail
  with_reducible refine (K1.out _).mono ?_
  rintro e w' ⟨rfl, rfl⟩
  go_wp2_with fail
  with_reducible refine (K2.out _).mono ?_
  rintro e w' ⟨rfl, rfl⟩
  go_wp2_with fail
  with_reducible refine (K2.out _).mono ?_
  rintro e w' ⟨rfl, rfl⟩
  go_wp2_with fail
  with_reducible refine (K0.out _).mono ?_
  rintro e w' ⟨rfl, rfl⟩
  go_wp2_with fail
  go_ret
  exact ⟨rfl, H.out⟩
/-- AttrOrders returns true. -/
theorem orders_any (b : Nat) (w : World) (hb8 : b < 256) :
    Calls Try.prog 4 #[.int .u8 (b : Int)] w fun e w' => e = .returned (.bool true) ∧ Below w.heap.size w w' := by
  by_cases h0 : b = 29
  · subst h0; exact orders_29 w
  by_cases h1 : b = 17
  · subst h1; exact orders_17 w
  by_cases h2 : b = 19
  · subst h2; exact orders_19 w
  by_cases h3 : b = 5
  · subst h3; exact orders_5 w
  by_cases h4 : b = 60
  · subst h4; exact orders_60 w
  by_cases h5 : b = 18
  · subst h5; exact orders_18 w
  cases hy : aid b with
  | false =>
    cases hx : bare b with
    | false => exact orders_no b h0 h1 h2 h3 h4 h5 hx hy w hb8
    | true => rw [bare_aid b hx] at hy; cases hy
  | true =>
    have hc := aid_char b hb8 hy
    cases hx : bare b with
    | false => exact orders_asks b h0 h1 h2 h3 h4 h5 hx hy hc w hb8
    | true => exact orders_bare b h0 h1 h2 h3 h4 h5 hx hy hc w hb8
end Att
end Go.Proofs.Yteckncagccfioaa
