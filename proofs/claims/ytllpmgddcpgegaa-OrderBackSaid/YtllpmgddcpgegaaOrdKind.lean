/- kindOf of package order. Written by tools/gen_ord_take.py. -/
import Derived.Test.YtllpmgddcpgegaaOrdSpec
import Derived.Test.YtllpmgddcpgegaaAttrChar
import Derived.Test.YtllpmgddcpgegaaOrdBegin
import Derived.Deep.LoopGhost
namespace Go.Proofs.Ytllpmgddcpgegaa
open Go.RowKit Six Att
namespace Ord
/-- The kind that begins with a byte. -/
def kindB (b : Nat) : Nat := if char b then 1 else if b = 29 then 2 else if b = 17 then 3 else if b = 19 then 4 else if b = 5 then 5 else if b = 60 then 6 else if b = 18 then 7 else 0
theorem kindB_char {b : Nat} (h : char b = true) : kindB b = 1 := by unfold kindB; rw [if_pos h]
theorem kindB_at : ∀ b, b < 256 → ∀ k : Nat, k < 8 → 2 ≤ k → char b = false → begins (k : Int) = b → kindB b = k := by decide +kernel
theorem kindB_none0 : ∀ b, b < 256 → (kindB b == 0 || char b || begins 2 == b || begins 3 == b || begins 4 == b || begins 5 == b || begins 6 == b || begins 7 == b) = true := by decide +kernel
theorem kindB_none (b : Nat) (hb : b < 256) (hc : char b = false) (h2 : begins 2 ≠ b) (h3 : begins 3 ≠ b) (h4 : begins 4 ≠ b) (h5 : begins 5 ≠ b) (h6 : begins 6 ≠ b) (h7 : begins 7 ≠ b) : kindB b = 0 := by
  have h := kindB_none0 b hb
  rw [hc] at h
  simpa [h2, h3, h4, h5, h6, h7] using h
theorem begins_any (k : Nat) (w : World) (h1 : 2 ≤ k) (h2 : k ≤ 7) : Calls Try.prog 18 #[.int .i64 (k : Int)] w fun e w' => e = .returned (.int .u8 (begins (k : Int) : Nat)) ∧ w = w' := by
  have hk : k = 2 ∨ k = 3 ∨ k = 4 ∨ k = 5 ∨ k = 6 ∨ k = 7 := by omega
  rcases hk with rfl | rfl | rfl | rfl | rfl | rfl
  · exact begins_2 w
  · exact begins_3 w
  · exact begins_4 w
  · exact begins_5 w
  · exact begins_6 w
  · exact begins_7 w
set_option maxRecDepth 100000 in
set_option maxHeartbeats 1000000 in
theorem kindOf_any (b : Nat) (w : World) (hb : b < 256) :
    Calls Try.prog 38 #[.int .u8 (b : Int)] w fun e w' => e = .returned (.int .i64 (kindB b : Nat)) ∧ w = w' := by
  have HC := Lib.hid fun W => char_any b W hb
  cases hc : char b with
  | true =>
    have HK := Lib.hid (kindB_char hc)
    rw [hc] at HC
    clear hc
    go_enter Try.func38, Try.ntmps38
    go_wp2_with fail
    with_reducible refine (HC.out _).mono ?_
    rintro e w1 ⟨rfl, rfl⟩
    go_wp2_with fail
    go_ret
    refine ⟨?_, rfl⟩
    rw [HK.out]; rfl
  | false =>
    have HK := Lib.hid fun (k : Nat) h1 h2 h3 => kindB_at b hb k h1 h2 hc h3
    have HN := Lib.hid (kindB_none b hb hc)
    have HB := Lib.hid begins_any
    rw [hc] at HC
    clear hc
    go_enter Try.func38, Try.ntmps38
    go_wp2_with fail
    with_reducible refine (HC.out _).mono ?_
    rintro e w1 ⟨rfl, rfl⟩
    clear HC
    go_wp2_with fail
    go_loopg [3] 8 (fun n i wr => wr = w ∧ ∃ k : Nat, 2 ≤ k ∧ k ≤ 8 ∧ n = 10 - k ∧ i = .int .i64 k ∧ Hid (∀ j : Nat, 2 ≤ j → j < k → begins (j : Int) ≠ b))
    case atStart => exact ⟨rfl, 2, by omega, by omega, by omega, rfl, Lib.hid fun j h1 h2 => absurd h2 (by omega)⟩
    case round =>
      obtain ⟨rfl, k, hk1, hk2, rfl, rfl, hall⟩ := hrel
      by_cases hlt : k ≤ 7
      · have hi0 : (0 : Int) ≤ (k : Int) := by omega
        have hi1 : (k : Int) ≤ 7 := by omega
        have ew : IntKind.i64.wrap ((k : Int) + 1) = (k : Int) + 1 := by rw [IntWalk.i64_in] <;> omega
        have HE := Lib.hid (HB.out k wr hk1 hlt)
        have HKK := Lib.hid (HK.out k (by omega) hk1)
        have HA := Lib.hid (show begins (k : Int) ≠ b → ∀ j : Nat, 2 ≤ j → j < k + 1 → begins (j : Int) ≠ b from fun h j h1 h2 => by
          rcases Nat.lt_or_ge j k with h' | h'
          · exact hall.out j h1 h'
          · obtain rfl : j = k := by omega
            exact h)
        generalize begins (k : Int) = x at HE HKK HA
        clear hall
        go_wp2_with fail
        with_reducible refine HE.out.mono ?_
        rintro e w' ⟨rfl, rfl⟩
        by_cases hx : x = b
        · have e0 : ((x : Int) == (b : Int)) = true := by simp; omega
          have HR := Lib.hid (HKK.out hx)
          clear hx HA HKK HE ew
          go_wp2_with fail
          go_ret
          refine ⟨?_, rfl⟩
          rw [HR.out]; rfl
        · have e0 : ((x : Int) == (b : Int)) = false := by simp; omega
          have HR := Lib.hid (HA.out hx)
          clear hx HA HKK HE
          go_wp2_with fail
          go_roundg (10 - (k + 1))
          case measure => omega
          case rel => exact ⟨rfl, k + 1, by omega, by omega, rfl, by go_num, HR⟩
      · obtain rfl : k = 8 := by omega
        have HR := Lib.hid (show kindB b = 0 from HN.out (hall.out 2 (by omega) (by omega)) (hall.out 3 (by omega) (by omega)) (hall.out 4 (by omega) (by omega)) (hall.out 5 (by omega) (by omega)) (hall.out 6 (by omega) (by omega)) (hall.out 7 (by omega) (by omega)))
        clear hall hlt
        go_wp2_with fail
        go_ret
        refine ⟨?_, rfl⟩
        rw [HR.out]; rfl
end Ord
end Go.Proofs.Ytllpmgddcpgegaa
