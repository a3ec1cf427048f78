/- The law AttrBack returns true. -/
import Derived.Test.YteckncagccfioaaAttrAwake
import Derived.Test.YteckncagccfioaaKp
namespace Go.Proofs.Yteckncagccfioaa
open Go.RowKit Six Err
namespace Att
set_option maxRecDepth 100000 in
set_option maxHeartbeats 4000000 in
theorem back_oo (p n m a u r : Bool) (s : Nat) (hs : s < 4) (c : Nat) (P Q M : Bool) (T : Nat) (hT : T < 4) (hc : c = put (num P Q M T)) (w : World) :
    Calls Try.prog 3 #[.agg #[.bool p, .bool n, .int .i64 (s : Int), .bool m], .agg #[.bool a, .bool u, .bool r], .int .u8 (c : Int)] w fun e w' => e = .returned (.bool true) ∧ Below w.heap.size w w' := by
  have hn := num_lt p n m s hs
  have C1 := Lib.hid fun W => put_ok p n m s W hs
  have C2 := Lib.hid fun W => get_ok p n m s W hs
  have C3 := Lib.hid fun W => char_any (put (num p n m s)) W (put_lt _ hn)
  rw [char_put _ hn] at C3
  generalize put (num p n m s) = x at C1 C2 C3
  clear hn
  have C4 := Lib.hid fun W => putWcc_any a u r W
  have C5 := Lib.hid fun W => getWcc_ok a u r W
  generalize put (wnum a u r) = y at C4 C5
  have C6 := Lib.hid fun W => get_ok P Q M T W hT
  have C7 := Lib.hid fun W => put_ok P Q M T W hT
  rw [← hc] at C6 C7
  clear hc
  go_enter Try.func3, Try.ntmps3
  go_wp2_with fail
  with_reducible refine (awake_any _).mono ?_
  rintro e w1 ⟨rfl, hb⟩
  have H := Kp.be2 hb
  have G1 := Kp.gn2a hb
  have G2 := Kp.gn2b hb
  clear hb
  obtain ⟨cG10, cG11, cG12, cG13⟩ := cells4 G1.out
  obtain ⟨cG20, cG21, cG22⟩ := cells3 G2.out
  go_wp2_with fail
  with_reducible refine (C1.out _).mono ?_
  rintro e w2 ⟨rfl, hb⟩
  clear cG10 cG11 cG12 cG13 cG20 cG21 cG22
  replace H := Kp.st H hb
  replace G1 := Kp.gk G1 hb
  replace G2 := Kp.gk G2 hb
  clear hb
  obtain ⟨cG10, cG11, cG12, cG13⟩ := cells4 G1.out
  obtain ⟨cG20, cG21, cG22⟩ := cells3 G2.out
  go_wp2_with fail
  with_reducible refine (C2.out _).mono ?_
  rintro e w3 ⟨rfl, hb⟩
  clear cG10 cG11 cG12 cG13 cG20 cG21 cG22
  replace H := Kp.st H hb
  replace G1 := Kp.gk G1 hb
  replace G2 := Kp.gk G2 hb
  clear hb
  obtain ⟨cG10, cG11, cG12, cG13⟩ := cells4 G1.out
  obtain ⟨cG20, cG21, cG22⟩ := cells3 G2.out
  clear cG10 cG11 cG12 cG13 cG20 cG21 cG22
  have hb := Kp.al (a := w3) (.cells #[.bool p, .bool n, .int .i64 (s : Int), .bool m] 23)
  replace H := Kp.st H hb
  replace G1 := Kp.gk G1 hb
  replace G2 := Kp.gk G2 hb
  have G3 := Kp.nw w3 (.cells #[.bool p, .bool n, .int .i64 (s : Int), .bool m] 23)
  clear hb
  obtain ⟨cG10, cG11, cG12, cG13⟩ := cells4 G1.out
  obtain ⟨cG20, cG21, cG22⟩ := cells3 G2.out
  go_wp2_with fail
  with_reducible refine (C3.out _).mono ?_
  rintro e w' ⟨rfl, rfl⟩
  clear cG10 cG11 cG12 cG13 cG20 cG21 cG22
  obtain ⟨cG20, cG21, cG22⟩ := cells3 G2.out
  clear G1
  go_wp2_with fail
  with_reducible refine (C4.out _).mono ?_
  rintro e w4 ⟨rfl, hb⟩
  clear cG20 cG21 cG22
  replace H := Kp.st H hb
  replace G2 := Kp.gk G2 hb
  replace G3 := Kp.gk G3 hb
  clear hb
  obtain ⟨cG20, cG21, cG22⟩ := cells3 G2.out
  go_wp2_with fail
  with_reducible refine (C5.out _).mono ?_
  rintro e w5 ⟨rfl, hb⟩
  clear cG20 cG21 cG22
  replace H := Kp.st H hb
  replace G2 := Kp.gk G2 hb
  replace G3 := Kp.gk G3 hb
  clear hb
  obtain ⟨cG20, cG21, cG22⟩ := cells3 G2.out
  clear cG20 cG21 cG22
  have hb := Kp.al (a := w5) (.cells #[.bool a, .bool u, .bool r] 25)
  replace H := Kp.st H hb
  replace G2 := Kp.gk G2 hb
  replace G3 := Kp.gk G3 hb
  have G9 := Kp.nw w5 (.cells #[.bool a, .bool u, .bool r] 25)
  clear hb
  obtain ⟨cG20, cG21, cG22⟩ := cells3 G2.out
  go_wp2_with fail
  with_reducible refine (C6.out _).mono ?_
  rintro e w6 ⟨rfl, hb⟩
  clear cG20 cG21 cG22
  replace H := Kp.st H hb
  replace G2 := Kp.gk G2 hb
  replace G3 := Kp.gk G3 hb
  replace G9 := Kp.gk G9 hb
  clear hb
  obtain ⟨cG20, cG21, cG22⟩ := cells3 G2.out
  clear cG20 cG21 cG22
  have hb := Kp.al (a := w6) (.cells #[.bool P, .bool Q, .int .i64 (T : Int), .bool M] 23)
  replace H := Kp.st H hb
  replace G2 := Kp.gk G2 hb
  replace G3 := Kp.gk G3 hb
  replace G9 := Kp.gk G9 hb
  have G5 := Kp.nw w6 (.cells #[.bool P, .bool Q, .int .i64 (T : Int), .bool M] 23)
  clear hb
  go_wp2_with fail
  with_reducible refine (C7.out _).mono ?_
  rintro e w7 ⟨rfl, hb⟩
  replace H := Kp.st H hb
  replace G2 := Kp.gk G2 hb
  replace G3 := Kp.gk G3 hb
  replace G9 := Kp.gk G9 hb
  replace G5 := Kp.gk G5 hb
  clear hb
  go_wp2_with fail
  go_ret
  exact ⟨rfl, H.out⟩
set_option maxRecDepth 100000 in
set_option maxHeartbeats 4000000 in
theorem back_ob (p n m a u r : Bool) (s : Nat) (hs : s < 4) (c : Nat) (hc8 : c < 256) (hc : noAttr c = true) (w : World) :
    Calls Try.prog 3 #[.agg #[.bool p, .bool n, .int .i64 (s : Int), .bool m], .agg #[.bool a, .bool u, .bool r], .int .u8 (c : Int)] w fun e w' => e = .returned (.bool true) ∧ Below w.heap.size w w' := by
  have hn := num_lt p n m s hs
  have C1 := Lib.hid fun W => put_ok p n m s W hs
  have C2 := Lib.hid fun W => get_ok p n m s W hs
  have C3 := Lib.hid fun W => char_any (put (num p n m s)) W (put_lt _ hn)
  rw [char_put _ hn] at C3
  generalize put (num p n m s) = x at C1 C2 C3
  clear hn
  have C4 := Lib.hid fun W => putWcc_any a u r W
  have C5 := Lib.hid fun W => getWcc_ok a u r W
  generalize put (wnum a u r) = y at C4 C5
  have C6 := Lib.hid fun W => get_bad c W hc8 hc
  clear hc
  go_enter Try.func3, Try.ntmps3
  go_wp2_with fail
  with_reducible refine (awake_any _).mono ?_
  rintro e w1 ⟨rfl, hb⟩
  have H := Kp.be2 hb
  have G1 := Kp.gn2a hb
  have G2 := Kp.gn2b hb
  clear hb
  obtain ⟨cG10, cG11, cG12, cG13⟩ := cells4 G1.out
  obtain ⟨cG20, cG21, cG22⟩ := cells3 G2.out
  go_wp2_with fail
  with_reducible refine (C1.out _).mono ?_
  rintro e w2 ⟨rfl, hb⟩
  clear cG10 cG11 cG12 cG13 cG20 cG21 cG22
  replace H := Kp.st H hb
  replace G1 := Kp.gk G1 hb
  replace G2 := Kp.gk G2 hb
  clear hb
  obtain ⟨cG10, cG11, cG12, cG13⟩ := cells4 G1.out
  obtain ⟨cG20, cG21, cG22⟩ := cells3 G2.out
  go_wp2_with fail
  with_reducible refine (C2.out _).mono ?_
  rintro e w3 ⟨rfl, hb⟩
  clear cG10 cG11 cG12 cG13 cG20 cG21 cG22
  replace H := Kp.st H hb
  replace G1 := Kp.gk G1 hb
  replace G2 := Kp.gk G2 hb
  clear hb
  obtain ⟨cG10, cG11, cG12, cG13⟩ := cells4 G1.out
  obtain ⟨cG20, cG21, cG22⟩ := cells3 G2.out
  clear cG10 cG11 cG12 cG13 cG20 cG21 cG22
  have hb := Kp.al (a := w3) (.cells #[.bool p, .bool n, .int .i64 (s : Int), .bool m] 23)
  replace H := Kp.st H hb
  replace G1 := Kp.gk G1 hb
  replace G2 := Kp.gk G2 hb
  have G3 := Kp.nw w3 (.cells #[.bool p, .bool n, .int .i64 (s : Int), .bool m] 23)
  clear hb
  obtain ⟨cG10, cG11, cG12, cG13⟩ := cells4 G1.out
  obtain ⟨cG20, cG21, cG22⟩ := cells3 G2.out
  go_wp2_with fail
  with_reducible refine (C3.out _).mono ?_
  rintro e w' ⟨rfl, rfl⟩
  clear cG10 cG11 cG12 cG13 cG20 cG21 cG22
  obtain ⟨cG20, cG21, cG22⟩ := cells3 G2.out
  clear G1
  go_wp2_with fail
  with_reducible refine (C4.out _).mono ?_
  rintro e w4 ⟨rfl, hb⟩
  clear cG20 cG21 cG22
  replace H := Kp.st H hb
  replace G2 := Kp.gk G2 hb
  replace G3 := Kp.gk G3 hb
  clear hb
  obtain ⟨cG20, cG21, cG22⟩ := cells3 G2.out
  go_wp2_with fail
  with_reducible refine (C5.out _).mono ?_
  rintro e w5 ⟨rfl, hb⟩
  clear cG20 cG21 cG22
  replace H := Kp.st H hb
  replace G2 := Kp.gk G2 hb
  replace G3 := Kp.gk G3 hb
  clear hb
  obtain ⟨cG20, cG21, cG22⟩ := cells3 G2.out
  clear cG20 cG21 cG22
  have hb := Kp.al (a := w5) (.cells #[.bool a, .bool u, .bool r] 25)
  replace H := Kp.st H hb
  replace G2 := Kp.gk G2 hb
  replace G3 := Kp.gk G3 hb
  have G9 := Kp.nw w5 (.cells #[.bool a, .bool u, .bool r] 25)
  clear hb
  obtain ⟨cG20, cG21, cG22⟩ := cells3 G2.out
  go_wp2_with fail
  with_reducible refine (C6.out _).mono ?_
  rintro e w6 ⟨rfl, hb⟩
  clear cG20 cG21 cG22
  replace H := Kp.st H hb
  replace G2 := Kp.gk G2 hb
  replace G3 := Kp.gk G3 hb
  replace G9 := Kp.gk G9 hb
  clear hb
  obtain ⟨cG20, cG21, cG22⟩ := cells3 G2.out
  clear cG20 cG21 cG22
  go_wp2_with fail
  go_ret
  exact ⟨rfl, (kept_alloc H _).out⟩
set_option maxRecDepth 100000 in
set_option maxHeartbeats 4000000 in
theorem back_bo (p n m a u r : Bool) (s : Int) (hs : s < 0 ∨ 4 ≤ s) (c : Nat) (P Q M : Bool) (T : Nat) (hT : T < 4) (hc : c = put (num P Q M T)) (w : World) :
    Calls Try.prog 3 #[.agg #[.bool p, .bool n, .int .i64 s, .bool m], .agg #[.bool a, .bool u, .bool r], .int .u8 (c : Int)] w fun e w' => e = .returned (.bool true) ∧ Below w.heap.size w w' := by
  have C1 := Lib.hid fun W => put_bad p n m s W hs
  have C4 := Lib.hid fun W => putWcc_any a u r W
  have C5 := Lib.hid fun W => getWcc_ok a u r W
  generalize put (wnum a u r) = y at C4 C5
  have C6 := Lib.hid fun W => get_ok P Q M T W hT
  have C7 := Lib.hid fun W => put_ok P Q M T W hT
  rw [← hc] at C6 C7
  clear hc
  go_enter Try.func3, Try.ntmps3
  go_wp2_with fail
  with_reducible refine (awake_any _).mono ?_
  rintro e w1 ⟨rfl, hb⟩
  have H := Kp.be2 hb
  have G1 := Kp.gn2a hb
  have G2 := Kp.gn2b hb
  clear hb
  obtain ⟨cG10, cG11, cG12, cG13⟩ := cells4 G1.out
  obtain ⟨cG20, cG21, cG22⟩ := cells3 G2.out
  go_wp2_with fail
  with_reducible refine (C1.out _).mono ?_
  rintro e w2 ⟨rfl, hb⟩
  clear cG10 cG11 cG12 cG13 cG20 cG21 cG22
  replace H := Kp.st H hb
  replace G1 := Kp.gk G1 hb
  replace G2 := Kp.gk G2 hb
  clear hb
  obtain ⟨cG10, cG11, cG12, cG13⟩ := cells4 G1.out
  obtain ⟨cG20, cG21, cG22⟩ := cells3 G2.out
  clear cG10 cG11 cG12 cG13 cG20 cG21 cG22
  obtain ⟨cG20, cG21, cG22⟩ := cells3 G2.out
  clear G1
  go_wp2_with fail
  with_reducible refine (C4.out _).mono ?_
  rintro e w3 ⟨rfl, hb⟩
  clear cG20 cG21 cG22
  replace H := Kp.st H hb
  replace G2 := Kp.gk G2 hb
  clear hb
  obtain ⟨cG20, cG21, cG22⟩ := cells3 G2.out
  go_wp2_with fail
  with_reducible refine (C5.out _).mono ?_
  rintro e w4 ⟨rfl, hb⟩
  clear cG20 cG21 cG22
  replace H := Kp.st H hb
  replace G2 := Kp.gk G2 hb
  clear hb
  obtain ⟨cG20, cG21, cG22⟩ := cells3 G2.out
  clear cG20 cG21 cG22
  have hb := Kp.al (a := w4) (.cells #[.bool a, .bool u, .bool r] 25)
  replace H := Kp.st H hb
  replace G2 := Kp.gk G2 hb
  have G9 := Kp.nw w4 (.cells #[.bool a, .bool u, .bool r] 25)
  clear hb
  obtain ⟨cG20, cG21, cG22⟩ := cells3 G2.out
  go_wp2_with fail
  with_reducible refine (C6.out _).mono ?_
  rintro e w5 ⟨rfl, hb⟩
  clear cG20 cG21 cG22
  replace H := Kp.st H hb
  replace G2 := Kp.gk G2 hb
  replace G9 := Kp.gk G9 hb
  clear hb
  obtain ⟨cG20, cG21, cG22⟩ := cells3 G2.out
  clear cG20 cG21 cG22
  have hb := Kp.al (a := w5) (.cells #[.bool P, .bool Q, .int .i64 (T : Int), .bool M] 23)
  replace H := Kp.st H hb
  replace G2 := Kp.gk G2 hb
  replace G9 := Kp.gk G9 hb
  have G4 := Kp.nw w5 (.cells #[.bool P, .bool Q, .int .i64 (T : Int), .bool M] 23)
  clear hb
  go_wp2_with fail
  with_reducible refine (C7.out _).mono ?_
  rintro e w6 ⟨rfl, hb⟩
  replace H := Kp.st H hb
  replace G2 := Kp.gk G2 hb
  replace G9 := Kp.gk G9 hb
  replace G4 := Kp.gk G4 hb
  clear hb
  go_wp2_with fail
  go_ret
  exact ⟨rfl, H.out⟩
set_option maxRecDepth 100000 in
set_option maxHeartbeats 4000000 in
theorem back_bb (p n m a u r : Bool) (s : Int) (hs : s < 0 ∨ 4 ≤ s) (c : Nat) (hc8 : c < 256) (hc : noAttr c = true) (w : World) :
    Calls Try.prog 3 #[.agg #[.bool p, .bool n, .int .i64 s, .bool m], .agg #[.bool a, .bool u, .bool r], .int .u8 (c : Int)] w fun e w' => e = .returned (.bool true) ∧ Below w.heap.size w w' := by
  have C1 := Lib.hid fun W => put_bad p n m s W hs
  have C4 := Lib.hid fun W => putWcc_any a u r W
  have C5 := Lib.hid fun W => getWcc_ok a u r W
  generalize put (wnum a u r) = y at C4 C5
  have C6 := Lib.hid fun W => get_bad c W hc8 hc
  clear hc
  go_enter Try.func3, Try.ntmps3
  go_wp2_with fail
  with_reducible refine (awake_any _).mono ?_
  rintro e w1 ⟨rfl, hb⟩
  have H := Kp.be2 hb
  have G1 := Kp.gn2a hb
  have G2 := Kp.gn2b hb
  clear hb
  obtain ⟨cG10, cG11, cG12, cG13⟩ := cells4 G1.out
  obtain ⟨cG20, cG21, cG22⟩ := cells3 G2.out
  go_wp2_with fail
  with_reducible refine (C1.out _).mono ?_
  rintro e w2 ⟨rfl, hb⟩
  clear cG10 cG11 cG12 cG13 cG20 cG21 cG22
  replace H := Kp.st H hb
  replace G1 := Kp.gk G1 hb
  replace G2 := Kp.gk G2 hb
  clear hb
  obtain ⟨cG10, cG11, cG12, cG13⟩ := cells4 G1.out
  obtain ⟨cG20, cG21, cG22⟩ := cells3 G2.out
  clear cG10 cG11 cG12 cG13 cG20 cG21 cG22
  obtain ⟨cG20, cG21, cG22⟩ := cells3 G2.out
  clear G1
  go_wp2_with fail
  with_reducible refine (C4.out _).mono ?_
  rintro e w3 ⟨rfl, hb⟩
  clear cG20 cG21 cG22
  replace H := Kp.st H hb
  replace G2 := Kp.gk G2 hb
  clear hb
  obtain ⟨cG20, cG21, cG22⟩ := cells3 G2.out
  go_wp2_with fail
  with_reducible refine (C5.out _).mono ?_
  rintro e w4 ⟨rfl, hb⟩
  clear cG20 cG21 cG22
  replace H := Kp.st H hb
  replace G2 := Kp.gk G2 hb
  clear hb
  obtain ⟨cG20, cG21, cG22⟩ := cells3 G2.out
  clear cG20 cG21 cG22
  have hb := Kp.al (a := w4) (.cells #[.bool a, .bool u, .bool r] 25)
  replace H := Kp.st H hb
  replace G2 := Kp.gk G2 hb
  have G9 := Kp.nw w4 (.cells #[.bool a, .bool u, .bool r] 25)
  clear hb
  obtain ⟨cG20, cG21, cG22⟩ := cells3 G2.out
  go_wp2_with fail
  with_reducible refine (C6.out _).mono ?_
  rintro e w5 ⟨rfl, hb⟩
  clear cG20 cG21 cG22
  replace H := Kp.st H hb
  replace G2 := Kp.gk G2 hb
  replace G9 := Kp.gk G9 hb
  clear hb
  obtain ⟨cG20, cG21, cG22⟩ := cells3 G2.out
  clear cG20 cG21 cG22
  go_wp2_with fail
  go_ret
  exact ⟨rfl, (kept_alloc H _).out⟩
/-- AttrBack returns true. -/
theorem back_any (p n : Bool) (s : Int) (m a u r : Bool) (c : Nat) (w : World) (hc8 : c < 256) :
    Calls Try.prog 3 #[.agg #[.bool p, .bool n, .int .i64 s, .bool m], .agg #[.bool a, .bool u, .bool r], .int .u8 (c : Int)] w fun e w' => e = .returned (.bool true) ∧ Below w.heap.size w w' := by
  have bad : (s < 0 ∨ 4 ≤ s) → Calls Try.prog 3 #[.agg #[.bool p, .bool n, .int .i64 s, .bool m], .agg #[.bool a, .bool u, .bool r], .int .u8 (c : Int)] w fun e w' => e = .returned (.bool true) ∧ Below w.heap.size w w' := by
    intro hs
    cases hc : noAttr c with
    | true => exact back_bb p n m a u r s hs c hc8 hc w
    | false =>
      obtain ⟨P, Q, M, T, hT, e⟩ := attr_cases c hc8 hc
      exact back_bo p n m a u r s hs c P Q M T hT e w
  rcases Int.lt_or_le s 0 with h | h
  · exact bad (.inl h)
  · rcases Int.lt_or_le s 4 with h2 | h2
    · obtain ⟨k, rfl⟩ := Int.eq_ofNat_of_zero_le h
      have hs : k < 4 := by omega
      cases hc : noAttr c with
      | true => exact back_ob p n m a u r k hs c hc8 hc w
      | false =>
        obtain ⟨P, Q, M, T, hT, e⟩ := attr_cases c hc8 hc
        exact back_oo p n m a u r k hs c P Q M T hT e w
    · exact bad (.inr h2)
end Att
end Go.Proofs.Yteckncagccfioaa
