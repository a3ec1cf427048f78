/- The law AttrSix returns true. -/
import Derived.Test.YteckncagccfioaaAttrAwake
import Derived.Test.YteckncagccfioaaKp
namespace Go.Proofs.Yteckncagccfioaa
open Go.RowKit Six Err
namespace Att
set_option maxRecDepth 100000 in
set_option maxHeartbeats 4000000 in
theorem six_out (p n m : Bool) (s : Int) (hs : s < 0 ∨ 4 ≤ s) (w : World) :
    Calls Try.prog 5 #[.agg #[.bool p, .bool n, .int .i64 s, .bool m]] w fun e w' => e = .returned (.bool true) ∧ Below w.heap.size w w' := by
  have C1 := Lib.hid fun W => put_bad p n m s W hs
  go_enter Try.func5, Try.ntmps5
  go_wp2_with fail
  with_reducible refine (C1.out _).mono ?_
  rintro e w1 ⟨rfl, hb⟩
  have H := Kp.be1 hb
  have G1 := Kp.gn1a hb
  clear hb
  go_wp2_with fail
  with_reducible refine (awake_any _).mono ?_
  rintro e w2 ⟨rfl, hb⟩
  replace H := Kp.st H hb
  replace G1 := Kp.gk G1 hb
  clear hb
  go_wp2_with fail
  with_reducible refine (awake_any _).mono ?_
  rintro e w3 ⟨rfl, hb⟩
  replace H := Kp.st H hb
  replace G1 := Kp.gk G1 hb
  clear hb
  go_wp2_with fail
  go_ret
  exact ⟨rfl, H.out⟩
theorem turns : ∀ s, s < 4 → ∀ p n m : Bool, bits .and .u8 (bits .xor .u8 ((put (num p n m s) : Nat) : Int) ((put (num (!p) n m s) : Nat) : Int)) 63 = 32
    ∧ bits .and .u8 (bits .xor .u8 ((put (num p n m s) : Nat) : Int) ((put (num p (!n) m s) : Nat) : Int)) 63 = 16
    ∧ bits .and .u8 (bits .xor .u8 ((put (num p n m s) : Nat) : Int) ((put (num p n (!m) s) : Nat) : Int)) 63 = 1
    ∧ ((put (num p n m s) : Nat) : Int) / 4 % 4 = (s : Int) := by decide +kernel
set_option maxRecDepth 100000 in
set_option maxHeartbeats 4000000 in
theorem six_in (p n m : Bool) (s : Nat) (hs : s < 4) (w : World) :
    Calls Try.prog 5 #[.agg #[.bool p, .bool n, .int .i64 (s : Int), .bool m]] w fun e w' => e = .returned (.bool true) ∧ Below w.heap.size w w' := by
  have C1 := Lib.hid fun W => put_ok p n m s W hs
  have C2 := Lib.hid fun W => put_ok (!p) n m s W hs
  have C3 := Lib.hid fun W => put_ok p (!n) m s W hs
  have C4 := Lib.hid fun W => put_ok p n (!m) s W hs
  have hx := put_lt _ (num_lt p n m s hs)
  obtain ⟨q1, q2, q3, q4⟩ := turns s hs p n m
  generalize put (num p n m s) = x at *
  generalize put (num (!p) n m s) = y1 at *
  generalize put (num p (!n) m s) = y2 at *
  generalize put (num p n (!m) s) = y3 at *
  have Q1 := Lib.hid q1
  have Q2 := Lib.hid q2
  have Q3 := Lib.hid q3
  have Q4 := Lib.hid q4
  clear q1 q2 q3 q4
  go_enter Try.func5, Try.ntmps5
  go_wp2_with fail
  with_reducible refine (C1.out _).mono ?_
  rintro e w1 ⟨rfl, hb⟩
  have H := Kp.be1 hb
  have G1 := Kp.gn1a hb
  clear hb
  go_wp2_with fail
  with_reducible refine (awake_any _).mono ?_
  rintro e w2 ⟨rfl, hb⟩
  replace H := Kp.st H hb
  replace G1 := Kp.gk G1 hb
  clear hb
  obtain ⟨cG10, cG11, cG12, cG13⟩ := cells4 G1.out
  have hl := Kp.lt G1
  have hl2 : w.heap.size < w2.heap.size + 1 := by omega
  have hl3 : w.heap.size < w2.heap.size + 1 + 1 := by omega
  go_wp2_with fail
  clear hl hl2 hl3
  with_reducible refine (C2.out _).mono ?_
  rintro e w3 ⟨rfl, hb⟩
  clear cG10 cG11 cG12 cG13
  replace H := Kp.st3 H hb
  replace G1 := Kp.gk3 G1 hb
  have G2 := Kp.gn3a hb
  have G3 := Kp.gn3b hb
  have G4 := Kp.gn3c hb
  clear hb
  obtain ⟨cG10, cG11, cG12, cG13⟩ := cells4 G1.out
  clear cG10 cG11 cG12 cG13
  obtain ⟨cG10, cG11, cG12, cG13⟩ := cells4 G1.out
  obtain ⟨cG30, cG31, cG32, cG33⟩ := cells4 G3.out
  go_wp2_with fail
  with_reducible refine (C3.out _).mono ?_
  rintro e w4 ⟨rfl, hb⟩
  clear cG10 cG11 cG12 cG13 cG30 cG31 cG32 cG33
  replace H := Kp.st H hb
  replace G1 := Kp.gk G1 hb
  replace G2 := Kp.gk G2 hb
  replace G3 := Kp.gk G3 hb
  replace G4 := Kp.gk G4 hb
  clear hb
  obtain ⟨cG10, cG11, cG12, cG13⟩ := cells4 G1.out
  obtain ⟨cG30, cG31, cG32, cG33⟩ := cells4 G3.out
  clear cG10 cG11 cG12 cG13 cG30 cG31 cG32 cG33
  obtain ⟨cG10, cG11, cG12, cG13⟩ := cells4 G1.out
  obtain ⟨cG40, cG41, cG42, cG43⟩ := cells4 G4.out
  go_wp2_with fail
  with_reducible refine (C4.out _).mono ?_
  rintro e w5 ⟨rfl, hb⟩
  clear cG10 cG11 cG12 cG13 cG40 cG41 cG42 cG43
  replace H := Kp.st H hb
  replace G1 := Kp.gk G1 hb
  replace G2 := Kp.gk G2 hb
  replace G3 := Kp.gk G3 hb
  replace G4 := Kp.gk G4 hb
  clear hb
  obtain ⟨cG10, cG11, cG12, cG13⟩ := cells4 G1.out
  obtain ⟨cG40, cG41, cG42, cG43⟩ := cells4 G4.out
  have q1 := Q1.out
  have q2 := Q2.out
  have q3 := Q3.out
  have q4 := Q4.out
  go_wp2_with fail
  go_ret
  exact ⟨rfl, H.out⟩
/-- AttrSix returns true. -/
theorem six_any (p n : Bool) (s : Int) (m : Bool) (w : World) :
    Calls Try.prog 5 #[.agg #[.bool p, .bool n, .int .i64 s, .bool m]] w fun e w' => e = .returned (.bool true) ∧ Below w.heap.size w w' := by
  rcases Int.lt_or_le s 0 with h | h
  · exact six_out p n m s (.inl h) w
  · rcases Int.lt_or_le s 4 with h2 | h2
    · obtain ⟨k, rfl⟩ := Int.eq_ofNat_of_zero_le h
      exact six_in p n m k (by omega) w
    · exact six_out p n m s (.inr h2) w
end Att
end Go.Proofs.Yteckncagccfioaa
