/- The law AttrGets returns true. -/
import Derived.Test.YteckncagccfioaaDoorAttrAwake
import Derived.Test.YteckncagccfioaaDoorAttrRgetW
import Derived.Test.YteckncagccfioaaDoorAttrKinds
import Derived.Test.YteckncagccfioaaDoorCode
import Derived.Test.YteckncagccfioaaDoorKpH
namespace Go.Proofs.YteckncagccfioaaDoor
open Go.RowKit Six Err
namespace Att
set_option maxRecDepth 100000 in
set_option maxHeartbeats 4000000 in
theorem gets_oo (b : Nat) (w : World) (hb8 : b < 256) (p n m : Bool) (s : Nat) (hs : s < 4) (ha : b = put (num p n m s)) (x u r : Bool) (hw : b = put (wnum x u r)) (hg : Handle w) :
    Calls Tryd.prog 4 #[.int .u8 (b : Int)] w fun e w' => e = .returned (.bool true) ∧ Below w.heap.size w w' := by
  have C1 := Lib.hid fun W => get_ok p n m s W hs
  have C3 := Lib.hid fun W => rget_ok p n m s W hs
  rw [← ha] at C1 C3
  have C2 := Lib.hid fun W => getWcc_ok x u r W
  have C4 := Lib.hid fun W => rgetWcc_ok x u r W
  rw [← hw] at C2 C4
  have K0 := Lib.hid fun W => char_any b W hb8
  have R0 := Lib.hid fun W => rchar_any b W hb8
  generalize char b = q0 at K0 R0
  have K1 := Lib.hid fun W => aid_any b W hb8
  have R1 := Lib.hid fun W => raid_any b W hb8
  generalize aid b = q1 at K1 R1
  have K2 := Lib.hid fun W => bare_any b W hb8
  have R2 := Lib.hid fun W => rbare_any b W hb8
  generalize bare b = q2 at K2 R2
  clear ha hw
  go_enter Tryd.func4, Tryd.ntmps4
  go_wp2_with fail
  with_reducible refine (C1.out _).mono ?_
  rintro e w1 ⟨rfl, hb⟩
  have H := Kp.be hb
  replace hg := Kp.hg hg hb
  clear hb
  go_wp2_with fail
  with_reducible refine (C2.out _).mono ?_
  rintro e w2 ⟨rfl, hb⟩
  replace H := Kp.st1 H hb
  replace hg := Kp.hg1 hg hb
  have G1 := Kp.gn1a hb
  clear hb
  go_wp2_with fail
  with_reducible refine (C3.out _).mono ?_
  rintro e w3 ⟨rfl, hb⟩
  replace H := Kp.st1 H hb
  replace hg := Kp.hg1 hg hb
  replace G1 := Kp.gk1 G1 hb
  have G2 := Kp.gn1a hb
  clear hb
  go_wp2_with fail
  with_reducible refine (C4.out _).mono ?_
  rintro e w4 ⟨rfl, hb⟩
  replace H := Kp.st1 H hb
  replace hg := Kp.hg1 hg hb
  replace G1 := Kp.gk1 G1 hb
  replace G2 := Kp.gk1 G2 hb
  have G3 := Kp.gn1a hb
  clear hb
  go_wp2_with fail
  with_reducible refine (awake_any _).mono ?_
  rintro e w5 ⟨rfl, hb⟩
  replace H := Kp.st1 H hb
  replace hg := Kp.hg1 hg hb
  replace G1 := Kp.gk1 G1 hb
  replace G2 := Kp.gk1 G2 hb
  replace G3 := Kp.gk1 G3 hb
  have G4 := Kp.gn1a hb
  clear hb
  obtain ⟨cG10, cG11, cG12, cG13⟩ := cells4 G1.out
  obtain ⟨cG20, cG21, cG22⟩ := cells3 G2.out
  obtain ⟨cG30, cG31, cG32, cG33⟩ := cells4 G3.out
  obtain ⟨cG40, cG41, cG42⟩ := cells3 G4.out
  go_wp2_with fail
  with_reducible refine (K0.out _).mono ?_
  rintro e w' ⟨rfl, rfl⟩
  clear cG10 cG11 cG12 cG13 cG20 cG21 cG22 cG30 cG31 cG32 cG33 cG40 cG41 cG42
  go_wp2_with fail
  with_reducible refine (R0.out _).mono ?_
  rintro e w' ⟨rfl, rfl⟩
  go_wp2_with fail
  with_reducible refine (K1.out _).mono ?_
  rintro e w' ⟨rfl, rfl⟩
  go_wp2_with fail
  with_reducible refine (R1.out _).mono ?_
  rintro e w' ⟨rfl, rfl⟩
  go_wp2_with fail
  with_reducible refine (K2.out _).mono ?_
  rintro e w' ⟨rfl, rfl⟩
  go_wp2_with fail
  with_reducible refine (R2.out _).mono ?_
  rintro e w' ⟨rfl, rfl⟩
  go_wp2_with fail
  go_ret
  exact ⟨rfl, H.out⟩
set_option maxRecDepth 100000 in
set_option maxHeartbeats 4000000 in
theorem gets_ob (b : Nat) (w : World) (hb8 : b < 256) (p n m : Bool) (s : Nat) (hs : s < 4) (ha : b = put (num p n m s)) (hw : noWrite b = true) (hg : Handle w) :
    Calls Tryd.prog 4 #[.int .u8 (b : Int)] w fun e w' => e = .returned (.bool true) ∧ Below w.heap.size w w' := by
  have C1 := Lib.hid fun W => get_ok p n m s W hs
  have C3 := Lib.hid fun W => rget_ok p n m s W hs
  rw [← ha] at C1 C3
  have C2 := Lib.hid fun W => getWcc_bad b W hb8 hw
  have C4 := Lib.hid fun W => rgetWcc_bad b W hb8 hw
  have K0 := Lib.hid fun W => char_any b W hb8
  have R0 := Lib.hid fun W => rchar_any b W hb8
  generalize char b = q0 at K0 R0
  have K1 := Lib.hid fun W => aid_any b W hb8
  have R1 := Lib.hid fun W => raid_any b W hb8
  generalize aid b = q1 at K1 R1
  have K2 := Lib.hid fun W => bare_any b W hb8
  have R2 := Lib.hid fun W => rbare_any b W hb8
  generalize bare b = q2 at K2 R2
  clear ha hw
  go_enter Tryd.func4, Tryd.ntmps4
  go_wp2_with fail
  with_reducible refine (C1.out _).mono ?_
  rintro e w1 ⟨rfl, hb⟩
  have H := Kp.be hb
  replace hg := Kp.hg hg hb
  clear hb
  go_wp2_with fail
  with_reducible refine (C2.out _).mono ?_
  rintro e w2 ⟨rfl, hb⟩
  replace H := Kp.st1 H hb
  replace hg := Kp.hg1 hg hb
  have G1 := Kp.gn1a hb
  clear hb
  go_wp2_with fail
  with_reducible refine (C3.out _).mono ?_
  rintro e w3 ⟨rfl, hb⟩
  replace H := Kp.st1 H hb
  replace hg := Kp.hg1 hg hb
  replace G1 := Kp.gk1 G1 hb
  have G2 := Kp.gn1a hb
  clear hb
  go_wp2_with fail
  with_reducible refine (C4.out _).mono ?_
  rintro e w4 ⟨rfl, hb⟩
  replace H := Kp.st1 H hb
  replace hg := Kp.hg1 hg hb
  replace G1 := Kp.gk1 G1 hb
  replace G2 := Kp.gk1 G2 hb
  have G3 := Kp.gn1a hb
  clear hb
  go_wp2_with fail
  with_reducible refine (awake_any _).mono ?_
  rintro e w5 ⟨rfl, hb⟩
  replace H := Kp.st1 H hb
  replace hg := Kp.hg1 hg hb
  replace G1 := Kp.gk1 G1 hb
  replace G2 := Kp.gk1 G2 hb
  replace G3 := Kp.gk1 G3 hb
  have G4 := Kp.gn1a hb
  clear hb
  obtain ⟨cG10, cG11, cG12, cG13⟩ := cells4 G1.out
  obtain ⟨cG20, cG21, cG22⟩ := cells3 G2.out
  obtain ⟨cG30, cG31, cG32, cG33⟩ := cells4 G3.out
  obtain ⟨cG40, cG41, cG42⟩ := cells3 G4.out
  go_wp2_with fail
  with_reducible refine (code_errno 3 _ hg).mono ?_
  rintro e w6 ⟨rfl, hb⟩
  replace H := Kp.st H hb
  replace hg := Kp.hg hg hb
  clear hb
  clear cG10 cG11 cG12 cG13 cG20 cG21 cG22 cG30 cG31 cG32 cG33 cG40 cG41 cG42
  go_wp2_with fail
  with_reducible refine (K0.out _).mono ?_
  rintro e w' ⟨rfl, rfl⟩
  go_wp2_with fail
  with_reducible refine (R0.out _).mono ?_
  rintro e w' ⟨rfl, rfl⟩
  go_wp2_with fail
  with_reducible refine (K1.out _).mono ?_
  rintro e w' ⟨rfl, rfl⟩
  go_wp2_with fail
  with_reducible refine (R1.out _).mono ?_
  rintro e w' ⟨rfl, rfl⟩
  go_wp2_with fail
  with_reducible refine (K2.out _).mono ?_
  rintro e w' ⟨rfl, rfl⟩
  go_wp2_with fail
  with_reducible refine (R2.out _).mono ?_
  rintro e w' ⟨rfl, rfl⟩
  go_wp2_with fail
  go_ret
  exact ⟨rfl, H.out⟩
set_option maxRecDepth 100000 in
set_option maxHeartbeats 4000000 in
theorem gets_bo (b : Nat) (w : World) (hb8 : b < 256) (ha : noAttr b = true) (x u r : Bool) (hw : b = put (wnum x u r)) (hg : Handle w) :
    Calls Tryd.prog 4 #[.int .u8 (b : Int)] w fun e w' => e = .returned (.bool true) ∧ Below w.heap.size w w' := by
  have C1 := Lib.hid fun W => get_bad b W hb8 ha
  have C3 := Lib.hid fun W => rget_bad b W hb8 ha
  have C2 := Lib.hid fun W => getWcc_ok x u r W
  have C4 := Lib.hid fun W => rgetWcc_ok x u r W
  rw [← hw] at C2 C4
  have K0 := Lib.hid fun W => char_any b W hb8
  have R0 := Lib.hid fun W => rchar_any b W hb8
  generalize char b = q0 at K0 R0
  have K1 := Lib.hid fun W => aid_any b W hb8
  have R1 := Lib.hid fun W => raid_any b W hb8
  generalize aid b = q1 at K1 R1
  have K2 := Lib.hid fun W => bare_any b W hb8
  have R2 := Lib.hid fun W => rbare_any b W hb8
  generalize bare b = q2 at K2 R2
  clear ha hw
  go_enter Tryd.func4, Tryd.ntmps4
  go_wp2_with fail
  with_reducible refine (C1.out _).mono ?_
  rintro e w1 ⟨rfl, hb⟩
  have H := Kp.be hb
  replace hg := Kp.hg hg hb
  clear hb
  go_wp2_with fail
  with_reducible refine (C2.out _).mono ?_
  rintro e w2 ⟨rfl, hb⟩
  replace H := Kp.st1 H hb
  replace hg := Kp.hg1 hg hb
  have G1 := Kp.gn1a hb
  clear hb
  go_wp2_with fail
  with_reducible refine (C3.out _).mono ?_
  rintro e w3 ⟨rfl, hb⟩
  replace H := Kp.st1 H hb
  replace hg := Kp.hg1 hg hb
  replace G1 := Kp.gk1 G1 hb
  have G2 := Kp.gn1a hb
  clear hb
  go_wp2_with fail
  with_reducible refine (C4.out _).mono ?_
  rintro e w4 ⟨rfl, hb⟩
  replace H := Kp.st1 H hb
  replace hg := Kp.hg1 hg hb
  replace G1 := Kp.gk1 G1 hb
  replace G2 := Kp.gk1 G2 hb
  have G3 := Kp.gn1a hb
  clear hb
  go_wp2_with fail
  with_reducible refine (awake_any _).mono ?_
  rintro e w5 ⟨rfl, hb⟩
  replace H := Kp.st1 H hb
  replace hg := Kp.hg1 hg hb
  replace G1 := Kp.gk1 G1 hb
  replace G2 := Kp.gk1 G2 hb
  replace G3 := Kp.gk1 G3 hb
  have G4 := Kp.gn1a hb
  clear hb
  obtain ⟨cG10, cG11, cG12, cG13⟩ := cells4 G1.out
  obtain ⟨cG20, cG21, cG22⟩ := cells3 G2.out
  obtain ⟨cG30, cG31, cG32, cG33⟩ := cells4 G3.out
  obtain ⟨cG40, cG41, cG42⟩ := cells3 G4.out
  go_wp2_with fail
  with_reducible refine (code_errno 3 _ hg).mono ?_
  rintro e w6 ⟨rfl, hb⟩
  replace H := Kp.st H hb
  replace hg := Kp.hg hg hb
  clear hb
  clear cG10 cG11 cG12 cG13 cG20 cG21 cG22 cG30 cG31 cG32 cG33 cG40 cG41 cG42
  go_wp2_with fail
  with_reducible refine (K0.out _).mono ?_
  rintro e w' ⟨rfl, rfl⟩
  go_wp2_with fail
  with_reducible refine (R0.out _).mono ?_
  rintro e w' ⟨rfl, rfl⟩
  go_wp2_with fail
  with_reducible refine (K1.out _).mono ?_
  rintro e w' ⟨rfl, rfl⟩
  go_wp2_with fail
  with_reducible refine (R1.out _).mono ?_
  rintro e w' ⟨rfl, rfl⟩
  go_wp2_with fail
  with_reducible refine (K2.out _).mono ?_
  rintro e w' ⟨rfl, rfl⟩
  go_wp2_with fail
  with_reducible refine (R2.out _).mono ?_
  rintro e w' ⟨rfl, rfl⟩
  go_wp2_with fail
  go_ret
  exact ⟨rfl, H.out⟩
set_option maxRecDepth 100000 in
set_option maxHeartbeats 4000000 in
theorem gets_bb (b : Nat) (w : World) (hb8 : b < 256) (ha : noAttr b = true) (hw : noWrite b = true) (hg : Handle w) :
    Calls Tryd.prog 4 #[.int .u8 (b : Int)] w fun e w' => e = .returned (.bool true) ∧ Below w.heap.size w w' := by
  have C1 := Lib.hid fun W => get_bad b W hb8 ha
  have C3 := Lib.hid fun W => rget_bad b W hb8 ha
  have C2 := Lib.hid fun W => getWcc_bad b W hb8 hw
  have C4 := Lib.hid fun W => rgetWcc_bad b W hb8 hw
  have K0 := Lib.hid fun W => char_any b W hb8
  have R0 := Lib.hid fun W => rchar_any b W hb8
  generalize char b = q0 at K0 R0
  have K1 := Lib.hid fun W => aid_any b W hb8
  have R1 := Lib.hid fun W => raid_any b W hb8
  generalize aid b = q1 at K1 R1
  have K2 := Lib.hid fun W => bare_any b W hb8
  have R2 := Lib.hid fun W => rbare_any b W hb8
  generalize bare b = q2 at K2 R2
  clear ha hw
  go_enter Tryd.func4, Tryd.ntmps4
  go_wp2_with fail
  with_reducible refine (C1.out _).mono ?_
  rintro e w1 ⟨rfl, hb⟩
  have H := Kp.be hb
  replace hg := Kp.hg hg hb
  clear hb
  go_wp2_with fail
  with_reducible refine (C2.out _).mono ?_
  rintro e w2 ⟨rfl, hb⟩
  replace H := Kp.st1 H hb
  replace hg := Kp.hg1 hg hb
  have G1 := Kp.gn1a hb
  clear hb
  go_wp2_with fail
  with_reducible refine (C3.out _).mono ?_
  rintro e w3 ⟨rfl, hb⟩
  replace H := Kp.st1 H hb
  replace hg := Kp.hg1 hg hb
  replace G1 := Kp.gk1 G1 hb
  have G2 := Kp.gn1a hb
  clear hb
  go_wp2_with fail
  with_reducible refine (C4.out _).mono ?_
  rintro e w4 ⟨rfl, hb⟩
  replace H := Kp.st1 H hb
  replace hg := Kp.hg1 hg hb
  replace G1 := Kp.gk1 G1 hb
  replace G2 := Kp.gk1 G2 hb
  have G3 := Kp.gn1a hb
  clear hb
  go_wp2_with fail
  with_reducible refine (awake_any _).mono ?_
  rintro e w5 ⟨rfl, hb⟩
  replace H := Kp.st1 H hb
  replace hg := Kp.hg1 hg hb
  replace G1 := Kp.gk1 G1 hb
  replace G2 := Kp.gk1 G2 hb
  replace G3 := Kp.gk1 G3 hb
  have G4 := Kp.gn1a hb
  clear hb
  obtain ⟨cG10, cG11, cG12, cG13⟩ := cells4 G1.out
  obtain ⟨cG20, cG21, cG22⟩ := cells3 G2.out
  obtain ⟨cG30, cG31, cG32, cG33⟩ := cells4 G3.out
  obtain ⟨cG40, cG41, cG42⟩ := cells3 G4.out
  go_wp2_with fail
  with_reducible refine (code_errno 3 _ hg).mono ?_
  rintro e w6 ⟨rfl, hb⟩
  replace H := Kp.st H hb
  replace hg := Kp.hg hg hb
  clear hb
  clear cG10 cG11 cG12 cG13 cG20 cG21 cG22 cG30 cG31 cG32 cG33 cG40 cG41 cG42
  go_wp2_with fail
  with_reducible refine (code_errno 3 _ hg).mono ?_
  rintro e w7 ⟨rfl, hb⟩
  replace H := Kp.st H hb
  replace hg := Kp.hg hg hb
  clear hb
  go_wp2_with fail
  with_reducible refine (K0.out _).mono ?_
  rintro e w' ⟨rfl, rfl⟩
  go_wp2_with fail
  with_reducible refine (R0.out _).mono ?_
  rintro e w' ⟨rfl, rfl⟩
  go_wp2_with fail
  with_reducible refine (K1.out _).mono ?_
  rintro e w' ⟨rfl, rfl⟩
  go_wp2_with fail
  with_reducible refine (R1.out _).mono ?_
  rintro e w' ⟨rfl, rfl⟩
  go_wp2_with fail
  with_reducible refine (K2.out _).mono ?_
  rintro e w' ⟨rfl, rfl⟩
  go_wp2_with fail
  with_reducible refine (R2.out _).mono ?_
  rintro e w' ⟨rfl, rfl⟩
  go_wp2_with fail
  go_ret
  exact ⟨rfl, H.out⟩
/-- AttrGets returns true. -/
theorem gets_any (b : Nat) (w : World) (hb8 : b < 256) (hg : Handle w) :
    Calls Tryd.prog 4 #[.int .u8 (b : Int)] w fun e w' => e = .returned (.bool true) ∧ Below w.heap.size w w' := by
  cases ha : noAttr b with
  | true =>
    cases hw : noWrite b with
    | true => exact gets_bb b w hb8 ha hw hg
    | false =>
      obtain ⟨x, u, r, e⟩ := write_cases b hb8 hw
      exact gets_bo b w hb8 ha x u r e hg
  | false =>
    obtain ⟨p, n, m, s, hs, e⟩ := attr_cases b hb8 ha
    cases hw : noWrite b with
    | true => exact gets_ob b w hb8 p n m s hs e hw hg
    | false =>
      obtain ⟨x, u, r, e2⟩ := write_cases b hb8 hw
      exact gets_oo b w hb8 p n m s hs e x u r e2 hg
end Att
end Go.Proofs.YteckncagccfioaaDoor
