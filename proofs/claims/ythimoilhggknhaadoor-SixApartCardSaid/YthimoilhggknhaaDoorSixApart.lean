/- The law SixApart returns true. -/
import Derived.Test.YthimoilhggknhaaDoorSixRest
namespace Go.Proofs.YthimoilhggknhaaDoor
open Go.RowKit Err
namespace Six
set_option maxHeartbeats 1000000 in
theorem apart_same_yes (a b c : Nat) (w : World) (ha : a < 256) (hb : b < 256) (hc : c < 256) (hs : a % 64 = b % 64) (hq : isGraphic c = true) (hg : Handle w) :
    Calls Tryd.prog 6 #[.int .u8 (a : Int), .int .u8 (b : Int), .int .u8 (c : Int)] w fun e w' => e = .returned (.bool true) ∧ Below w.heap.size w w' := by
  have ha64 : a % 64 < 64 := Nat.mod_lt _ (by decide)
  have hc64 : c % 64 < 64 := Nat.mod_lt _ (by decide)
  have hb64 : b % 64 < 64 := Nat.mod_lt _ (by decide)
  have HP := Lib.hid fun W => putb (a % 64) W ha64
  have HQ := Lib.hid fun W => putb (b % 64) W hb64
  have HT := Lib.hid fun W => getb_yes c W hc hq
  have HL := Lib.hid fun W => lowb c W hc
  have HB := Lib.hid fun W => putb (c % 64) W hc64
  rw [put_of_graphic hq] at HB
  have HE : put (a % 64) = put (b % 64) := by rw [hs]
  rw [← HE] at HQ
  generalize put (a % 64) = x at HP HQ
  have t4 : ((a : Int) % 64) = (b : Int) % 64 := by omega
  clear HE
  have t2 : (((a : Int) % 64) == ((b : Int) % 64)) = true := by simp; omega
  clear t4
  clear hs hq
  go_enter Tryd.func6, Tryd.ntmps6
  go_wp2_with fail
  refine (HP.out _).mono ?_
  rintro e w1 ⟨rfl, hb1⟩
  have hg1 := hand_of hg hb1
  have H1 := Lib.hid hb1
  clear hb1 hg
  go_wp2_with fail
  refine (HQ.out _).mono ?_
  rintro e w2 ⟨rfl, hb2⟩
  have hg2 := hand_of hg1 hb2
  have H2 := kept_hid H1 hb2
  clear hb2 hg1 H1
  go_wp2_with fail
  refine (HT.out _).mono ?_
  rintro e w3 ⟨rfl, hb3⟩
  have hg3 := hand_of hg2 hb3
  have H3 := kept_hid H2 hb3
  clear hb3 hg2 H2
  go_wp2_with fail
  refine (HL.out _).mono ?_
  rintro e w4 ⟨rfl, hb4⟩
  have hg4 := hand_of hg3 hb4
  have H4 := kept_hid H3 hb4
  clear hb4 hg3 H3
  go_wp2_with fail
  refine (HB.out _).mono ?_
  rintro e w5 ⟨rfl, hb5⟩
  have hg5 := hand_of hg4 hb5
  have H5 := kept_hid H4 hb5
  clear hb5 hg4 H4
  go_wp2_with fail
  refine (awake_any _ hg5).mono ?_
  rintro e w6 ⟨rfl, hb6⟩
  have hg6 := hand_of hg5 hb6
  have H6 := kept_hid H5 hb6
  clear hb6 hg5 H5
  go_wp2_with fail
  go_ret
  exact ⟨rfl, H6.out⟩
set_option maxHeartbeats 1000000 in
theorem apart_same_no (a b c : Nat) (w : World) (ha : a < 256) (hb : b < 256) (hc : c < 256) (hs : a % 64 = b % 64) (hq : isGraphic c = false) (hg : Handle w) :
    Calls Tryd.prog 6 #[.int .u8 (a : Int), .int .u8 (b : Int), .int .u8 (c : Int)] w fun e w' => e = .returned (.bool true) ∧ Below w.heap.size w w' := by
  have ha64 : a % 64 < 64 := Nat.mod_lt _ (by decide)
  have hc64 : c % 64 < 64 := Nat.mod_lt _ (by decide)
  have hb64 : b % 64 < 64 := Nat.mod_lt _ (by decide)
  have HP := Lib.hid fun W => putb (a % 64) W ha64
  have HQ := Lib.hid fun W => putb (b % 64) W hb64
  have HT := Lib.hid fun W => getb_no c W hc hq
  have HL := Lib.hid fun W => lowb c W hc
  have HB := Lib.hid fun W => putb (c % 64) W hc64
  have hz := not_graphic hq (c % 64) hc64
  generalize put (c % 64) = z at HB hz
  have t3 : (((z : Nat) : Int) == (c : Int)) = false := by simp; omega
  have HE : put (a % 64) = put (b % 64) := by rw [hs]
  rw [← HE] at HQ
  generalize put (a % 64) = x at HP HQ
  have t4 : ((a : Int) % 64) = (b : Int) % 64 := by omega
  clear HE
  have t2 : (((a : Int) % 64) == ((b : Int) % 64)) = true := by simp; omega
  clear t4
  clear hs hq
  go_enter Tryd.func6, Tryd.ntmps6
  go_wp2_with fail
  refine (HP.out _).mono ?_
  rintro e w1 ⟨rfl, hb1⟩
  have hg1 := hand_of hg hb1
  have H1 := Lib.hid hb1
  clear hb1 hg
  go_wp2_with fail
  refine (HQ.out _).mono ?_
  rintro e w2 ⟨rfl, hb2⟩
  have hg2 := hand_of hg1 hb2
  have H2 := kept_hid H1 hb2
  clear hb2 hg1 H1
  go_wp2_with fail
  refine (HT.out _).mono ?_
  rintro e w3 ⟨rfl, hb3⟩
  have hg3 := hand_of hg2 hb3
  have H3 := kept_hid H2 hb3
  clear hb3 hg2 H2
  go_wp2_with fail
  refine (HL.out _).mono ?_
  rintro e w4 ⟨rfl, hb4⟩
  have hg4 := hand_of hg3 hb4
  have H4 := kept_hid H3 hb4
  clear hb4 hg3 H3
  go_wp2_with fail
  refine (HB.out _).mono ?_
  rintro e w5 ⟨rfl, hb5⟩
  have hg5 := hand_of hg4 hb5
  have H5 := kept_hid H4 hb5
  clear hb5 hg4 H4
  go_wp2_with fail
  refine (awake_any _ hg5).mono ?_
  rintro e w6 ⟨rfl, hb6⟩
  have hg6 := hand_of hg5 hb6
  have H6 := kept_hid H5 hb6
  clear hb6 hg5 H5
  go_wp2_with fail
  go_ret
  exact ⟨rfl, H6.out⟩
set_option maxHeartbeats 1000000 in
theorem apart_less_yes (a b c : Nat) (w : World) (ha : a < 256) (hb : b < 256) (hc : c < 256) (hs : a % 64 ≠ b % 64) (hq : isGraphic c = true) (hg : Handle w) :
    Calls Tryd.prog 6 #[.int .u8 (a : Int), .int .u8 (b : Int), .int .u8 (c : Int)] w fun e w' => e = .returned (.bool true) ∧ Below w.heap.size w w' := by
  have ha64 : a % 64 < 64 := Nat.mod_lt _ (by decide)
  have hc64 : c % 64 < 64 := Nat.mod_lt _ (by decide)
  have hb64 : b % 64 < 64 := Nat.mod_lt _ (by decide)
  have HP := Lib.hid fun W => putb (a % 64) W ha64
  have HQ := Lib.hid fun W => putb (b % 64) W hb64
  have HT := Lib.hid fun W => getb_yes c W hc hq
  have HL := Lib.hid fun W => lowb c W hc
  have HB := Lib.hid fun W => putb (c % 64) W hc64
  rw [put_of_graphic hq] at HB
  have HE : put (a % 64) ≠ put (b % 64) := fun e => hs (put_inj _ _ ha64 hb64 e)
  generalize put (a % 64) = x at HP HE
  generalize put (b % 64) = y at HQ HE
  have t1 : (((x : Nat) : Int) == (y : Int)) = false := by simp; omega
  have t2 : (((a : Int) % 64) == ((b : Int) % 64)) = false := by simp; omega
  clear hs hq
  go_enter Tryd.func6, Tryd.ntmps6
  go_wp2_with fail
  refine (HP.out _).mono ?_
  rintro e w1 ⟨rfl, hb1⟩
  have hg1 := hand_of hg hb1
  have H1 := Lib.hid hb1
  clear hb1 hg
  go_wp2_with fail
  refine (HQ.out _).mono ?_
  rintro e w2 ⟨rfl, hb2⟩
  have hg2 := hand_of hg1 hb2
  have H2 := kept_hid H1 hb2
  clear hb2 hg1 H1
  go_wp2_with fail
  refine (HT.out _).mono ?_
  rintro e w3 ⟨rfl, hb3⟩
  have hg3 := hand_of hg2 hb3
  have H3 := kept_hid H2 hb3
  clear hb3 hg2 H2
  go_wp2_with fail
  refine (HL.out _).mono ?_
  rintro e w4 ⟨rfl, hb4⟩
  have hg4 := hand_of hg3 hb4
  have H4 := kept_hid H3 hb4
  clear hb4 hg3 H3
  go_wp2_with fail
  refine (HB.out _).mono ?_
  rintro e w5 ⟨rfl, hb5⟩
  have hg5 := hand_of hg4 hb5
  have H5 := kept_hid H4 hb5
  clear hb5 hg4 H4
  go_wp2_with fail
  refine (awake_any _ hg5).mono ?_
  rintro e w6 ⟨rfl, hb6⟩
  have hg6 := hand_of hg5 hb6
  have H6 := kept_hid H5 hb6
  clear hb6 hg5 H5
  go_wp2_with fail
  go_ret
  exact ⟨rfl, H6.out⟩
set_option maxHeartbeats 1000000 in
theorem apart_less_no (a b c : Nat) (w : World) (ha : a < 256) (hb : b < 256) (hc : c < 256) (hs : a % 64 ≠ b % 64) (hq : isGraphic c = false) (hg : Handle w) :
    Calls Tryd.prog 6 #[.int .u8 (a : Int), .int .u8 (b : Int), .int .u8 (c : Int)] w fun e w' => e = .returned (.bool true) ∧ Below w.heap.size w w' := by
  have ha64 : a % 64 < 64 := Nat.mod_lt _ (by decide)
  have hc64 : c % 64 < 64 := Nat.mod_lt _ (by decide)
  have hb64 : b % 64 < 64 := Nat.mod_lt _ (by decide)
  have HP := Lib.hid fun W => putb (a % 64) W ha64
  have HQ := Lib.hid fun W => putb (b % 64) W hb64
  have HT := Lib.hid fun W => getb_no c W hc hq
  have HL := Lib.hid fun W => lowb c W hc
  have HB := Lib.hid fun W => putb (c % 64) W hc64
  have hz := not_graphic hq (c % 64) hc64
  generalize put (c % 64) = z at HB hz
  have t3 : (((z : Nat) : Int) == (c : Int)) = false := by simp; omega
  have HE : put (a % 64) ≠ put (b % 64) := fun e => hs (put_inj _ _ ha64 hb64 e)
  generalize put (a % 64) = x at HP HE
  generalize put (b % 64) = y at HQ HE
  have t1 : (((x : Nat) : Int) == (y : Int)) = false := by simp; omega
  have t2 : (((a : Int) % 64) == ((b : Int) % 64)) = false := by simp; omega
  clear hs hq
  go_enter Tryd.func6, Tryd.ntmps6
  go_wp2_with fail
  refine (HP.out _).mono ?_
  rintro e w1 ⟨rfl, hb1⟩
  have hg1 := hand_of hg hb1
  have H1 := Lib.hid hb1
  clear hb1 hg
  go_wp2_with fail
  refine (HQ.out _).mono ?_
  rintro e w2 ⟨rfl, hb2⟩
  have hg2 := hand_of hg1 hb2
  have H2 := kept_hid H1 hb2
  clear hb2 hg1 H1
  go_wp2_with fail
  refine (HT.out _).mono ?_
  rintro e w3 ⟨rfl, hb3⟩
  have hg3 := hand_of hg2 hb3
  have H3 := kept_hid H2 hb3
  clear hb3 hg2 H2
  go_wp2_with fail
  refine (HL.out _).mono ?_
  rintro e w4 ⟨rfl, hb4⟩
  have hg4 := hand_of hg3 hb4
  have H4 := kept_hid H3 hb4
  clear hb4 hg3 H3
  go_wp2_with fail
  refine (HB.out _).mono ?_
  rintro e w5 ⟨rfl, hb5⟩
  have hg5 := hand_of hg4 hb5
  have H5 := kept_hid H4 hb5
  clear hb5 hg4 H4
  go_wp2_with fail
  refine (awake_any _ hg5).mono ?_
  rintro e w6 ⟨rfl, hb6⟩
  have hg6 := hand_of hg5 hb6
  have H6 := kept_hid H5 hb6
  clear hb6 hg5 H5
  go_wp2_with fail
  go_ret
  exact ⟨rfl, H6.out⟩
/-- SixApart returns true. -/
theorem apart_any (a b c : Nat) (w : World) (ha : a < 256) (hb : b < 256) (hc : c < 256) (hg : Handle w) :
    Calls Tryd.prog 6 #[.int .u8 (a : Int), .int .u8 (b : Int), .int .u8 (c : Int)] w fun e w' => e = .returned (.bool true) ∧ Below w.heap.size w w' := by
  by_cases hs : a % 64 = b % 64
  · cases hq : isGraphic c with
    | true => exact apart_same_yes a b c w ha hb hc hs hq hg
    | false => exact apart_same_no a b c w ha hb hc hs hq hg
  · cases hq : isGraphic c with
    | true => exact apart_less_yes a b c w ha hb hc hs hq hg
    | false => exact apart_less_no a b c w ha hb hc hs hq hg
end Six
end Go.Proofs.YthimoilhggknhaaDoor
