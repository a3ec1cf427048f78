/- The other three laws of layer 3 return true. -/
import Derived.Test.YthimoilhggknhaaDoorSixLaws
namespace Go.Proofs.YthimoilhggknhaaDoor
open Go.RowKit Err
namespace Six
theorem lowb (b : Nat) (w : World) (hb : b < 256) :
    Calls Tryd.prog 13 #[.int .u8 (b : Int)] w fun e w' => e = .returned (.int .i64 (b % 64 : Nat)) ∧ Below w.heap.size w w' :=
  (low_any b w hb).mono fun _ _ ⟨he, hm⟩ => ⟨he, hm ▸ Below.refl _ _⟩
theorem rgetb_yes (b : Nat) (w : World) (hb : b < 256) (hg : isGraphic b = true) :
    Calls Tryd.prog 12 #[.int .u8 (b : Int)] w fun e w' => e = .returned (.int .i64 (b % 64 : Nat)) ∧ Below w.heap.size w w' :=
  (rget_yes b w hb hg).mono fun _ _ ⟨he, _, hm⟩ => ⟨he, hm ▸ below_drewN _ _ _⟩
theorem rgetb_no (b : Nat) (w : World) (hb : b < 256) (hg : isGraphic b = false) :
    Calls Tryd.prog 12 #[.int .u8 (b : Int)] w fun e w' => e = .returned (.int .i64 (-1)) ∧ Below w.heap.size w w' :=
  (rget_no b w hb hg).mono fun _ _ ⟨he, _, hm⟩ => ⟨he, hm ▸ below_drewN _ _ _⟩
set_option maxHeartbeats 1000000 in
theorem gets_yes (b : Nat) (w : World) (hb : b < 256) (hq : isGraphic b = true) (hg : Handle w) :
    Calls Tryd.prog 4 #[.int .u8 (b : Int)] w fun e w' => e = .returned (.bool true) ∧ Below w.heap.size w w' := by
  have HP := Lib.hid fun W => getb_yes b W hb hq
  have HR := Lib.hid fun W => rgetb_yes b W hb hq
  have HL := Lib.hid fun W => lowb b W hb
  clear hq
  go_enter Tryd.func4, Tryd.ntmps4
  go_wp2_with fail
  refine (HP.out _).mono ?_
  rintro e w1 ⟨rfl, hb1⟩
  have hg1 := hand_of hg hb1
  have H1 := Lib.hid hb1
  clear hb1 hg
  go_wp2_with fail
  refine (HR.out _).mono ?_
  rintro e w2 ⟨rfl, hb2⟩
  have hg2 := hand_of hg1 hb2
  have H2 := kept_hid H1 hb2
  clear hb2 hg1 H1
  go_wp2_with fail
  refine (awake_any _ hg2).mono ?_
  rintro e w3 ⟨rfl, hb3⟩
  have hg3 := hand_of hg2 hb3
  have H3 := kept_hid H2 hb3
  clear hb3 hg2 H2
  go_wp2_with fail
  refine (HL.out _).mono ?_
  rintro e w4 ⟨rfl, hb4⟩
  have hg4 := hand_of hg3 hb4
  have H4 := kept_hid H3 hb4
  clear hb4 hg3 H3
  go_wp2_with fail
  go_ret
  exact ⟨rfl, H4.out⟩
set_option maxHeartbeats 1000000 in
theorem gets_no (b : Nat) (w : World) (hb : b < 256) (hq : isGraphic b = false) (hg : Handle w) :
    Calls Tryd.prog 4 #[.int .u8 (b : Int)] w fun e w' => e = .returned (.bool true) ∧ Below w.heap.size w w' := by
  have HP := Lib.hid fun W => getb_no b W hb hq
  have HR := Lib.hid fun W => rgetb_no b W hb hq
  have HL := Lib.hid fun W => lowb b W hb
  clear hq
  go_enter Tryd.func4, Tryd.ntmps4
  go_wp2_with fail
  refine (HP.out _).mono ?_
  rintro e w1 ⟨rfl, hb1⟩
  have hg1 := hand_of hg hb1
  have H1 := Lib.hid hb1
  clear hb1 hg
  go_wp2_with fail
  refine (HR.out _).mono ?_
  rintro e w2 ⟨rfl, hb2⟩
  have hg2 := hand_of hg1 hb2
  have H2 := kept_hid H1 hb2
  clear hb2 hg1 H1
  go_wp2_with fail
  refine (awake_any _ hg2).mono ?_
  rintro e w3 ⟨rfl, hb3⟩
  have hg3 := hand_of hg2 hb3
  have H3 := kept_hid H2 hb3
  clear hb3 hg2 H2
  go_wp2_with fail
  refine (HL.out _).mono ?_
  rintro e w4 ⟨rfl, hb4⟩
  have hg4 := hand_of hg3 hb4
  have H4 := kept_hid H3 hb4
  clear hb4 hg3 H3
  go_wp2_with fail
  refine (code_errno 3 _ hg4).mono ?_
  rintro e w5 ⟨rfl, hb5⟩
  have hg5 := hand_of hg4 hb5
  have H5 := kept_hid H4 hb5
  clear hb5 hg4 H4
  go_wp2_with fail
  go_ret
  exact ⟨rfl, H5.out⟩
/-- SixGets returns true. -/
theorem gets_any (b : Nat) (w : World) (hb : b < 256) (hg : Handle w) :
    Calls Tryd.prog 4 #[.int .u8 (b : Int)] w fun e w' => e = .returned (.bool true) ∧ Below w.heap.size w w' := by
  cases hq : isGraphic b with
  | true => exact gets_yes b w hb hq hg
  | false => exact gets_no b w hb hq hg
set_option maxHeartbeats 1000000 in
theorem back_yes (n b : Nat) (w : World) (hn : n < 256) (hb : b < 256) (hq : isGraphic b = true) (hg : Handle w) :
    Calls Tryd.prog 5 #[.int .u8 (n : Int), .int .u8 (b : Int)] w fun e w' => e = .returned (.bool true) ∧ Below w.heap.size w w' := by
  have h64 : n % 64 < 64 := Nat.mod_lt _ (by decide)
  have HP := Lib.hid fun W => putb (n % 64) W h64
  have HT := Lib.hid fun W => getb_yes (put (n % 64)) W (put_lt _ h64) (graphic_put _ h64)
  have HL := Lib.hid fun W => lowb (put (n % 64)) W (put_lt _ h64)
  rw [put_low _ h64] at HT HL
  have HQ := Lib.hid fun W => getb_yes b W hb hq
  have HB := Lib.hid fun W => putb (b % 64) W (Nat.mod_lt _ (by decide))
  rw [put_of_graphic hq] at HB
  clear hq
  generalize put (n % 64) = p at HP HT HL
  go_enter Tryd.func5, Tryd.ntmps5
  go_wp2_with fail
  refine (HP.out _).mono ?_
  rintro e w1 ⟨rfl, hb1⟩
  have hg1 := hand_of hg hb1
  have H1 := Lib.hid hb1
  clear hb1 hg
  go_wp2_with fail
  refine (HT.out _).mono ?_
  rintro e w2 ⟨rfl, hb2⟩
  have hg2 := hand_of hg1 hb2
  have H2 := kept_hid H1 hb2
  clear hb2 hg1 H1
  go_wp2_with fail
  refine (awake_any _ hg2).mono ?_
  rintro e w3 ⟨rfl, hb3⟩
  have hg3 := hand_of hg2 hb3
  have H3 := kept_hid H2 hb3
  clear hb3 hg2 H2
  go_wp2_with fail
  refine (HL.out _).mono ?_
  rintro e w4 ⟨rfl, hb4⟩
  have hg4 := hand_of hg3 hb4
  have H4 := kept_hid H3 hb4
  clear hb4 hg3 H3
  go_wp2_with fail
  refine (HQ.out _).mono ?_
  rintro e w5 ⟨rfl, hb5⟩
  have hg5 := hand_of hg4 hb5
  have H5 := kept_hid H4 hb5
  clear hb5 hg4 H4
  go_wp2_with fail
  refine (HB.out _).mono ?_
  rintro e w6 ⟨rfl, hb6⟩
  have hg6 := hand_of hg5 hb6
  have H6 := kept_hid H5 hb6
  clear hb6 hg5 H5
  go_wp2_with fail
  go_ret
  exact ⟨rfl, H6.out⟩
set_option maxHeartbeats 1000000 in
theorem back_no (n b : Nat) (w : World) (hn : n < 256) (hb : b < 256) (hq : isGraphic b = false) (hg : Handle w) :
    Calls Tryd.prog 5 #[.int .u8 (n : Int), .int .u8 (b : Int)] w fun e w' => e = .returned (.bool true) ∧ Below w.heap.size w w' := by
  have h64 : n % 64 < 64 := Nat.mod_lt _ (by decide)
  have HP := Lib.hid fun W => putb (n % 64) W h64
  have HT := Lib.hid fun W => getb_yes (put (n % 64)) W (put_lt _ h64) (graphic_put _ h64)
  have HL := Lib.hid fun W => lowb (put (n % 64)) W (put_lt _ h64)
  rw [put_low _ h64] at HT HL
  have HQ := Lib.hid fun W => getb_no b W hb hq
  clear hq
  generalize put (n % 64) = p at HP HT HL
  go_enter Tryd.func5, Tryd.ntmps5
  go_wp2_with fail
  refine (HP.out _).mono ?_
  rintro e w1 ⟨rfl, hb1⟩
  have hg1 := hand_of hg hb1
  have H1 := Lib.hid hb1
  clear hb1 hg
  go_wp2_with fail
  refine (HT.out _).mono ?_
  rintro e w2 ⟨rfl, hb2⟩
  have hg2 := hand_of hg1 hb2
  have H2 := kept_hid H1 hb2
  clear hb2 hg1 H1
  go_wp2_with fail
  refine (awake_any _ hg2).mono ?_
  rintro e w3 ⟨rfl, hb3⟩
  have hg3 := hand_of hg2 hb3
  have H3 := kept_hid H2 hb3
  clear hb3 hg2 H2
  go_wp2_with fail
  refine (HL.out _).mono ?_
  rintro e w4 ⟨rfl, hb4⟩
  have hg4 := hand_of hg3 hb4
  have H4 := kept_hid H3 hb4
  clear hb4 hg3 H3
  go_wp2_with fail
  refine (HQ.out _).mono ?_
  rintro e w5 ⟨rfl, hb5⟩
  have hg5 := hand_of hg4 hb5
  have H5 := kept_hid H4 hb5
  clear hb5 hg4 H4
  go_wp2_with fail
  go_ret
  exact ⟨rfl, H5.out⟩
/-- SixBack returns true. -/
theorem back_any (n b : Nat) (w : World) (hn : n < 256) (hb : b < 256) (hg : Handle w) :
    Calls Tryd.prog 5 #[.int .u8 (n : Int), .int .u8 (b : Int)] w fun e w' => e = .returned (.bool true) ∧ Below w.heap.size w w' := by
  cases hq : isGraphic b with
  | true => exact back_yes n b w hn hb hq hg
  | false => exact back_no n b w hn hb hq hg
end Six
end Go.Proofs.YthimoilhggknhaaDoor
