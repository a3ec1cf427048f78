/- The four laws of layer 3 return true. -/
import Derived.Test.YthimoilhggknhaaDoorSixGet
import Derived.Test.YthimoilhggknhaaDoorCode
namespace Go.Proofs.YthimoilhggknhaaDoor
open Go.RowKit Err
namespace Six
theorem kept_trans {a b c : World} (h : Below a.heap.size a b) (k : Below b.heap.size b c) : Below a.heap.size a c := h.trans (k.mono h.size)
theorem kept_hid {a b c : World} (h : Hid (Below a.heap.size a b)) (k : Below b.heap.size b c) : Hid (Below a.heap.size a c) := kept_trans h k
theorem kept_draw {a b : World} (h : Hid (Below a.heap.size a b)) (m : Nat) : Hid (Below a.heap.size a (b.drewN m)) := kept_trans h (below_drewN _ _ _)
theorem hand_of {a b : World} (hg : Handle a) (h : Below a.heap.size a b) : Handle b := hg.below hg.pos h
theorem putb (n : Nat) (w : World) (hn : n < 64) :
    Calls Tryd.prog 7 #[.int .i64 (n : Int)] w fun e w' => e = .returned (.tuple #[.int .u8 (put n : Nat), .nilIface]) ∧ Below w.heap.size w w' :=
  (put_any n w hn).mono fun _ _ ⟨he, _, hm⟩ => ⟨he, hm ▸ below_drewN _ _ _⟩
theorem getb_yes (b : Nat) (w : World) (hb : b < 256) (hg : isGraphic b = true) :
    Calls Tryd.prog 11 #[.int .u8 (b : Int)] w fun e w' => e = .returned (.tuple #[.int .i64 (b % 64 : Nat), .nilIface]) ∧ Below w.heap.size w w' :=
  (get_yes b w hb hg).mono fun _ _ ⟨he, _, hm⟩ => ⟨he, hm ▸ below_drewN _ _ _⟩
theorem getb_no (b : Nat) (w : World) (hb : b < 256) (hg : isGraphic b = false) :
    Calls Tryd.prog 11 #[.int .u8 (b : Int)] w fun e w' => e = .returned (.tuple #[.int .i64 0, .iface 36 (.int .i64 3)]) ∧ Below w.heap.size w w' :=
  (get_no b w hb hg).mono fun _ _ ⟨he, _, hm⟩ => ⟨he, hm ▸ below_drewN _ _ _⟩
theorem put_one (w : World) :
    Calls Tryd.prog 7 #[.int .i64 1] w fun e w' => e = .returned (.tuple #[.int .u8 193, .nilIface]) ∧ Below w.heap.size w w' := putb 1 w (by decide)
theorem get_127 (w : World) :
    Calls Tryd.prog 11 #[.int .u8 127] w fun e w' => e = .returned (.tuple #[.int .i64 63, .nilIface]) ∧ Below w.heap.size w w' := getb_yes 127 w (by decide) (by decide)
theorem get_0 (w : World) :
    Calls Tryd.prog 11 #[.int .u8 0] w fun e w' => e = .returned (.tuple #[.int .i64 0, .iface 36 (.int .i64 3)]) ∧ Below w.heap.size w w' := getb_no 0 w (by decide) (by decide)
set_option maxHeartbeats 1000000 in
theorem awake_any (w : World) (hg : Handle w) :
    Calls Tryd.prog 8 #[] w fun e w' => e = .returned (.bool true) ∧ Below w.heap.size w w' := by
  go_enter Tryd.func8, Tryd.ntmps8
  go_wp2_with fail
  refine (put_one _).mono ?_
  rintro e w1 ⟨rfl, hb1⟩
  have hg1 := hand_of hg hb1
  have H1 := Lib.hid hb1
  clear hb1 hg
  go_wp2_with fail
  refine (get_127 _).mono ?_
  rintro e w2 ⟨rfl, hb2⟩
  have hg2 := hand_of hg1 hb2
  have H2 := kept_hid H1 hb2
  clear hb2 hg1 H1
  go_wp2_with fail
  refine (get_0 _).mono ?_
  rintro e w3 ⟨rfl, hb3⟩
  have hg3 := hand_of hg2 hb3
  have H3 := kept_hid H2 hb3
  clear hb3 hg2 H2
  go_wp2_with fail
  refine (code_errno 3 _ hg3).mono ?_
  rintro e w4 ⟨rfl, hb4⟩
  have H4 := kept_hid H3 hb4
  clear hb4 hg3 H3
  go_wp2_with fail
  go_ret
  exact ⟨rfl, H4.out⟩
set_option maxHeartbeats 1000000 in
theorem puts_in (k : Nat) (w : World) (hk : k < 64) (hg : Handle w) :
    Calls Tryd.prog 3 #[.int .i64 (k : Int)] w fun e w' => e = .returned (.bool true) ∧ Below w.heap.size w w' := by
  have HP := fun W => putb k W hk
  have HR := fun W => rput_any k W hk
  generalize put k = p at HP HR
  go_enter Tryd.func3, Tryd.ntmps3
  go_wp2_with fail
  refine (HP _).mono ?_
  rintro e w1 ⟨rfl, hb1⟩
  have hg1 := hand_of hg hb1
  have H1 := Lib.hid hb1
  clear hb1 hg HP
  go_wp2_with fail
  refine (awake_any _ hg1).mono ?_
  rintro e w2 ⟨rfl, hb2⟩
  have H2 := kept_hid H1 hb2
  clear hb2 hg1 H1
  go_wp2_with fail
  refine (HR _).mono ?_
  rintro e w3 ⟨rfl, m, rfl⟩
  have H3 := kept_draw H2 m
  clear HR H2
  go_wp2_with fail
  go_ret
  exact ⟨rfl, H3.out⟩
set_option maxHeartbeats 1000000 in
theorem puts_out (n : Int) (w : World) (hn : n < 0 ∨ 64 ≤ n) (hg : Handle w) :
    Calls Tryd.prog 3 #[.int .i64 n] w fun e w' => e = .returned (.bool true) ∧ Below w.heap.size w w' := by
  have HP : Hid (∀ W, Calls Tryd.prog 7 #[.int .i64 n] W fun e w' => e = .returned (.tuple #[.int .u8 0, .iface 36 (.int .i64 1)]) ∧ W = w') :=
    fun W => hn.elim (put_less n W) (put_more n W)
  rcases hn with h | h
  · go_enter Tryd.func3, Tryd.ntmps3
    go_wp2_with fail
    refine (HP.out _).mono ?_
    rintro e w1 ⟨rfl, rfl⟩
    clear HP
    go_wp2_with fail
    refine (awake_any _ hg).mono ?_
    rintro e w2 ⟨rfl, hb2⟩
    have hg2 := hand_of hg hb2
    have H2 := Lib.hid hb2
    clear hb2 hg
    go_wp2_with fail
    refine (code_errno 1 _ hg2).mono ?_
    rintro e w3 ⟨rfl, hb3⟩
    have H3 := kept_hid H2 hb3
    clear hb3 hg2 H2
    go_wp2_with fail
    go_ret
    exact ⟨rfl, H3.out⟩
  · have h0 : ¬ n < 0 := by omega
    have h1 : 63 < n := by omega
    go_enter Tryd.func3, Tryd.ntmps3
    go_wp2_with fail
    refine (HP.out _).mono ?_
    rintro e w1 ⟨rfl, rfl⟩
    clear HP
    go_wp2_with fail
    refine (awake_any _ hg).mono ?_
    rintro e w2 ⟨rfl, hb2⟩
    have hg2 := hand_of hg hb2
    have H2 := Lib.hid hb2
    clear hb2 hg
    go_wp2_with fail
    refine (code_errno 1 _ hg2).mono ?_
    rintro e w3 ⟨rfl, hb3⟩
    have H3 := kept_hid H2 hb3
    clear hb3 hg2 H2
    go_wp2_with fail
    go_ret
    exact ⟨rfl, H3.out⟩
/-- SixPuts returns true. -/
theorem puts_any (n : Int) (w : World) (hg : Handle w) :
    Calls Tryd.prog 3 #[.int .i64 n] w fun e w' => e = .returned (.bool true) ∧ Below w.heap.size w w' := by
  rcases Int.lt_or_le n 0 with h | h
  · exact puts_out n w (.inl h) hg
  · rcases Int.lt_or_le n 64 with h2 | h2
    · obtain ⟨k, rfl⟩ := Int.eq_ofNat_of_zero_le h
      exact puts_in k w (by omega) hg
    · exact puts_out n w (.inr h2) hg
end Six
end Go.Proofs.YthimoilhggknhaaDoor
