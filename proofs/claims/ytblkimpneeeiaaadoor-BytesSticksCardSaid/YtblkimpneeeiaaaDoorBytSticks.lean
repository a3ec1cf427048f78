/- BytesSticks returns true. -/
import Derived.Test.YtblkimpneeeiaaaDoorBytAwake
namespace Go.Proofs.YtblkimpneeeiaaaDoor
open Go.RowKit Sha Cut Err Six Apd Att
namespace Byt
set_option maxHeartbeats 1000000 in
theorem sticks_long (a0 : Option Addr) (len0 cap0 : Nat) (n m : Int) (w : World) (h : 300 < len0) (hg0 : Handle w) :
    Calls Tryd.prog 5 #[.slice a0 len0 cap0, .int .u8 n, .int .i64 m] w fun e w' => e = .returned (.bool true) ∧ Below w.heap.size w w' := by
  have hg : decide ((300 : Int) < (len0 : Int)) = true := by simp; omega
  go_enter Tryd.func5, Tryd.ntmps5
  go_wp2_with fail
  refine (awake_any _ hg0).mono ?_
  rintro e w1 ⟨rfl, hb1⟩
  have hg1 := hand_of hg0 hb1
  have H1 := Lib.hid hb1
  clear hb1 hg0
  go_wp2_with fail
  refine (awake_any _ hg1).mono ?_
  rintro e w2 ⟨rfl, hb2⟩
  have H2 := kept_hid H1 hb2
  clear hb2 hg1 H1
  go_wp2_with fail
  go_ret
  exact ⟨rfl, H2.out⟩
set_option maxRecDepth 100000 in
set_option maxHeartbeats 4000000 in
theorem sticks_main (a0 : Option Addr) (len0 cap0 : Nat) (n : Nat) (m : Int) (w : World) (h0 : len0 ≤ 300) (xs : List Nat) (hx : xs.length = len0) (hn : n < 256)
    (hx8 : ∀ x ∈ xs, x < 256) (hbx : BytesIn w (.slice a0 len0 cap0) xs) (hn0 : a0 = none → len0 = 0 ∧ cap0 = 0) (hg0 : Handle w) :
    Calls Tryd.prog 5 #[.slice a0 len0 cap0, .int .u8 (n : Int), .int .i64 m] w fun e w' => e = .returned (.bool true) ∧ Below w.heap.size w w' := by
  have hg : decide ((300 : Int) < (len0 : Int)) = false := by simp; omega
  have HX := Lib.hid (show xs.length < 1000000000 by omega)
  have HX8 := Lib.hid hx8
  have HBX := Lib.hid hbx
  have HN0 := Lib.hid hn0
  subst hx
  have ew : IntKind.i64.wrap ((xs.length : Int) + 1) = (xs.length : Int) + 1 := by rw [IntWalk.i64_in] <;> omega
  have e1 : (((xs.length : Int) + 1) == 0) = false := by simp; omega
  obtain ⟨k, hk⟩ : ∃ k, k = n % (xs.length + 1) := ⟨_, rfl⟩
  have HK := Lib.hid (show k ≤ xs.length by rw [hk]; have := Nat.mod_lt n (show xs.length + 1 > 0 by omega); omega)
  have HKE := Lib.hid (show (n : Int) % ((xs.length : Int) + 1) = (k : Int) by rw [hk]; exact (Int.natCast_emod n (xs.length + 1)).symm)
  have HHG := Lib.hid hg0
  clear hx8 hbx hn0 h0 hk
  go_enter Tryd.func5, Tryd.ntmps5
  go_wp2_with fail
  refine (awake_any _ hg0).mono ?_
  rintro e w1 ⟨rfl, hb1⟩
  have H1 := Lib.hid hb1
  clear hb1 hg0
  go_wp2_with fail
  refine (new_any _ _ _ _ _ (bytes_below HBX.out H1.out) HN0.out HX.out).mono ?_
  rintro e w2 ⟨C, g, rfl, hc, hC, _, hb⟩
  have H := kept_hid H1 hb
  have U := Lib.hid hc
  have HC := Lib.hid (Nat.le_trans H1.out.size hC)
  clear hc hC hb H1 HN0
  go_wp2_with fail
  rw [HKE.out]
  refine (take_ok k _ U.out (by have := HK.out; omega) HX.out).mono ?_
  rintro e w3 ⟨v, rfl, ho, hc, hgr⟩
  replace H := Lib.hid (below_set H.out hgr HC.out)
  replace U := Lib.hid (show Cur w3 C g xs (0 + k) .nilIface from hc)
  rw [Nat.zero_add] at U
  obtain ⟨va, vc, rfl⟩ := own_form ho
  clear ho hc hgr
  go_wp2_with fail
  refine (fail_new (d := 0) (.iface 38 (.int .i64 5)) 5 _ U.out rfl).mono ?_
  rintro e w4 ⟨rfl, ev, hc, hm, hgr⟩
  obtain ⟨b, rfl, ht⟩ := hm
  replace H := Lib.hid (below_set H.out hgr HC.out)
  replace U := Lib.hid hc
  have HT := Lib.hid ht
  clear hc hgr ht
  go_wp2_with fail
  refine (fail_met (.iface 38 (.int .i64 3)) _ U.out).mono ?_
  rintro e w5 ⟨rfl, rfl⟩
  go_wp2_with fail
  refine (byte_met _ U.out).mono ?_
  rintro e w5 ⟨rfl, rfl⟩
  go_wp2_with fail
  refine (take_met 1 _ U.out).mono ?_
  rintro e w5 ⟨rfl, rfl⟩
  go_wp2_with fail
  refine (addr_met m _ U.out).mono ?_
  rintro e w5 ⟨rfl, hb⟩
  replace U := Lib.hid (U.out.below hb)
  replace HT := Lib.hid (HT.out.below hb)
  replace H := kept_hid H hb
  clear hb
  go_wp2_with fail
  refine (chars_met _ U.out).mono ?_
  rintro e w6 ⟨rfl, rfl⟩
  go_wp2_with fail
  refine (peek_met _ U.out).mono ?_
  rintro e w6 ⟨rfl, rfl⟩
  go_wp2_with fail
  refine (at_any _ U.out).mono ?_
  rintro e w6 ⟨rfl, rfl⟩
  go_wp2_with fail
  refine (err_any _ U.out).mono ?_
  rintro e w6 ⟨rfl, rfl⟩
  go_wp2_with fail
  refine (code_told _ 5 k _ (hand_of HHG.out H.out) HT.out).mono ?_
  rintro e w6 ⟨rfl, hb⟩
  replace U := Lib.hid (U.out.below hb)
  replace HT := Lib.hid (HT.out.below hb)
  replace H := kept_hid H hb
  clear hb
  go_wp2_with fail
  refine (err_any _ U.out).mono ?_
  rintro e w7 ⟨rfl, rfl⟩
  go_wp2_with fail
  refine (where_told _ 5 k _ (hand_of HHG.out H.out) HT.out).mono ?_
  rintro e w7 ⟨rfl, hb⟩
  replace H := kept_hid H hb
  clear hb
  go_wp2_with fail
  go_ret
  exact ⟨rfl, H.out⟩
end Byt
end Go.Proofs.YtblkimpneeeiaaaDoor
