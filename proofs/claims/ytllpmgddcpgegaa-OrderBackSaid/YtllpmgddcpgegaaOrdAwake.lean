/- 'awake' of the statements about package order answers true; 'size' tells a size that may be. -/
import Derived.Test.YtllpmgddcpgegaaOrdGot
import Derived.Test.YtllpmgddcpgegaaOrdPut
namespace Go.Proofs.Ytllpmgddcpgegaa
open Go.RowKit Sha Cut Err Six Att Byt
namespace Ord
theorem size_any (n : Nat) (w : World) (hn : n < 65536) :
    Calls Try.prog 8 #[.int .u16 (n : Int)] w fun e w' => e = .returned (.int .i64 ((1 + n % 16383 : Nat) : Int)) ∧ w = w' := by
  have HE := Lib.hid (show ((1 + n % 16383 : Nat) : Int) = 1 + (n : Int) % 16383 by omega)
  rw [HE.out]
  go_enter Try.func8, Try.ntmps8
  go_wp2
  go_ret
  exact ⟨rfl, rfl⟩
theorem put_80 (w : World) :
    Calls Try.prog 7 #[.agg #[.int .i64 3, .slice none 0 0, .bool false, .bool false, .int .i64 0, .bool false, .int .i64 80, .int .u8 0], .int .i64 1920] w fun e w' => ∃ v, e = .returned (.tuple #[v, .nilIface]) ∧ w'.ownsRow w.heap.size 5 1 v 3 (u8s [17, 193, 80]) ∧ Below w.heap.size w w' :=
  put_3 none 0 0 1920 80 w (bytes_nil w) (by decide) rfl (by decide) (by decide)
theorem get_80 {C g : Nat} (w : World) (h : Cur w C g [17, 193, 80] 0 .nilIface) :
    Calls Try.prog 13 #[.pointer (some ⟨C, 0, none⟩), .int .i64 1920] w fun e w' => e = .returned (.agg #[.int .i64 3, .slice none 0 0, .bool false, .bool false, .int .i64 0, .bool false, .int .i64 80, .int .u8 0]) ∧ Cur w' C g [17, 193, 80] 3 .nilIface ∧ w.grownBy w' (some C) :=
  get_3 1920 w h (by decide) (by decide) (by decide) (by decide) (by decide)
theorem left_80 {C g : Nat} (w : World) (h : Cur w C g [17, 193, 80] 3 .nilIface) :
    Calls Try.prog 15 #[.pointer (some ⟨C, 0, none⟩)] w fun e w' => e = .returned (.int .i64 0) ∧ Below w.heap.size w w' := left_b w h (by decide)
theorem same_80 (w : World) :
    Calls Try.prog 10 #[.agg #[.int .i64 3, .slice none 0 0, .bool false, .bool false, .int .i64 0, .bool false, .int .i64 80, .int .u8 0], .agg #[.int .i64 3, .slice none 0 0, .bool false, .bool false, .int .i64 0, .bool false, .int .i64 80, .int .u8 0]] w fun e w' => e = .returned (.bool true) ∧ Below w.heap.size w w' :=
  same_any ⟨3, [], false, false, 0, false, 80, 0⟩ ⟨3, [], false, false, 0, false, 80, 0⟩ none 0 0 none 0 0 w (bytes_nil w) (bytes_nil w) (by simp) (by simp) (by show (0 : Nat) < 1000000; decide)
set_option maxRecDepth 100000 in
set_option maxHeartbeats 4000000 in
theorem awake_any (w : World) :
    Calls Try.prog 6 #[] w fun e w' => e = .returned (.bool true) ∧ Below w.heap.size w w' := by
  have HP := Lib.hid (put_80 w)
  go_enter Try.func6, Try.ntmps6
  go_wp2_with fail
  with_reducible refine HP.out.mono ?_
  rintro e w1 ⟨v, rfl, ho, hb⟩
  have K1 := Lib.hid hb
  have O1 := Lib.hid ho
  obtain ⟨va, vc, rfl⟩ := Apd.own_form ho
  clear ho hb HP
  go_wp2_with fail
  with_reducible refine (new_any _ _ _ _ _ (own_bytes O1.out) (own_nil O1.out) (by decide)).mono ?_
  rintro e w2 ⟨C, g, rfl, hu, hC, hG, hb⟩
  have K2 := kept_hid K1 hb
  have O2 := Lib.hid (own_below O1.out hb)
  have U2 := Lib.hid hu
  have HC := Lib.hid (Nat.le_trans K1.out.size hC)
  have HC1 := Lib.hid (show ∀ a, va = some a → a.block < C from fun a ha => by
    have := (own_spot O1.out)
    obtain ⟨ad, c, hv, _, hs⟩ := this
    injection hv with e1 _ _
    subst e1
    have := (hs a ha).2.2
    omega)
  clear hu hb hC hG K1 O1
  go_wp2_with fail
  with_reducible refine (get_80 _ U2.out).mono ?_
  rintro e w3 ⟨rfl, hu, hgr⟩
  have K3 := Lib.hid (show Below w.heap.size w w3 from K2.out.grown hgr K2.out.size (by intro k hk; injection hk with hk; have := HC.out; omega))
  have O3 := Lib.hid (O2.out.kept hgr (by
    rcases va with _ | a
    · exact .inl rfl
    · refine .inr ?_
      have := HC1.out a rfl
      simp [Value.ownBlock]; omega))
  have U3 := Lib.hid hu
  clear hu hgr U2 K2 O2 HC1
  go_wp2_with fail
  have HS := Lib.hid (Sam.same_b _ _ [17, 193, 80] _ (own_bytes (own_below (own_below O3.out (al_any w3 (.cells #[.int .i64 3, .slice none 0 0, .bool false, .bool false, .int .i64 0, .bool false, .int .i64 80, .int .u8 0] 26))) (al_any _ (.cells (u8s [17, 193, 80]).toArray 5)))) (lit_in1 w3 (.cells #[.int .i64 3, .slice none 0 0, .bool false, .bool false, .int .i64 0, .bool false, .int .i64 80, .int .u8 0] 26) [17, 193, 80]) (by decide) (by decide))
  refine HS.out.mono ?_
  rintro e w4 ⟨rfl, hb⟩
  obtain ⟨n4, k4⟩ := blk2 hb
  have N4 := Lib.hid n4
  have K4 := kept_hid K3 k4
  have U4 := Lib.hid (U3.out.below k4)
  clear hb n4 k4 U3 K3 O3 HS
  obtain ⟨c0, c1, c2, c3, c4, c5, c6, c7⟩ := cells8 N4.out
  go_wp2_with fail
  with_reducible refine (left_80 _ U4.out).mono ?_
  rintro e w5 ⟨rfl, hb⟩
  have K5 := kept_hid K4 hb
  have N5 := Lib.hid (blk N4.out hb)
  clear hb N4 K4 U4 c0 c1 c2 c3 c4 c5 c6 c7
  obtain ⟨c0, c1, c2, c3, c4, c5, c6, c7⟩ := cells8 N5.out
  go_wp2_with fail
  with_reducible refine (same_80 _).mono ?_
  rintro e w6 ⟨rfl, hb⟩
  have K6 := kept_hid K5 hb
  clear hb N5 K5 c0 c1 c2 c3 c4 c5 c6 c7
  go_wp2_with fail
  go_ret
  exact ⟨rfl, K6.out⟩
end Ord
end Go.Proofs.Ytllpmgddcpgegaa
