/- Write of package stream returns what the plain function says. -/
import Derived.Test.YtmllmmamdkjndaaDoorStrPutW
import Derived.Test.YtmllmmamdkjndaaDoorStrKind
namespace Go.Proofs.YtmllmmamdkjndaaDoor
open Go.RowKit Sha Cut Err Six Att Apd
namespace Str
open Go.Proofs.YtmllmmamdkjndaaDoor.Ord
/-- What Write answers of a command x: v its bytes, ev what is wrong. -/
def Wrote (w w' : World) (x : Cm) (z : Nat) (v ev : Value) : Prop :=
  ((cwrite x z).2.1 = 0 ∧ ev = .nilIface ∧ w'.ownsRow w.heap.size 5 1 v (cwrite x z).1.length (u8s (cwrite x z).1)) ∨
  ((cwrite x z).2.1 ≠ 0 ∧ v = .slice none 0 0 ∧ (∃ t u, ev = .iface t u) ∧ Err.Told w' ev ((cwrite x z).2.1 : Int) (cwrite x z).2.2)
theorem cwrite_unknown {x : Cm} {z : Nat} (h : known x.cmd = false) : cwrite x z = ([], 5, -1) := by unfold cwrite; rw [if_pos h]
theorem cwrite_more {x : Cm} {z : Nat} (h : known x.cmd = true) (hw : writes x.cmd = false) (hm : (x.a || x.u || x.r || !x.os.isEmpty) = true) : cwrite x z = ([], 1, -1) := by
  unfold cwrite; rw [if_neg (by rw [h]; simp), if_pos hw, if_pos hm]
theorem cwrite_bare {x : Cm} {z : Nat} (h : known x.cmd = true) (hw : writes x.cmd = false) (hm : (x.a || x.u || x.r || !x.os.isEmpty) = false) : cwrite x z = ([x.cmd.toNat], 0, -1) := by
  unfold cwrite; rw [if_neg (by rw [h]; simp), if_pos hw, if_neg (by rw [hm]; simp)]
theorem cwrite_writes {x : Cm} {z : Nat} (h : known x.cmd = true) (hw : writes x.cmd = true) : cwrite x z =
    if (ow z false 0 x.os).1 ≠ 0 then ([], (ow z false 0 x.os).1, ((ow z false 0 x.os).2 : Int))
    else if 8192 < (obs z x.os).length + 2 then ([], 6, -1) else (x.cmd.toNat :: put (wnum x.a x.u x.r) :: obs z x.os, 0, -1) := by
  unfold cwrite; rw [if_neg (by rw [h]; simp), if_neg (by rw [hw]; simp)]
set_option maxRecDepth 100000 in
set_option maxHeartbeats 4000000 in
theorem write_writes (cmd : Nat) (hcm : cmd = 241 ∨ cmd = 245) (a u r : Bool) (ad : Option Addr) (n cap z : Nat) (os : List O) (w : World) (ho : OrdsIn w 0 (.slice ad n cap) os) (hs : Sound os) (hos : os.length ≤ 10000) (h1 : 1 ≤ z) (h2 : z ≤ 16383) :
    Calls Tryd.prog 10 #[.agg #[.int .i64 (cmd : Int), .bool a, .bool u, .bool r, .slice ad n cap], .int .i64 (z : Int)] w fun e w' => ∃ v ev, e = .returned (.tuple #[v, ev]) ∧ Below w.heap.size w w' ∧ Wrote w w' ⟨cmd, a, u, r, os⟩ z v ev := by
  have hk : known (cmd : Int) = true := by rcases hcm with rfl | rfl <;> decide
  have hw : writes (cmd : Int) = true := by rcases hcm with rfl | rfl <;> decide
  have HC := Lib.hid (cwrite_writes (x := ⟨(cmd : Int), a, u, r, os⟩) (z := z) hk hw)
  have HK := Lib.hid fun W => kind_any (cmd : Int) W
  rw [hk, hw] at HK
  have HA := Lib.hid (al_any w (.cells #[.int .i64 (cmd : Int), .bool a, .bool u, .bool r, .slice ad n cap] 26))
  have HN := Lib.hid (heap_alloc_new w (.cells #[.int .i64 (cmd : Int), .bool a, .bool u, .bool r, .slice ad n cap] 26))
  have HP := Lib.hid (putWrite_any cmd (by omega) a u r ad n cap z os _ (ho.below HA.out) hs hos h1 h2)
  clear hk hw ho hs hos h1 h2 hcm
  go_enter Tryd.func10, Tryd.ntmps10
  go_wp2_with fail
  with_reducible refine (HK.out _).mono ?_
  rintro e w' ⟨rfl, rfl⟩
  go_wp2_with fail
  generalize w.alloc (.cells #[.int .i64 (cmd : Int), .bool a, .bool u, .bool r, .slice ad n cap] 26) = w1 at *
  with_reducible refine HP.out.mono ?_
  rintro e w2 ⟨v, ev, rfl, hb, hc⟩
  have K2 := kept_hid HA hb
  have HR := Lib.hid (show Wrote w w2 ⟨(cmd : Int), a, u, r, os⟩ z v ev by
    unfold Wrote
    rw [HC.out]
    rcases hc with ⟨e0, e1, rfl, ho⟩ | ⟨e0, e1, rfl, rfl⟩ | ⟨e0, rfl, ⟨b, rfl⟩, ht⟩
    · rw [if_neg (by rw [e0]; simp), if_neg (by omega)]
      refine .inl ⟨rfl, rfl, ?_⟩
      simp only [Int.toNat_natCast, List.length_cons]
      exact own_mono ho HA.out.size
    · rw [if_neg (by rw [e0]; simp), if_pos e1]
      exact .inr ⟨by show (6 : Nat) ≠ 0; decide, rfl, ⟨_, _, rfl⟩, .inr (.inl ⟨rfl, rfl⟩)⟩
    · rw [if_pos e0]
      exact .inr ⟨e0, rfl, ⟨_, _, rfl⟩, ht⟩)
  clear hb hc HP HK
  go_wp2_with fail
  go_ret2
  exact ⟨_, _, rfl, K2.out, HR.out⟩
set_option maxRecDepth 100000 in
set_option maxHeartbeats 4000000 in
theorem write_unknown (x : Cm) (ad : Option Addr) (n cap z : Nat) (w : World) (hk : known x.cmd = false) :
    Calls Tryd.prog 10 #[.agg #[.int .i64 x.cmd, .bool x.a, .bool x.u, .bool x.r, .slice ad n cap], .int .i64 (z : Int)] w fun e w' => ∃ v ev, e = .returned (.tuple #[v, ev]) ∧ Below w.heap.size w w' ∧ Wrote w w' x z v ev := by
  have HC := Lib.hid (cwrite_unknown (z := z) hk)
  have HK := Lib.hid fun W => kind_any x.cmd W
  have HA := Lib.hid (al_any w (.cells #[.int .i64 x.cmd, .bool x.a, .bool x.u, .bool x.r, .slice ad n cap] 26))
  rw [hk] at HK
  clear hk
  go_enter Tryd.func10, Tryd.ntmps10
  go_wp2_with fail
  with_reducible refine (HK.out _).mono ?_
  rintro e w' ⟨rfl, rfl⟩
  go_wp2_with fail
  go_ret2
  refine ⟨_, _, rfl, HA.out, ?_⟩
  unfold Wrote
  rw [HC.out]
  exact .inr ⟨by show (5 : Nat) ≠ 0; decide, rfl, ⟨_, _, rfl⟩, .inr (.inl ⟨rfl, rfl⟩)⟩
set_option maxRecDepth 100000 in
set_option maxHeartbeats 4000000 in
theorem write_more (c : Int) (a u r : Bool) (os : List O) (ad : Option Addr) (n cap z : Nat) (w : World) (hk : known c = true) (hw : writes c = false) (hn : n = os.length) (hm : (a || u || r || !os.isEmpty) = true) :
    Calls Tryd.prog 10 #[.agg #[.int .i64 c, .bool a, .bool u, .bool r, .slice ad n cap], .int .i64 (z : Int)] w fun e w' => ∃ v ev, e = .returned (.tuple #[v, ev]) ∧ Below w.heap.size w w' ∧ Wrote w w' ⟨c, a, u, r, os⟩ z v ev := by
  have HC := Lib.hid (cwrite_more (x := ⟨c, a, u, r, os⟩) (z := z) hk hw hm)
  have HK := Lib.hid fun W => kind_any c W
  rw [hk, hw] at HK
  have HW : ∀ W, Wrote w W ⟨c, a, u, r, os⟩ z (.slice none 0 0) (.iface 55 (.int .i64 1)) := fun W => by
    unfold Wrote
    rw [HC.out]
    exact .inr ⟨by show (1 : Nat) ≠ 0; decide, rfl, ⟨_, _, rfl⟩, .inr (.inl ⟨rfl, rfl⟩)⟩
  have HW := Lib.hid HW
  clear hk hw HC
  have hcase : a = true ∨ (a = false ∧ u = true) ∨ (a = false ∧ u = false ∧ r = true) ∨ (a = false ∧ u = false ∧ r = false ∧ os ≠ []) := by
    cases a <;> cases u <;> cases r <;> simp_all
  rcases hcase with rfl | ⟨rfl, rfl⟩ | ⟨rfl, rfl, rfl⟩ | ⟨rfl, rfl, rfl, hos⟩
  · clear hm hn
    go_enter Tryd.func10, Tryd.ntmps10
    go_wp2_with fail
    with_reducible refine (HK.out _).mono ?_
    rintro e w' ⟨rfl, rfl⟩
    go_wp2_with fail
    go_ret2
    exact ⟨_, _, rfl, al_any _ _, HW.out _⟩
  · clear hm hn
    go_enter Tryd.func10, Tryd.ntmps10
    go_wp2_with fail
    with_reducible refine (HK.out _).mono ?_
    rintro e w' ⟨rfl, rfl⟩
    go_wp2_with fail
    go_ret2
    exact ⟨_, _, rfl, al_any _ _, HW.out _⟩
  · clear hm hn
    go_enter Tryd.func10, Tryd.ntmps10
    go_wp2_with fail
    with_reducible refine (HK.out _).mono ?_
    rintro e w' ⟨rfl, rfl⟩
    go_wp2_with fail
    go_ret2
    exact ⟨_, _, rfl, al_any _ _, HW.out _⟩
  · have hpos : (0 : Int) < (n : Int) := by
      have := List.length_pos_iff.2 hos
      omega
    clear hm hn hos
    go_enter Tryd.func10, Tryd.ntmps10
    go_wp2_with fail
    with_reducible refine (HK.out _).mono ?_
    rintro e w' ⟨rfl, rfl⟩
    go_wp2_with fail
    go_ret2
    exact ⟨_, _, rfl, al_any _ _, HW.out _⟩
set_option maxRecDepth 100000 in
set_option maxHeartbeats 4000000 in
theorem write_bare (cmd : Nat) (ad : Option Addr) (cap z : Nat) (w : World) (hk : known (cmd : Int) = true) (hw : writes (cmd : Int) = false) :
    Calls Tryd.prog 10 #[.agg #[.int .i64 (cmd : Int), .bool false, .bool false, .bool false, .slice ad 0 cap], .int .i64 (z : Int)] w fun e w' => ∃ v ev, e = .returned (.tuple #[v, ev]) ∧ Below w.heap.size w w' ∧ Wrote w w' ⟨(cmd : Int), false, false, false, []⟩ z v ev := by
  have HC := Lib.hid (cwrite_bare (x := ⟨(cmd : Int), false, false, false, []⟩) (z := z) hk hw (by rfl))
  have hlt : cmd < 256 := by
    simp [known, writes] at hk
    omega
  have ec : IntKind.u8.wrap (cmd : Int) = (cmd : Int) := by rw [show IntKind.u8.wrap (cmd : Int) = (cmd : Int) % 256 from rfl]; omega
  have HK := Lib.hid fun W => kind_any (cmd : Int) W
  rw [hk, hw] at HK
  have HA := Lib.hid (al_any w (.cells #[.int .i64 (cmd : Int), .bool false, .bool false, .bool false, .slice ad 0 cap] 26))
  have HN := Lib.hid (heap_alloc_new w (.cells #[.int .i64 (cmd : Int), .bool false, .bool false, .bool false, .slice ad 0 cap] 26))
  clear hk hw hlt
  go_enter Tryd.func10, Tryd.ntmps10
  go_upto_region 1 with (fail)
  generalize w.alloc (.cells #[.int .i64 (cmd : Int), .bool false, .bool false, .bool false, .slice ad 0 cap] 26) = w1 at *
  obtain ⟨c0, c1, c2, c3, c4⟩ := cells5w HN.out
  go_wp2_with fail
  with_reducible refine (HK.out _).mono ?_
  rintro e w' ⟨rfl, rfl⟩
  go_wp2_with fail
  go_ret2
  refine ⟨_, _, rfl, kept_alloc HA _, ?_⟩
  unfold Wrote
  rw [HC.out]
  rw [Int.toNat_natCast]
  exact .inl ⟨rfl, rfl, own_lit w1 w.heap.size [cmd] HA.out.size (by show 1 < 1000000; decide)⟩
/-- Write of whatever command. -/
theorem write_any (x : Cm) (ad : Option Addr) (n cap z : Nat) (w : World) (ho : OrdsIn w 0 (.slice ad n cap) x.os) (hs : Sound x.os) (hos : x.os.length ≤ 10000) (h1 : 1 ≤ z) (h2 : z ≤ 16383) :
    Calls Tryd.prog 10 #[.agg #[.int .i64 x.cmd, .bool x.a, .bool x.u, .bool x.r, .slice ad n cap], .int .i64 (z : Int)] w fun e w' => ∃ v ev, e = .returned (.tuple #[v, ev]) ∧ Below w.heap.size w w' ∧ Wrote w w' x z v ev := by
  cases hk : known x.cmd with
  | false => exact write_unknown x ad n cap z w hk
  | true =>
    obtain ⟨c, a, u, r, os⟩ := x
    simp only at hk ho hs hos ⊢
    cases hw : writes c with
    | true =>
      have hc : c = 241 ∨ c = 245 := by simp [writes] at hw; omega
      obtain ⟨m, rfl⟩ := Int.eq_ofNat_of_zero_le (a := c) (by omega)
      exact write_writes m (by omega) a u r ad n cap z os w ho hs hos h1 h2
    | false =>
      cases hm : (a || u || r || !os.isEmpty) with
      | true => exact write_more c a u r os ad n cap z w hk hw ho.len hm
      | false =>
        simp only [Bool.or_eq_false_iff, Bool.not_eq_false', List.isEmpty_iff] at hm
        obtain ⟨⟨⟨rfl, rfl⟩, rfl⟩, rfl⟩ := hm
        obtain rfl := ho.len
        have hc : 0 ≤ c := by simp [known, writes] at hk; omega
        obtain ⟨m, rfl⟩ := Int.eq_ofNat_of_zero_le hc
        exact write_bare m ad cap z w hk hw
end Str
end Go.Proofs.YtmllmmamdkjndaaDoor
