/- SixPut, AttrChar, AttrLeaf in one text (by tools/bundle.py). -/
import Derived.Test.YtilabepmmebkcaaDoorProg
import Derived.Test.YtilabepmmebkcaaDoorBunBase
import Derived.WalkKit
import Derived.LaidEql
import Derived.RowKitTokens
import Derived.Lib.Hide
import Derived.Below
import Derived.Deep.QuietTactic
import Derived.BigQuiet
import Derived.IntWalk
import Derived.Test.YtilabepmmebkcaaDoorBunPlain
import Derived.Laws.ResultCell
import Derived.OwnWalk
import Derived.Laws.Rows
/- Put of package six returns what the plain functions say. -/
namespace Go.Proofs.YtilabepmmebkcaaDoor
open Go.RowKit
namespace Six
theorem value_any (i : Nat) (w : World) (hi : i < 128) :
    Calls Tryd.prog 39 #[.int .u8 (digits i : Nat)] w fun e w' => e = .returned (.int .u8 (value (digits i) : Nat)) ∧ w = w' := by
  rcases digits_hex i hi with ⟨h1, h2⟩ | ⟨h1, h2⟩
  · have hv := Lib.hid (show ((digits i : Nat) : Int) - 48 = (value (digits i) : Nat) by unfold value; rw [if_neg (by omega)]; omega)
    generalize digits i = c at *
    go_enter Tryd.func39, Tryd.ntmps39
    go_wp2
    go_ret
    exact ⟨ret_u8 hv.out, rfl⟩
  · have hv := Lib.hid (show ((digits i : Nat) : Int) - 87 = (value (digits i) : Nat) by unfold value; rw [if_pos (by omega)]; omega)
    generalize digits i = c at *
    go_enter Tryd.func39, Tryd.ntmps39
    go_wp2
    go_ret
    exact ⟨ret_u8 (by rw [← hv.out]; omega), rfl⟩
/-- The text of all graphic bytes. -/
def text : ByteArray := { data := ((52 :: 48 :: 99 :: 49 :: 99 :: 50 :: 99 :: 51 :: 99 :: 52 :: 99 :: 53 :: 99 :: 54 :: 99 :: 55 :: 99 :: 56 :: 99 :: 57 :: 52 :: 97 :: 52 :: 98 :: 52 :: 99 :: 52 :: 100 :: 52 :: 101 :: 52 :: 102 :: 53 :: 48 :: 100 :: 49 :: 100 :: 50 :: 100 :: 51 :: 100 :: 52 :: 100 :: 53 :: 100 :: 54 :: 100 :: 55 :: 100 :: 56 :: 100 :: 57 :: 53 :: 97 :: 53 :: 98 :: 53 :: 99 :: 53 :: 100 :: 53 :: 101 :: 53 :: 102 :: []).append (54 :: 48 :: 54 :: 49 :: 101 :: 50 :: 101 :: 51 :: 101 :: 52 :: 101 :: 53 :: 101 :: 54 :: 101 :: 55 :: 101 :: 56 :: 101 :: 57 :: 54 :: 97 :: 54 :: 98 :: 54 :: 99 :: 54 :: 100 :: 54 :: 101 :: 54 :: 102 :: 102 :: 48 :: 102 :: 49 :: 102 :: 50 :: 102 :: 51 :: 102 :: 52 :: 102 :: 53 :: 102 :: 54 :: 102 :: 55 :: 102 :: 56 :: 102 :: 57 :: 55 :: 97 :: 55 :: 98 :: 55 :: 99 :: 55 :: 100 :: 55 :: 101 :: 55 :: 102 :: [])).toArray }
theorem text_def : Hid ({ data := ((52 :: 48 :: 99 :: 49 :: 99 :: 50 :: 99 :: 51 :: 99 :: 52 :: 99 :: 53 :: 99 :: 54 :: 99 :: 55 :: 99 :: 56 :: 99 :: 57 :: 52 :: 97 :: 52 :: 98 :: 52 :: 99 :: 52 :: 100 :: 52 :: 101 :: 52 :: 102 :: 53 :: 48 :: 100 :: 49 :: 100 :: 50 :: 100 :: 51 :: 100 :: 52 :: 100 :: 53 :: 100 :: 54 :: 100 :: 55 :: 100 :: 56 :: 100 :: 57 :: 53 :: 97 :: 53 :: 98 :: 53 :: 99 :: 53 :: 100 :: 53 :: 101 :: 53 :: 102 :: []).append (54 :: 48 :: 54 :: 49 :: 101 :: 50 :: 101 :: 51 :: 101 :: 52 :: 101 :: 53 :: 101 :: 54 :: 101 :: 55 :: 101 :: 56 :: 101 :: 57 :: 54 :: 97 :: 54 :: 98 :: 54 :: 99 :: 54 :: 100 :: 54 :: 101 :: 54 :: 102 :: 102 :: 48 :: 102 :: 49 :: 102 :: 50 :: 102 :: 51 :: 102 :: 52 :: 102 :: 53 :: 102 :: 54 :: 102 :: 55 :: 102 :: 56 :: 102 :: 57 :: 55 :: 97 :: 55 :: 98 :: 55 :: 99 :: 55 :: 100 :: 55 :: 101 :: 55 :: 102 :: [])).toArray } = text) := rfl
theorem text_size : text.size = 128 := by decide +kernel
theorem text_get : ∀ i, (h : i < text.size) → text[i].toNat = digits i := by decide +kernel
theorem index_text (i : Nat) (hi : i < 128) (W : World) :
    (Instr.index 9 (.string text) (.int .i64 (i : Int))).run Tryd.prog W = .ok (.int .u8 (digits i : Nat)) W := by
  have hz := text_size
  have hg := text_get i (by omega)
  simp [Instr.index, asIntOf, run_underlying Tryd.underlying9]
  rw [show text[i]? = some text[i] from getElem?_pos text i (by omega)]
  exact congrArg (fun x : Nat => Result.ok (Value.int .u8 (x : Int)) W) hg
set_option maxHeartbeats 1000000 in
theorem put_any (n : Nat) (w : World) (hn : n < 64) :
    Calls Tryd.prog 38 #[.int .i64 (n : Int)] w fun e w' => e = .returned (.tuple #[.int .u8 (put n : Nat), .nilIface]) ∧ ∃ m, w' = w.drewN m := by
  go_enter Tryd.func38, Tryd.ntmps38
  go_wp2_with fail
  have q0 : IntKind.i64.wrap (2 * (n : Int)) = 2 * (n : Int) := by rw [IntWalk.i64_in] <;> omega
  have q1 : IntKind.i64.wrap (2 * (n : Int) + 1) = 2 * (n : Int) + 1 := by rw [IntWalk.i64_in] <;> omega
  have x0 := index_text (2 * n) (by omega)
  have x1 := index_text (2 * n + 1) (by omega)
  rw [show ((2 * n : Nat) : Int) = 2 * (n : Int) by omega] at x0
  rw [show ((2 * n + 1 : Nat) : Int) = 2 * (n : Int) + 1 by omega] at x1
  rw [text_def.out]
  go_quiet ((go_at_call 39; refine quiet_same (value_any _ _ ?_); omega))
  clear x0 x1 q0 q1
  go_wp2
  go_ret2
  exact ⟨ret_put (put_bits n hn), nq, rfl⟩
theorem put_less (n : Int) (w : World) (h : n < 0) :
    Calls Tryd.prog 38 #[.int .i64 n] w fun e w' => e = .returned (.tuple #[.int .u8 0, .iface 42 (.int .i64 1)]) ∧ w = w' := by
  go_enter Tryd.func38, Tryd.ntmps38
  go_wp2
  go_ret2
  exact ⟨rfl, rfl⟩
theorem put_more (n : Int) (w : World) (h : 64 ≤ n) :
    Calls Tryd.prog 38 #[.int .i64 n] w fun e w' => e = .returned (.tuple #[.int .u8 0, .iface 42 (.int .i64 1)]) ∧ w = w' := by
  have h0 : ¬ n < 0 := by omega
  go_enter Tryd.func38, Tryd.ntmps38
  go_wp2
  go_ret2
  exact ⟨rfl, rfl⟩
end Six
end Go.Proofs.YtilabepmmebkcaaDoor
/- Char of package attr. -/
namespace Go.Proofs.YtilabepmmebkcaaDoor
open Go.RowKit Six
namespace Att
theorem ret_bool {a b : Bool} (h : a = b) : Ending.returned (.bool a) = .returned (.bool b) := by rw [h]
theorem char_any (b : Nat) (w : World) (hb : b < 256) :
    Calls Tryd.prog 33 #[.int .u8 (b : Int)] w fun e w' => e = .returned (.bool (char b)) ∧ w = w' := by
  by_cases h0 : b = 0
  · subst h0
    go_enter Tryd.func33, Tryd.ntmps33
    go_wp2
    go_ret
    exact ⟨rfl, rfl⟩
  by_cases h1 : b = 28
  · subst h1
    go_enter Tryd.func33, Tryd.ntmps33
    go_wp2
    go_ret
    exact ⟨rfl, rfl⟩
  by_cases h2 : b = 30
  · subst h2
    go_enter Tryd.func33, Tryd.ntmps33
    go_wp2
    go_ret
    exact ⟨rfl, rfl⟩
  have k0 : ((b : Int) == 0) = false := by simp; omega
  have k1 : ((b : Int) == 28) = false := by simp; omega
  have k2 : ((b : Int) == 30) = false := by simp; omega
  have hc : char b = (decide (64 ≤ b) && decide (b ≤ 254)) := by unfold char; simp [h0, h1, h2]
  rw [hc]
  clear hc h0 h1 h2
  by_cases h3 : 64 ≤ b
  · by_cases h4 : b ≤ 254
    · go_enter Tryd.func33, Tryd.ntmps33
      go_wp2
      go_ret
      exact ⟨ret_bool (by simp [h3, h4]; omega), rfl⟩
    · go_enter Tryd.func33, Tryd.ntmps33
      go_wp2
      go_ret
      exact ⟨ret_bool (by simp [h4]; try omega), rfl⟩
  · go_enter Tryd.func33, Tryd.ntmps33
    go_wp2
    go_ret
    exact ⟨ret_bool (by simp; try omega), rfl⟩
end Att
end Go.Proofs.YtilabepmmebkcaaDoor
/- The functions of package attr return what the plain functions say. -/
namespace Go.Proofs.YtilabepmmebkcaaDoor
open Go.RowKit Six Err
namespace Att
theorem puti (n : Int) (w : World) (h0 : 0 ≤ n) (h : n < 64) :
    Calls Tryd.prog 38 #[.int .i64 n] w fun e w' => e = .returned (.tuple #[.int .u8 (put n.toNat : Nat), .nilIface]) ∧ ∃ m, w' = w.drewN m := by
  obtain ⟨k, rfl⟩ := Int.eq_ofNat_of_zero_le h0
  rw [Int.toNat_natCast]
  exact put_any k w (by omega)
theorem part_yes (n : Int) (w : World) :
    Calls Tryd.prog 37 #[.bool true, .int .i64 n] w fun e w' => e = .returned (.int .i64 n) ∧ w = w' := by
  go_enter Tryd.func37, Tryd.ntmps37
  go_wp2
  go_ret
  exact ⟨rfl, rfl⟩
theorem part_no (n : Int) (w : World) :
    Calls Tryd.prog 37 #[.bool false, .int .i64 n] w fun e w' => e = .returned (.int .i64 0) ∧ w = w' := by
  go_enter Tryd.func37, Tryd.ntmps37
  go_wp2
  go_ret
  exact ⟨rfl, rfl⟩
theorem ret_put8 {a b : Nat} (h : a = b) : Ending.returned (.tuple #[.int .u8 (put a : Nat), .nilIface]) = .returned (.tuple #[.int .u8 (put b : Nat), .nilIface]) := by rw [h]
set_option maxHeartbeats 4000000 in
theorem put_ok (p n m : Bool) (s : Nat) (w : World) (hs : s < 4) :
    Calls Tryd.prog 32 #[.agg #[.bool p, .bool n, .int .i64 (s : Int), .bool m]] w fun e w' => e = .returned (.tuple #[.int .u8 (put (num p n m s) : Nat), .nilIface]) ∧ Below w.heap.size w w' := by
  cases p <;> cases n <;> cases m
  all_goals
    go_enter Tryd.func32, Tryd.ntmps32
    go_wp2
    go_quiet (first | (go_at_call 37; with_reducible exact quiet_same (part_yes _ _)) | (go_at_call 37; with_reducible exact quiet_same (part_no _ _)))
    go_wp2_with fail
    refine (puti _ _ (by omega) (by omega)).mono ?_
    rintro e w1 ⟨rfl, k, rfl⟩
    go_wp2_with fail
    go_ret2
    exact ⟨ret_put8 (by unfold num bit; simp; omega), ((Below.refl _ _).alloc (Nat.le_refl _) _).trans (below_drewN _ _ _)⟩
theorem put_bad (p n m : Bool) (s : Int) (w : World) (hs : s < 0 ∨ 4 ≤ s) :
    Calls Tryd.prog 32 #[.agg #[.bool p, .bool n, .int .i64 s, .bool m]] w fun e w' => e = .returned (.tuple #[.int .u8 0, .iface 42 (.int .i64 1)]) ∧ Below w.heap.size w w' := by
  rcases hs with h | h
  · go_enter Tryd.func32, Tryd.ntmps32
    go_wp2
    go_ret2
    exact ⟨rfl, (Below.refl _ _).alloc (Nat.le_refl _) _⟩
  · have h0 : ¬ s < 0 := by omega
    go_enter Tryd.func32, Tryd.ntmps32
    go_wp2
    go_ret2
    exact ⟨rfl, (Below.refl _ _).alloc (Nat.le_refl _) _⟩
theorem ret_p8 {a b : Nat} (h : a = b) : Ending.returned (.int .u8 (put a : Nat)) = .returned (.int .u8 (put b : Nat)) := by rw [h]
end Att
end Go.Proofs.YtilabepmmebkcaaDoor
