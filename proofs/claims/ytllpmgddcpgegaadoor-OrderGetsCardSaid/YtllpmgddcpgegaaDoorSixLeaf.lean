/- The functions of package six return what the plain functions say. -/
import Derived.Test.YtllpmgddcpgegaaDoorProg
import Derived.WalkKit
import Derived.LaidEql
import Derived.RowKitTokens
import Derived.Lib.Hide
import Derived.Below
import Derived.Test.YtllpmgddcpgegaaDoorSixSpec
import Derived.Deep.QuietTactic
import Derived.BigQuiet
import Derived.IntWalk
namespace Go.Proofs.YtllpmgddcpgegaaDoor
open Go.RowKit
namespace Six
theorem quiet_same {P : Program} {f : FuncId} {args : Array Value} {w : World} {n : Nat} {v : Value}
    (h : Calls P f args (w.drewN n) fun e w' => e = .returned v ∧ w.drewN n = w') : Calls P f args (w.drewN n) fun e w'' => e = .returned v ∧ ∃ m, w'' = w.drewN m :=
  h.mono fun _ _ ⟨he, hm⟩ => ⟨he, n, hm.symm⟩
theorem below_drewN (B m : Nat) (w : World) : Below B w (w.drewN m) := by
  induction m with
  | zero => exact Below.refl _ _
  | succ m ih => exact ih.drew
theorem ret_i64 {a b : Int} (h : a = b) : Ending.returned (.int .i64 a) = .returned (.int .i64 b) := by rw [h]
theorem ret_put {a b : Int} (h : a = b) : Ending.returned (.tuple #[.int .u8 a, .nilIface]) = .returned (.tuple #[.int .u8 b, .nilIface]) := by rw [h]
theorem ofInt_8 (a : Nat) (ha : a < 256) : (BitVec.ofInt 8 (a : Int)).toNat = a := by
  rw [BitVec.ofInt_natCast, BitVec.toNat_ofNat]; exact Nat.mod_eq_of_lt (by omega)
theorem u8_or_nat (a b : Nat) (ha : a < 256) (hb : b < 256) : bits .or .u8 (a : Int) (b : Int) = ((a ||| b : Nat) : Int) := by
  have hx : a ||| b < 2 ^ 8 := Nat.or_lt_two_pow ha hb
  show IntKind.u8.wrap ((BitVec.ofInt 8 (a : Int) ||| BitVec.ofInt 8 (b : Int)).toNat : Int) = _
  rw [BitVec.toNat_or, ofInt_8 a ha, ofInt_8 b hb, IntWalk.u8_in]
  omega
theorem u8_and_nat (a b : Nat) (ha : a < 256) (hb : b < 256) : bits .and .u8 (a : Int) (b : Int) = ((a &&& b : Nat) : Int) := by
  have hx : a &&& b ≤ a := Nat.and_le_left
  show IntKind.u8.wrap ((BitVec.ofInt 8 (a : Int) &&& BitVec.ofInt 8 (b : Int)).toNat : Int) = _
  rw [BitVec.toNat_and, ofInt_8 a ha, ofInt_8 b hb, IntWalk.u8_in]
  omega
theorem put_bits (n : Nat) (hn : n < 64) : bits .or .u8 ((value (digits (2 * n)) : Int) * 16 % 256) (value (digits (2 * n + 1)) : Int) = (put n : Int) := by
  have h0 := value_lt (2 * n) (by omega)
  have h1 := value_lt (2 * n + 1) (by omega)
  have h2 := put_or n hn
  rw [show ((value (digits (2 * n)) : Int) * 16 % 256) = ((value (digits (2 * n)) * 16 : Nat) : Int) by omega, u8_or_nat _ _ (by omega) (by omega), h2]
theorem ret_u8 {a b : Int} (h : a = b) : Ending.returned (.int .u8 a) = .returned (.int .u8 b) := by rw [h]
theorem value_any (i : Nat) (w : World) (hi : i < 128) :
    Calls Tryd.prog 63 #[.int .u8 (digits i : Nat)] w fun e w' => e = .returned (.int .u8 (value (digits i) : Nat)) ∧ w = w' := by
  rcases digits_hex i hi with ⟨h1, h2⟩ | ⟨h1, h2⟩
  · have hv := Lib.hid (show ((digits i : Nat) : Int) - 48 = (value (digits i) : Nat) by unfold value; rw [if_neg (by omega)]; omega)
    generalize digits i = c at *
    go_enter Tryd.func63, Tryd.ntmps63
    go_wp2
    go_ret
    exact ⟨ret_u8 hv.out, rfl⟩
  · have hv := Lib.hid (show ((digits i : Nat) : Int) - 87 = (value (digits i) : Nat) by unfold value; rw [if_pos (by omega)]; omega)
    generalize digits i = c at *
    go_enter Tryd.func63, Tryd.ntmps63
    go_wp2
    go_ret
    exact ⟨ret_u8 (by rw [← hv.out]; omega), rfl⟩
/-- The text of all graphic bytes. -/
def text : ByteArray := { data := ((52 :: 48 :: 99 :: 49 :: 99 :: 50 :: 99 :: 51 :: 99 :: 52 :: 99 :: 53 :: 99 :: 54 :: 99 :: 55 :: 99 :: 56 :: 99 :: 57 :: 52 :: 97 :: 52 :: 98 :: 52 :: 99 :: 52 :: 100 :: 52 :: 101 :: 52 :: 102 :: 53 :: 48 :: 100 :: 49 :: 100 :: 50 :: 100 :: 51 :: 100 :: 52 :: 100 :: 53 :: 100 :: 54 :: 100 :: 55 :: 100 :: 56 :: 100 :: 57 :: 53 :: 97 :: 53 :: 98 :: 53 :: 99 :: 53 :: 100 :: 53 :: 101 :: 53 :: 102 :: []).append (54 :: 48 :: 54 :: 49 :: 101 :: 50 :: 101 :: 51 :: 101 :: 52 :: 101 :: 53 :: 101 :: 54 :: 101 :: 55 :: 101 :: 56 :: 101 :: 57 :: 54 :: 97 :: 54 :: 98 :: 54 :: 99 :: 54 :: 100 :: 54 :: 101 :: 54 :: 102 :: 102 :: 48 :: 102 :: 49 :: 102 :: 50 :: 102 :: 51 :: 102 :: 52 :: 102 :: 53 :: 102 :: 54 :: 102 :: 55 :: 102 :: 56 :: 102 :: 57 :: 55 :: 97 :: 55 :: 98 :: 55 :: 99 :: 55 :: 100 :: 55 :: 101 :: 55 :: 102 :: [])).toArray }
theorem text_def : Hid ({ data := ((52 :: 48 :: 99 :: 49 :: 99 :: 50 :: 99 :: 51 :: 99 :: 52 :: 99 :: 53 :: 99 :: 54 :: 99 :: 55 :: 99 :: 56 :: 99 :: 57 :: 52 :: 97 :: 52 :: 98 :: 52 :: 99 :: 52 :: 100 :: 52 :: 101 :: 52 :: 102 :: 53 :: 48 :: 100 :: 49 :: 100 :: 50 :: 100 :: 51 :: 100 :: 52 :: 100 :: 53 :: 100 :: 54 :: 100 :: 55 :: 100 :: 56 :: 100 :: 57 :: 53 :: 97 :: 53 :: 98 :: 53 :: 99 :: 53 :: 100 :: 53 :: 101 :: 53 :: 102 :: []).append (54 :: 48 :: 54 :: 49 :: 101 :: 50 :: 101 :: 51 :: 101 :: 52 :: 101 :: 53 :: 101 :: 54 :: 101 :: 55 :: 101 :: 56 :: 101 :: 57 :: 54 :: 97 :: 54 :: 98 :: 54 :: 99 :: 54 :: 100 :: 54 :: 101 :: 54 :: 102 :: 102 :: 48 :: 102 :: 49 :: 102 :: 50 :: 102 :: 51 :: 102 :: 52 :: 102 :: 53 :: 102 :: 54 :: 102 :: 55 :: 102 :: 56 :: 102 :: 57 :: 55 :: 97 :: 55 :: 98 :: 55 :: 99 :: 55 :: 100 :: 55 :: 101 :: 55 :: 102 :: [])).toArray } = text) := rfl
theorem text_size : text.size = 128 := by decide +kernel
theorem text_get : ∀ i, (h : i < text.size) → text[i].toNat = digits i := by decide +kernel
theorem index_text (i : Nat) (hi : i < 128) (W : World) :
    (Instr.index 9 (.string text) (.int .i64 (i : Int))).run Tryd.prog W = .ok (.int .u8 (digits i : Nat)) W := by
  have hz := text_size
  have hg := text_get i (by omega)
  simp [Instr.index, asIntOf, run_underlying Tryd.underlying9]
  rw [show text[i]? = some text[i] from getElem?_pos text i (by omega)]
  exact congrArg (fun x : Nat => Result.ok (Value.int .u8 (x : Int)) W) hg
set_option maxHeartbeats 1000000 in
theorem put_any (n : Nat) (w : World) (hn : n < 64) :
    Calls Tryd.prog 47 #[.int .i64 (n : Int)] w fun e w' => e = .returned (.tuple #[.int .u8 (put n : Nat), .nilIface]) ∧ ∃ m, w' = w.drewN m := by
  go_enter Tryd.func47, Tryd.ntmps47
  go_wp2_with fail
  have q0 : IntKind.i64.wrap (2 * (n : Int)) = 2 * (n : Int) := by rw [IntWalk.i64_in] <;> omega
  have q1 : IntKind.i64.wrap (2 * (n : Int) + 1) = 2 * (n : Int) + 1 := by rw [IntWalk.i64_in] <;> omega
  have x0 := index_text (2 * n) (by omega)
  have x1 := index_text (2 * n + 1) (by omega)
  rw [show ((2 * n : Nat) : Int) = 2 * (n : Int) by omega] at x0
  rw [show ((2 * n + 1 : Nat) : Int) = 2 * (n : Int) + 1 by omega] at x1
  rw [text_def.out]
  go_quiet ((go_at_call 63; refine quiet_same (value_any _ _ ?_); omega))
  clear x0 x1 q0 q1
  go_wp2
  go_ret2
  exact ⟨ret_put (put_bits n hn), nq, rfl⟩
theorem put_less (n : Int) (w : World) (h : n < 0) :
    Calls Tryd.prog 47 #[.int .i64 n] w fun e w' => e = .returned (.tuple #[.int .u8 0, .iface 57 (.int .i64 1)]) ∧ w = w' := by
  go_enter Tryd.func47, Tryd.ntmps47
  go_wp2
  go_ret2
  exact ⟨rfl, rfl⟩
theorem put_more (n : Int) (w : World) (h : 64 ≤ n) :
    Calls Tryd.prog 47 #[.int .i64 n] w fun e w' => e = .returned (.tuple #[.int .u8 0, .iface 57 (.int .i64 1)]) ∧ w = w' := by
  have h0 : ¬ n < 0 := by omega
  go_enter Tryd.func47, Tryd.ntmps47
  go_wp2
  go_ret2
  exact ⟨rfl, rfl⟩
theorem low_any (b : Nat) (w : World) (hb : b < 256) :
    Calls Tryd.prog 71 #[.int .u8 (b : Int)] w fun e w' => e = .returned (.int .i64 (b % 64 : Nat)) ∧ w = w' := by
  go_enter Tryd.func71, Tryd.ntmps71
  go_wp2
  go_ret
  exact ⟨ret_i64 (by omega), rfl⟩
end Six
end Go.Proofs.YtllpmgddcpgegaaDoor
