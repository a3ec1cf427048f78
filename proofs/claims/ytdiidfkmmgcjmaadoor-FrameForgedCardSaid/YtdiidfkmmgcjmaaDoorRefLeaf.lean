/- The small functions of the document's answer (shutterref01) return what the plain functions say. -/
import Derived.Test.YtdiidfkmmgcjmaaDoorShaInv
import Derived.Test.YtdiidfkmmgcjmaaDoorBunBase
namespace Go.Proofs.YtdiidfkmmgcjmaaDoor
open Go.RowKit
namespace Sha
theorem ofInt_64 (a : Nat) (ha : a < 9223372036854775808) : (BitVec.ofInt 64 (a : Int)).toNat = a := by
  rw [BitVec.ofInt_natCast, BitVec.toNat_ofNat]; exact Nat.mod_eq_of_lt (by omega)
theorem i64_and_nat (a b : Nat) (ha : a < 9223372036854775808) (hb : b < 9223372036854775808) : bits .and .i64 (a : Int) (b : Int) = ((a &&& b : Nat) : Int) := by
  have hx : a &&& b < 2 ^ 63 := Nat.and_lt_two_pow _ hb
  show IntKind.i64.wrap ((BitVec.ofInt 64 (a : Int) &&& BitVec.ofInt 64 (b : Int)).toNat : Int) = _
  rw [BitVec.toNat_and, ofInt_64 a ha, ofInt_64 b hb, IntWalk.i64_in]
  omega
theorem i64_or_nat (a b : Nat) (ha : a < 9223372036854775808) (hb : b < 9223372036854775808) : bits .or .i64 (a : Int) (b : Int) = ((a ||| b : Nat) : Int) := by
  have hx : a ||| b < 2 ^ 63 := Nat.or_lt_two_pow ha hb
  show IntKind.i64.wrap ((BitVec.ofInt 64 (a : Int) ||| BitVec.ofInt 64 (b : Int)).toNat : Int) = _
  rw [BitVec.toNat_or, ofInt_64 a ha, ofInt_64 b hb, IntWalk.i64_in]
  omega
theorem i64_xor_nat (a b : Nat) (ha : a < 9223372036854775808) (hb : b < 9223372036854775808) : bits .xor .i64 (a : Int) (b : Int) = ((a ^^^ b : Nat) : Int) := by
  have hx : a ^^^ b < 2 ^ 63 := Nat.xor_lt_two_pow ha hb
  show IntKind.i64.wrap ((BitVec.ofInt 64 (a : Int) ^^^ BitVec.ofInt 64 (b : Int)).toNat : Int) = _
  rw [BitVec.toNat_xor, ofInt_64 a ha, ofInt_64 b hb, IntWalk.i64_in]
  omega
theorem rotr_masked (x n : Nat) (hx : x < 4294967296) : ((x / 2 ^ n) ||| (x * 2 ^ (32 - n))) &&& 4294967295 = rotr x n := by
  have e : (4294967295 : Nat) = 2 ^ 32 - 1 := rfl
  rw [e, Nat.and_two_pow_sub_one_eq_mod, Nat.or_mod_two_pow, Nat.mod_eq_of_lt (show x / 2 ^ n < 2 ^ 32 from Nat.lt_of_le_of_lt (Nat.div_le_self _ _) hx)]
  rfl
theorem ret_i64 {a b : Int} (h : a = b) : Ending.returned (.int .i64 a) = .returned (.int .i64 b) := by rw [h]
set_option maxHeartbeats 400000 in
theorem turn_any (x : Nat) (n : Int) (w : World) (hx : x < 4294967296) (h0 : 2 ≤ n) (h1 : n ≤ 31) :
    Calls Tryd.prog 50 #[.int .i64 x, .int .i64 n] w fun e w' => e = .returned (.int .i64 ((rotr x n.toNat : Nat) : Int)) ∧ w = w' := by
  obtain ⟨n, rfl⟩ := Int.eq_ofNat_of_zero_le (show 0 ≤ n by omega)
  have hb : x * 2 ^ (32 - n) < 9223372036854775808 := by
    have : 2 ^ (32 - n) ≤ 2 ^ 30 := Nat.pow_le_pow_right (by decide) (by omega)
    calc x * 2 ^ (32 - n) ≤ x * 2 ^ 30 := Nat.mul_le_mul_left _ this
      _ < 9223372036854775808 := by omega
  have hd : x / 2 ^ n < 4294967296 := Nat.lt_of_le_of_lt (Nat.div_le_self _ _) hx
  have E : bits .and .i64 (bits .or .i64 ((x : Int) / 2 ^ n) (wrap64 ((x : Int) * 2 ^ (32 - n)))) 4294967295 = ((rotr x n : Nat) : Int) := by
    rw [← rotr_masked x n hx]
    have e1 : ((x : Int) / 2 ^ n) = ((x / 2 ^ n : Nat) : Int) := by simp
    have e2 : ((x : Int) * 2 ^ (32 - n)) = ((x * 2 ^ (32 - n) : Nat) : Int) := by simp
    have e3 : wrap64 ((x * 2 ^ (32 - n) : Nat) : Int) = ((x * 2 ^ (32 - n) : Nat) : Int) := by
      generalize x * 2 ^ (32 - n) = y at hb
      unfold wrap64; omega
    rw [e1, e2, e3, i64_or_nat _ _ (by omega) hb]
    exact i64_and_nat _ 4294967295 (Nat.or_lt_two_pow (n := 63) (by omega) hb) (by decide)
  have H := Lib.hid E
  clear E hb hd
  go_enter Tryd.func50, Tryd.ntmps50
  go_wp2_with fail
  go_ret
  exact ⟨ret_i64 H.out, rfl⟩
set_option maxHeartbeats 400000 in
theorem both_any (x y : Nat) (w : World) (hx : x < 4294967296) (hy : y < 4294967296) :
    Calls Tryd.prog 51 #[.int .i64 x, .int .i64 y] w fun e w' => e = .returned (.int .i64 ((x &&& y : Nat) : Int)) ∧ w = w' := by
  have H := Lib.hid (i64_and_nat x y (by omega) (by omega))
  go_enter Tryd.func51, Tryd.ntmps51
  go_wp2_with fail
  go_ret
  exact ⟨ret_i64 H.out, rfl⟩

/-- A text's word, without going round. -/
def rdval (d : Nat) : Nat := if 97 ≤ d then d - 87 else d - 48
def rword (t : List UInt8) (n k : Nat) : Nat := ((t.drop (8 * n)).take k).foldl (fun a d => 16 * a + rdval d.toNat) 0
theorem rword_snoc (t : List UInt8) (n k : Nat) (h : 8 * n + k < t.length) : rword t n (k + 1) = 16 * rword t n k + rdval (t.getD (8 * n + k) 0).toNat := by
  unfold rword
  have hl : k < (t.drop (8 * n)).length := by simp; omega
  rw [List.take_succ_eq_append_getElem hl, List.foldl_append]
  simp [List.getD_eq_getElem?_getD, h]
def Digits (t : List UInt8) : Prop := ∀ d ∈ t, 48 ≤ d.toNat ∧ d.toNat ≤ 102 ∧ (d.toNat ≤ 57 ∨ 97 ≤ d.toNat)
theorem rdval_lt {d : Nat} (h1 : 48 ≤ d) (h2 : d ≤ 102) (h3 : d ≤ 57 ∨ 97 ≤ d) : rdval d < 16 := by unfold rdval; split <;> omega
theorem rword_lt (t : List UInt8) (n : Nat) (hd : Digits t) : ∀ k, 8 * n + k ≤ t.length → rword t n k < 16 ^ k
  | 0, _ => by simp [rword]
  | k + 1, h => by
    rw [rword_snoc t n k (by omega)]
    have ih := rword_lt t n hd k (by omega)
    have hl : 8 * n + k < t.length := by omega
    have hm : t.getD (8 * n + k) 0 ∈ t := by rw [List.getD_eq_getElem?_getD, List.getElem?_eq_getElem hl]; exact List.getElem_mem hl
    obtain ⟨h1, h2, h3⟩ := hd _ hm
    have := rdval_lt h1 h2 h3
    rw [Nat.pow_succ]; omega
theorem rword_small (t : List UInt8) (n : Nat) (hd : Digits t) (k : Nat) (hk : k ≤ 8) (h : 8 * n + k ≤ t.length) : rword t n k < 4294967296 :=
  Nat.lt_of_lt_of_le (rword_lt t n hd k h) (Nat.le_trans (Nat.pow_le_pow_right (by decide) hk) (by decide))
theorem byte_getD (s : ByteArray) (i : Nat) (h : i < s.size) : s.data.toList.getD i 0 = s[i] := by
  have h' : i < s.data.toList.length := by simpa using h
  rw [List.getD_eq_getElem?_getD, List.getElem?_eq_getElem h']; rfl
set_option maxRecDepth 100000 in
set_option maxHeartbeats 1000000 in
theorem rword_any (s : ByteArray) (n : Nat) (w : World) (h : 8 * n + 8 ≤ s.size) (hs : s.size ≤ 10000) (hd : Digits s.data.toList) :
    Calls Tryd.prog 44 #[.string s, .int .i64 n] w fun e w' => e = .returned (.int .i64 ((rword s.data.toList n 8 : Nat) : Int)) ∧ w = w' := by
  have hsl : s.data.toList.length = s.size := by simp
  have HD := Lib.hid hd
  have HSL := Lib.hid hsl
  clear hd hsl
  go_enter Tryd.func44, Tryd.ntmps44
  go_wp2_with fail
  go_loop [5, 6] (fun a i => ∃ k : Nat, k ≤ 8 ∧ i = .int .i64 (8 * (n : Int) + (k : Int)) ∧ a = .int .i64 ((rword s.data.toList n k : Nat) : Int)) (fun _ i => (8 * n + 8 : Int).toNat - (intOf i).toNat)
  case atStart => exact ⟨0, Nat.zero_le _, by simp, by simp [rword]⟩
  case round =>
    obtain ⟨k, hk, rfl, rfl⟩ := hrel
    by_cases hlt : k < 8
    · have HS := Lib.hid (rword_snoc s.data.toList n k (by rw [HSL.out]; omega))
      have hb := rword_small s.data.toList n HD.out k (by omega) (by rw [HSL.out]; omega)
      have hdk : 8 * n + k < s.size := by omega
      have hm : s.data.toList.getD (8 * n + k) 0 ∈ s.data.toList := by rw [List.getD_eq_getElem?_getD, List.getElem?_eq_getElem (by rw [HSL.out]; exact hdk)]; exact List.getElem_mem _
      obtain ⟨d1, d2, d3⟩ := HD.out _ hm
      rw [byte_getD s _ hdk] at HS d1 d2
      generalize rword s.data.toList n k = a at HS hb
      clear hm d3
      go_wp2_with fail
      all_goals
        go_round
        case rel =>
          refine ⟨k + 1, by omega, by go_num, ?_⟩
          rw [HS.out]
          congr 1
          unfold rdval
          split <;> omega
        case measure => simp [intOf]; omega
    · have e : k = 8 := by omega
      have HE := Lib.hid (show rword s.data.toList n k = rword s.data.toList n 8 by rw [e])
      have hge : 8 ≤ k := by omega
      clear hlt e
      go_wp2_with fail
      go_ret
      exact ⟨ret_i64 (by rw [HE.out]), rfl⟩
end Sha
end Go.Proofs.YtdiidfkmmgcjmaaDoor
