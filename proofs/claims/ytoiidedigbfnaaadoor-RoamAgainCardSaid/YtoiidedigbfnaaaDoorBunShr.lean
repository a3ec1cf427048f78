/- RefLeaf, ShaRow, RefFill, RefWords, RefBlock, ShaRw2, RefOf, RefCode, RefTag in one text (by tools/bundle.py). -/
import Derived.Test.YtoiidedigbfnaaaDoorBunShp
import Derived.Test.YtoiidedigbfnaaaDoorBunBase
import Derived.Deep.Cut
import Derived.Deep.RegionHeld3
import Derived.Deep.DrawnRows
import Derived.StillTailTactics
import Derived.Deep.AppendLies
import Derived.Deep.RegionLaw
/- The small functions of the document's answer (shutterref01) return what the plain functions say. -/
namespace Go.Proofs.YtoiidedigbfnaaaDoor
open Go.RowKit
namespace Sha
theorem ofInt_64 (a : Nat) (ha : a < 9223372036854775808) : (BitVec.ofInt 64 (a : Int)).toNat = a := by
  rw [BitVec.ofInt_natCast, BitVec.toNat_ofNat]; exact Nat.mod_eq_of_lt (by omega)
theorem i64_and_nat (a b : Nat) (ha : a < 9223372036854775808) (hb : b < 9223372036854775808) : bits .and .i64 (a : Int) (b : Int) = ((a &&& b : Nat) : Int) := by
  have hx : a &&& b < 2 ^ 63 := Nat.and_lt_two_pow _ hb
  show IntKind.i64.wrap ((BitVec.ofInt 64 (a : Int) &&& BitVec.ofInt 64 (b : Int)).toNat : Int) = _
  rw [BitVec.toNat_and, ofInt_64 a ha, ofInt_64 b hb, IntWalk.i64_in]
  omega
theorem i64_or_nat (a b : Nat) (ha : a < 9223372036854775808) (hb : b < 9223372036854775808) : bits .or .i64 (a : Int) (b : Int) = ((a ||| b : Nat) : Int) := by
  have hx : a ||| b < 2 ^ 63 := Nat.or_lt_two_pow ha hb
  show IntKind.i64.wrap ((BitVec.ofInt 64 (a : Int) ||| BitVec.ofInt 64 (b : Int)).toNat : Int) = _
  rw [BitVec.toNat_or, ofInt_64 a ha, ofInt_64 b hb, IntWalk.i64_in]
  omega
theorem i64_xor_nat (a b : Nat) (ha : a < 9223372036854775808) (hb : b < 9223372036854775808) : bits .xor .i64 (a : Int) (b : Int) = ((a ^^^ b : Nat) : Int) := by
  have hx : a ^^^ b < 2 ^ 63 := Nat.xor_lt_two_pow ha hb
  show IntKind.i64.wrap ((BitVec.ofInt 64 (a : Int) ^^^ BitVec.ofInt 64 (b : Int)).toNat : Int) = _
  rw [BitVec.toNat_xor, ofInt_64 a ha, ofInt_64 b hb, IntWalk.i64_in]
  omega
theorem rotr_masked (x n : Nat) (hx : x < 4294967296) : ((x / 2 ^ n) ||| (x * 2 ^ (32 - n))) &&& 4294967295 = rotr x n := by
  have e : (4294967295 : Nat) = 2 ^ 32 - 1 := rfl
  rw [e, Nat.and_two_pow_sub_one_eq_mod, Nat.or_mod_two_pow, Nat.mod_eq_of_lt (show x / 2 ^ n < 2 ^ 32 from Nat.lt_of_le_of_lt (Nat.div_le_self _ _) hx)]
  rfl
theorem ret_i64 {a b : Int} (h : a = b) : Ending.returned (.int .i64 a) = .returned (.int .i64 b) := by rw [h]
set_option maxHeartbeats 400000 in
theorem turn_any (x : Nat) (n : Int) (w : World) (hx : x < 4294967296) (h0 : 2 ≤ n) (h1 : n ≤ 31) :
    Calls Tryd.prog 43 #[.int .i64 x, .int .i64 n] w fun e w' => e = .returned (.int .i64 ((rotr x n.toNat : Nat) : Int)) ∧ w = w' := by
  obtain ⟨n, rfl⟩ := Int.eq_ofNat_of_zero_le (show 0 ≤ n by omega)
  have hb : x * 2 ^ (32 - n) < 9223372036854775808 := by
    have : 2 ^ (32 - n) ≤ 2 ^ 30 := Nat.pow_le_pow_right (by decide) (by omega)
    calc x * 2 ^ (32 - n) ≤ x * 2 ^ 30 := Nat.mul_le_mul_left _ this
      _ < 9223372036854775808 := by omega
  have hd : x / 2 ^ n < 4294967296 := Nat.lt_of_le_of_lt (Nat.div_le_self _ _) hx
  have E : bits .and .i64 (bits .or .i64 ((x : Int) / 2 ^ n) (wrap64 ((x : Int) * 2 ^ (32 - n)))) 4294967295 = ((rotr x n : Nat) : Int) := by
    rw [← rotr_masked x n hx]
    have e1 : ((x : Int) / 2 ^ n) = ((x / 2 ^ n : Nat) : Int) := by simp
    have e2 : ((x : Int) * 2 ^ (32 - n)) = ((x * 2 ^ (32 - n) : Nat) : Int) := by simp
    have e3 : wrap64 ((x * 2 ^ (32 - n) : Nat) : Int) = ((x * 2 ^ (32 - n) : Nat) : Int) := by
      generalize x * 2 ^ (32 - n) = y at hb
      unfold wrap64; omega
    rw [e1, e2, e3, i64_or_nat _ _ (by omega) hb]
    exact i64_and_nat _ 4294967295 (Nat.or_lt_two_pow (n := 63) (by omega) hb) (by decide)
  have H := Lib.hid E
  clear E hb hd
  go_enter Tryd.func43, Tryd.ntmps43
  go_wp2_with fail
  go_ret
  exact ⟨ret_i64 H.out, rfl⟩
set_option maxHeartbeats 400000 in
theorem both_any (x y : Nat) (w : World) (hx : x < 4294967296) (hy : y < 4294967296) :
    Calls Tryd.prog 44 #[.int .i64 x, .int .i64 y] w fun e w' => e = .returned (.int .i64 ((x &&& y : Nat) : Int)) ∧ w = w' := by
  have H := Lib.hid (i64_and_nat x y (by omega) (by omega))
  go_enter Tryd.func44, Tryd.ntmps44
  go_wp2_with fail
  go_ret
  exact ⟨ret_i64 H.out, rfl⟩

/-- A text's word, without going round. -/
def rdval (d : Nat) : Nat := if 97 ≤ d then d - 87 else d - 48
def rword (t : List UInt8) (n k : Nat) : Nat := ((t.drop (8 * n)).take k).foldl (fun a d => 16 * a + rdval d.toNat) 0
theorem rword_snoc (t : List UInt8) (n k : Nat) (h : 8 * n + k < t.length) : rword t n (k + 1) = 16 * rword t n k + rdval (t.getD (8 * n + k) 0).toNat := by
  unfold rword
  have hl : k < (t.drop (8 * n)).length := by simp; omega
  rw [List.take_succ_eq_append_getElem hl, List.foldl_append]
  simp [List.getD_eq_getElem?_getD, h]
def Digits (t : List UInt8) : Prop := ∀ d ∈ t, 48 ≤ d.toNat ∧ d.toNat ≤ 102 ∧ (d.toNat ≤ 57 ∨ 97 ≤ d.toNat)
theorem rdval_lt {d : Nat} (h1 : 48 ≤ d) (h2 : d ≤ 102) (h3 : d ≤ 57 ∨ 97 ≤ d) : rdval d < 16 := by unfold rdval; split <;> omega
theorem rword_lt (t : List UInt8) (n : Nat) (hd : Digits t) : ∀ k, 8 * n + k ≤ t.length → rword t n k < 16 ^ k
  | 0, _ => by simp [rword]
  | k + 1, h => by
    rw [rword_snoc t n k (by omega)]
    have ih := rword_lt t n hd k (by omega)
    have hl : 8 * n + k < t.length := by omega
    have hm : t.getD (8 * n + k) 0 ∈ t := by rw [List.getD_eq_getElem?_getD, List.getElem?_eq_getElem hl]; exact List.getElem_mem hl
    obtain ⟨h1, h2, h3⟩ := hd _ hm
    have := rdval_lt h1 h2 h3
    rw [Nat.pow_succ]; omega
theorem rword_small (t : List UInt8) (n : Nat) (hd : Digits t) (k : Nat) (hk : k ≤ 8) (h : 8 * n + k ≤ t.length) : rword t n k < 4294967296 :=
  Nat.lt_of_lt_of_le (rword_lt t n hd k h) (Nat.le_trans (Nat.pow_le_pow_right (by decide) hk) (by decide))
theorem byte_getD (s : ByteArray) (i : Nat) (h : i < s.size) : s.data.toList.getD i 0 = s[i] := by
  have h' : i < s.data.toList.length := by simpa using h
  rw [List.getD_eq_getElem?_getD, List.getElem?_eq_getElem h']; rfl
set_option maxRecDepth 100000 in
set_option maxHeartbeats 1000000 in
theorem rword_any (s : ByteArray) (n : Nat) (w : World) (h : 8 * n + 8 ≤ s.size) (hs : s.size ≤ 10000) (hd : Digits s.data.toList) :
    Calls Tryd.prog 34 #[.string s, .int .i64 n] w fun e w' => e = .returned (.int .i64 ((rword s.data.toList n 8 : Nat) : Int)) ∧ w = w' := by
  have hsl : s.data.toList.length = s.size := by simp
  have HD := Lib.hid hd
  have HSL := Lib.hid hsl
  clear hd hsl
  go_enter Tryd.func34, Tryd.ntmps34
  go_wp2_with fail
  go_loop [5, 6] (fun a i => ∃ k : Nat, k ≤ 8 ∧ i = .int .i64 (8 * (n : Int) + (k : Int)) ∧ a = .int .i64 ((rword s.data.toList n k : Nat) : Int)) (fun _ i => (8 * n + 8 : Int).toNat - (intOf i).toNat)
  case atStart => exact ⟨0, Nat.zero_le _, by simp, by simp [rword]⟩
  case round =>
    obtain ⟨k, hk, rfl, rfl⟩ := hrel
    by_cases hlt : k < 8
    · have HS := Lib.hid (rword_snoc s.data.toList n k (by rw [HSL.out]; omega))
      have hb := rword_small s.data.toList n HD.out k (by omega) (by rw [HSL.out]; omega)
      have hdk : 8 * n + k < s.size := by omega
      have hm : s.data.toList.getD (8 * n + k) 0 ∈ s.data.toList := by rw [List.getD_eq_getElem?_getD, List.getElem?_eq_getElem (by rw [HSL.out]; exact hdk)]; exact List.getElem_mem _
      obtain ⟨d1, d2, d3⟩ := HD.out _ hm
      rw [byte_getD s _ hdk] at HS d1 d2
      generalize rword s.data.toList n k = a at HS hb
      clear hm d3
      go_wp2_with fail
      all_goals
        go_round
        case rel =>
          refine ⟨k + 1, by omega, by go_num, ?_⟩
          rw [HS.out]
          congr 1
          unfold rdval
          split <;> omega
        case measure => simp [intOf]; omega
    · have e : k = 8 := by omega
      have HE := Lib.hid (show rword s.data.toList n k = rword s.data.toList n 8 by rw [e])
      have hge : 8 ≤ k := by omega
      clear hlt e
      go_wp2_with fail
      go_ret
      exact ⟨ret_i64 (by rw [HE.out]), rfl⟩
end Sha
end Go.Proofs.YtoiidedigbfnaaaDoor
/- Rows of bytes of the call's own, for the references of hash and mac. -/
namespace Go.Proofs.YtoiidedigbfnaaaDoor
open Go.RowKit Cut Apd
namespace Sha
def sliceLen_ : Value → Nat | .slice _ n _ => n | _ => 0
theorem row_form {w : World} {base e size n : Nat} {v : Value} {xs : List Value} (h : w.ownsRow base e size v n xs) : ∃ ad l c, v = .slice ad l c := by
  rcases h.2 with ⟨rfl, _⟩ | ⟨g, cap, cur, rfl, _⟩
  · exact ⟨_, _, _, rfl⟩
  · exact ⟨_, _, _, rfl⟩
theorem row_nil {w : World} {base e n : Nat} {v : Value} {xs : List Value} (h : w.ownsRow base e 1 v n xs) : ∀ a m c, v = .slice a m c → a = none → m = 0 ∧ c = 0 := by
  intro a m c hv ha
  rcases h.2 with ⟨h1, _⟩ | ⟨g, cap, cur, h1, _⟩
  · rw [hv] at h1; injection h1 with _ h2 h3; exact ⟨h2, h3⟩
  · rw [hv] at h1; injection h1 with h1; rw [ha] at h1; cases h1
theorem own_bytes_n {w : World} {base n : Nat} {v : Value} {m : List Nat} (h : w.ownsRow base 5 1 v n (u8s m)) (hl : m.length = n) : BytesIn w v m := by subst hl; exact own_bytes h
theorem lenbyte8 (n : Nat) : ∀ i, i < 8 → n * 8 / 2 ^ (56 - 8 * i) % 256 = (lenBytes n).getD i 0
  | 0, _ => rfl | 1, _ => rfl | 2, _ => rfl | 3, _ => rfl | 4, _ => rfl | 5, _ => rfl | 6, _ => rfl | 7, _ => by simp [lenBytes]
  | k + 8, h => by omega

theorem put_row_ {w : World} {b : Nat} {T : TypeId} {C D : List Nat} (hD : D.length = C.length) (h : w.heap[b]? = some (.cells (u8s C).toArray T (0, 0))) :
    (w.setCells b 0 (u8s D).toArray.toList).heap[b]? = some (.cells (u8s D).toArray T (0, 0)) := by
  have := heap_setCells b T (0, 0) (u8s D) 0 w _ h (by rw [u8s_length, u8s_length, hD]; omega)
  rw [this, Nat.zero_add, List.take_zero, List.nil_append, List.drop_of_length_le (by rw [u8s_length, u8s_length, hD]; exact Nat.le_refl _), List.append_nil]
theorem alloc_row (w : World) (T : TypeId) (C D : List Nat) (hD : D.length = C.length) : ∃ w', (w.alloc (.cells (u8s C).toArray T)).setCells w.heap.size 0 (u8s D).toArray.toList = w' ∧ w'.heap[w.heap.size]? = some (.cells (u8s D).toArray T (0, 0)) ∧ Below w.heap.size w w' :=
  ⟨_, rfl, put_row_ hD (heap_alloc_new w _), below_setCells _ (Nat.le_refl _) _ 0 _ ((Below.refl _ _).alloc (Nat.le_refl _) _)⟩
theorem div1024_ (x : Nat) : (x : Int) / 1024 = ((x / 1024 : Nat) : Int) := by omega

theorem div8_ (x : Nat) : (x : Int) / 8 = ((x / 8 : Nat) : Int) := by omega
theorem mul24_ {x : Nat} (h : x < 256) : x * 16777216 < 4294967296 := by omega
theorem mul16_ {x : Nat} (h : x < 256) : x * 65536 < 4294967296 := by omega
theorem mul8_ {x : Nat} (h : x < 256) : x * 256 < 4294967296 := by omega
/-- What lies behind k of the sums. -/
def addUpto_ (a b : List Nat) : Nat → List Nat
  | 0 => a
  | n + 1 => (addUpto_ a b n).set n ((a.getD n 0 + b.getD n 0) % 4294967296)
theorem addUpto_getD_ (a b : List Nat) (n j : Nat) (h : n ≤ j) : (addUpto_ a b n).getD j 0 = a.getD j 0 := by
  induction n with
  | zero => rfl
  | succ n ih => rw [addUpto_, List.getD_eq_getElem?_getD, List.getElem?_set_ne (by omega), ← List.getD_eq_getElem?_getD]; exact ih (by omega)
theorem addUpto_length_ (a b : List Nat) (n : Nat) : (addUpto_ a b n).length = a.length := by
  induction n with | zero => rfl | succ n ih => simp [addUpto_, ih]
/-- The two published texts. -/
def beginText_ : List UInt8 := [54, 97, 48, 57, 101, 54, 54, 55, 98, 98, 54, 55, 97, 101, 56, 53, 51, 99, 54, 101, 102, 51, 55, 50, 97, 53, 52, 102, 102, 53, 51, 97, 53, 49, 48, 101, 53, 50, 55, 102, 57, 98, 48, 53, 54, 56, 56, 99, 49, 102, 56, 51, 100, 57, 97, 98, 53, 98, 101, 48, 99, 100, 49, 57]
theorem begin_size_ : beginText_.length = 64 := by decide +kernel
theorem flat2_ (a b : Nat) : (((a : Int) + b) % 4294967296 : Int) = ((a + b) % 4294967296 : Nat) := by omega
theorem flat5_ (a b c d e : Nat) : (((((a : Int) + b + c + d + e) % 4294967296 : Int)) = (((((a + b) % 4294967296 + c) % 4294967296 + d) % 4294967296 + e) % 4294967296 : Nat)) := by omega
theorem lt_of_heap_ {w : World} {b : Nat} {o : Obj} (h : w.heap[b]? = some o) : b < w.heap.size := by
  rcases Nat.lt_or_ge b w.heap.size with h' | h'
  · exact h'
  · simp [h'] at h
def roundsText_ : List UInt8 := [52, 50, 56, 97, 50, 102, 57, 56, 55, 49, 51, 55, 52, 52, 57, 49, 98, 53, 99, 48, 102, 98, 99, 102, 101, 57, 98, 53, 100, 98, 97, 53, 51, 57, 53, 54, 99, 50, 53, 98, 53, 57, 102, 49, 49, 49, 102, 49, 57, 50, 51, 102, 56, 50, 97, 52, 97, 98, 49, 99, 53, 101, 100, 53, 100, 56, 48, 55, 97, 97, 57, 56, 49, 50, 56, 51, 53, 98, 48, 49, 50, 52, 51, 49, 56, 53, 98, 101, 53, 53, 48, 99, 55, 100, 99, 51, 55, 50, 98, 101, 53, 100, 55, 52, 56, 48, 100, 101, 98, 49, 102, 101, 57, 98, 100, 99, 48, 54, 97, 55, 99, 49, 57, 98, 102, 49, 55, 52, 101, 52, 57, 98, 54, 57, 99, 49, 101, 102, 98, 101, 52, 55, 56, 54, 48, 102, 99, 49, 57, 100, 99, 54, 50, 52, 48, 99, 97, 49, 99, 99, 50, 100, 101, 57, 50, 99, 54, 102, 52, 97, 55, 52, 56, 52, 97, 97, 53, 99, 98, 48, 97, 57, 100, 99, 55, 54, 102, 57, 56, 56, 100, 97, 57, 56, 51, 101, 53, 49, 53, 50, 97, 56, 51, 49, 99, 54, 54, 100, 98, 48, 48, 51, 50, 55, 99, 56, 98, 102, 53, 57, 55, 102, 99, 55, 99, 54, 101, 48, 48, 98, 102, 51, 100, 53, 97, 55, 57, 49, 52, 55, 48, 54, 99, 97, 54, 51, 53, 49, 49, 52, 50, 57, 50, 57, 54, 55, 50, 55, 98, 55, 48, 97, 56, 53, 50, 101, 49, 98, 50, 49, 51, 56, 52, 100, 50, 99, 54, 100, 102, 99, 53, 51, 51, 56, 48, 100, 49, 51, 54, 53, 48, 97, 55, 51, 53, 52, 55, 54, 54, 97, 48, 97, 98, 98, 56, 49, 99, 50, 99, 57, 50, 101, 57, 50, 55, 50, 50, 99, 56, 53, 97, 50, 98, 102, 101, 56, 97, 49, 97, 56, 49, 97, 54, 54, 52, 98, 99, 50, 52, 98, 56, 98, 55, 48, 99, 55, 54, 99, 53, 49, 97, 51, 100, 49, 57, 50, 101, 56, 49, 57, 100, 54, 57, 57, 48, 54, 50, 52, 102, 52, 48, 101, 51, 53, 56, 53, 49, 48, 54, 97, 97, 48, 55, 48, 49, 57, 97, 52, 99, 49, 49, 54, 49, 101, 51, 55, 54, 99, 48, 56, 50, 55, 52, 56, 55, 55, 52, 99, 51, 52, 98, 48, 98, 99, 98, 53, 51, 57, 49, 99, 48, 99, 98, 51, 52, 101, 100, 56, 97, 97, 52, 97, 53, 98, 57, 99, 99, 97, 52, 102, 54, 56, 50, 101, 54, 102, 102, 51, 55, 52, 56, 102, 56, 50, 101, 101, 55, 56, 97, 53, 54, 51, 54, 102, 56, 52, 99, 56, 55, 56, 49, 52, 56, 99, 99, 55, 48, 50, 48, 56, 57, 48, 98, 101, 102, 102, 102, 97, 97, 52, 53, 48, 54, 99, 101, 98, 98, 101, 102, 57, 97, 51, 102, 55, 99, 54, 55, 49, 55, 56, 102, 50]
theorem rounds_size_ : roundsText_.length = 512 := by decide +kernel
theorem addUpto_plus_ (s t : St) : addUpto_ s.list t.list 8 = (plus s t).list := rfl

end Sha
end Go.Proofs.YtoiidedigbfnaaaDoor
/- 'Fill' of the document's answer: a text, filled up. -/
namespace Go.Proofs.YtoiidedigbfnaaaDoor
open Go.RowKit Cut Apd
namespace Sha
theorem row_form' {w : World} {base e size n : Nat} {v : Value} {xs : List Value} (h : w.ownsRow base e size v n xs) : ∃ ad c, v = .slice ad n c := by
  rcases h.2 with ⟨rfl, h0⟩ | ⟨g, cap, cur, rfl, _⟩
  · exact ⟨none, 0, by rw [h0]⟩
  · exact ⟨_, _, rfl⟩
theorem bytes_one (w : World) (x : Nat) : ∀ ad, some (⟨w.heap.size, 0, none⟩ : Addr) = some ad → ∀ j u, (u8s [x])[j]? = some u → (w.alloc (.cells #[.int .u8 (x : Int)] 5)).cell? (ad.add j) = some u := by
  intro ad h j u hj
  injection h with h
  subst h
  match j, hj with
  | 0, hj => simp [u8s] at hj; subst hj; rw [show (⟨w.heap.size, 0, none⟩ : Addr).add 0 = ⟨w.heap.size, 0, none⟩ from rfl, cell_of_row _ w.heap.size 0 _ _ _ (heap_alloc_new w _)]; rfl

theorem mask8 (x : Nat) (hx : x < 9223372036854775808) : (bits .and .i64 (x : Int) 255 % 256 : Int) = ((x % 256 : Nat) : Int) := by
  have h := i64_and_nat x 255 hx (by decide)
  have e : x &&& 255 = x % 256 := Nat.and_two_pow_sub_one_eq_mod x 8
  rw [e] at h
  have h' : bits .and .i64 (x : Int) 255 = ((x % 256 : Nat) : Int) := h
  rw [h']; omega
theorem fillByte (n j : Nat) (hn : n ≤ 1000) (hj : j < 8) : (bits .and .i64 (8 * (n : Int) / 2 ^ (56 - 8 * j)) 255 % 256 : Int) = (((lenBytes n).getD j 0 : Nat) : Int) := by
  have e : (8 * (n : Int) / 2 ^ (56 - 8 * j)) = ((n * 8 / 2 ^ (56 - 8 * j) : Nat) : Int) := by
    rw [show (8 * (n : Int)) = ((n * 8 : Nat) : Int) by omega]; simp
  rw [e, mask8 _ (Nat.lt_of_le_of_lt (Nat.div_le_self _ _) (by omega)), lenbyte8 n j hj]

set_option maxRecDepth 100000 in
set_option maxHeartbeats 2000000 in
theorem rfill_any (a0 : Option Addr) (len0 cap0 : Nat) (xs : List Nat) (w : World) (hx : xs.length = len0) (hx8 : ∀ x ∈ xs, x < 256) (hl : len0 ≤ 1000) (hbx : BytesIn w (.slice a0 len0 cap0) xs) (hn0 : a0 = none → len0 = 0 ∧ cap0 = 0) :
    Calls Tryd.prog 35 #[.slice a0 len0 cap0] w fun e w' => ∃ ad c, e = .returned (.slice ad (xs ++ fill len0).length c) ∧ BytesIn w' (.slice ad (xs ++ fill len0).length c) (xs ++ fill len0) ∧ Below w.heap.size w w' ∧ ∀ g off, ad = some ⟨g, off, none⟩ → w.heap.size ≤ g := by
  obtain ⟨z, hz⟩ : ∃ z, z = zeros len0 := ⟨_, rfl⟩
  have hz64 : z < 64 := by rw [hz]; exact zeros_lt len0
  have hz56 : (len0 + 1 + z) % 64 = 56 := by rw [hz]; unfold zeros; omega
  have hzne : ∀ k, k < z → (len0 + 1 + k) % 64 ≠ 56 := by intro k hk; omega
  have HX := Lib.hid hx
  have HX8 := Lib.hid hx8
  have HBX := Lib.hid hbx
  have HN0 := Lib.hid hn0
  have HZ := Lib.hid hz
  have HZ56 := Lib.hid hz56
  have HZNE := Lib.hid hzne
  have hmine : (w.alloc (.cells #[] 5)).ownsRow w.heap.size 5 1 (.slice (some ⟨w.heap.size, 0, none⟩) 0 0) 0 [] := World.ownsRow_lit w #[] 0 (Nat.le_refl _) (Nat.zero_le _) rfl
  have HMI := Lib.hid hmine
  have hold : Below w.heap.size w (w.alloc (.cells #[] 5)) := (Below.refl _ _).alloc (Nat.le_refl _) _
  have HOL := Lib.hid hold
  have HSRC := Lib.hid (bytes_src (bytes_below HBX.out HOL.out))
  clear hx hx8 hbx hn0 hz hz56 hzne hmine hold
  go_enter Tryd.func35, Tryd.ntmps35
  go_upto_region 1 with (fail)
  refine wp_region_lit ?_
  refine wpList_plain rfl (fun K hK => ?_)
  go_simp
  refine hK _ _ ?_
  clear hK K
  refine wpList_plain rfl (fun K hK => ?_)
  go_simp
  refine hK _ _ ?_
  clear hK K
  refine append_own rfl (.tmp 6) (.tmp 7) rfl w.heap.size _ 0 [] rfl HMI.out a0 len0 cap0 xs rfl HX.out HN0.out HSRC.out (by omega) (by simp) ?_
  intro v2 w2 hown2 hg2 hv2
  rw [Nat.zero_add, List.nil_append] at hown2
  obtain ⟨va, vc, rfl⟩ := row_form' hown2
  have B2 := Lib.hid (show Below w.heap.size w w2 from HOL.out.grown hg2 (by simp) (by intro k hk; have e : some w.heap.size = some k := hk; injection e with e; omega))
  have O2 := Lib.hid hown2
  clear hown2 hg2 hv2 HMI HSRC HOL
  refine wpList_plain rfl (fun K hK => ?_)
  go_simp
  refine hK _ _ ?_
  clear hK K
  refine append_own rfl (.tmp 8) (.tmp 9) rfl w.heap.size _ len0 (u8s xs) rfl (O2.out.alloc _) (some ⟨w2.heap.size, 0, none⟩) 1 1 [128] rfl rfl (fun h => by cases h) (bytes_one w2 128) (by omega) (by have := B2.out.size; simp; omega) ?_
  intro v3 w3 hown3 hg3 hv3
  obtain ⟨xa, xc, rfl⟩ := row_form' hown3
  have B3 := Lib.hid (show Below w.heap.size w w3 from (B2.out.alloc B2.out.size _).grown hg3 (by have := B2.out.size; simp; omega) (own_ge O2.out))
  have O3 := Lib.hid hown3
  clear hown3 hg3 hv3 B2 O2
  go_wp2_with fail
  go_loopw [3] (fun s wr => ∃ (k : Nat) (ad : Option Addr) (c : Nat), k ≤ z ∧ s = .slice ad (len0 + 1 + k) c ∧ wr.ownsRow w.heap.size 5 1 (.slice ad (len0 + 1 + k) c) (len0 + 1 + k) (u8s (xs ++ 128 :: List.replicate k 0)) ∧ Below w.heap.size w wr) (fun s _ => len0 + 1 + z - sliceLen_ s)
  case atStart => exact ⟨0, xa, xc, Nat.zero_le _, rfl, by simpa [u8s] using O3.out, B3.out⟩
  case round =>
    obtain ⟨k, ad, c, hk, rfl, ho, hb⟩ := hrel
    have HO := Lib.hid ho
    have HB := Lib.hid hb
    clear ho hb
    by_cases hlt : k < z
    · have hb56 : ((((len0 : Int) + 1 + (k : Int)) % 64) != 56) = true := by have := HZNE.out k hlt; rw [bne_iff_ne]; omega
      go_wp2_with (at_builtin; refine wpList_mark ?_)
      refine Lib.hid ?_
      refine append_own rfl (.tmp 15) (.tmp 16) rfl w.heap.size _ (len0 + 1 + k) _ rfl (HO.out.alloc _) (some ⟨wr.heap.size, 0, none⟩) 1 1 [0] rfl rfl (fun h => by cases h) (bytes_one wr 0) ?_ ?_ ?_
      · omega
      · have := HB.out.size; simp; omega
      intro v4 w4 hown4 hg4 hv4
      obtain ⟨ya, yc, rfl⟩ := row_form' hown4
      have B4 := Lib.hid (show Below w.heap.size w w4 from (HB.out.alloc HB.out.size _).grown hg4 (by have := HB.out.size; simp; omega) (own_ge HO.out))
      have O4 := Lib.hid hown4
      clear hown4 hg4 hv4 hb56
      go_wp2_with fail
      go_roundw
      case rel =>
        refine ⟨k + 1, ya, yc, by omega, rfl, ?_, B4.out⟩
        have e : u8s (xs ++ 128 :: List.replicate k 0) ++ u8s [0] = u8s (xs ++ 128 :: List.replicate (k + 1) 0) := by
          rw [List.replicate_succ']; simp [u8s]
        have := O4.out
        rw [e] at this
        exact this
      case measure => simp [sliceLen_]; omega
    · have e : k = z := by omega
      have hb56 : ((((len0 : Int) + 1 + (k : Int)) % 64) != 56) = false := by have := HZ56.out; rw [bne_eq_false_iff_eq]; omega
      have HK := Lib.hid e
      clear e hlt
      go_wp2_with fail
      clear hb56
      go_loopw [3, 5] (fun s i wr => ∃ (j : Nat) (ad : Option Addr) (c : Nat), j ≤ 8 ∧ i = .int .i64 j ∧ s = .slice ad (len0 + 1 + k + j) c ∧ wr.ownsRow w.heap.size 5 1 (.slice ad (len0 + 1 + k + j) c) (len0 + 1 + k + j) (u8s (xs ++ (128 :: List.replicate k 0 ++ (lenBytes len0).take j))) ∧ Below w.heap.size w wr) (fun _ i _ => 8 - (intOf i).toNat)
      case atStart => exact ⟨0, ad, c, Nat.zero_le _, rfl, rfl, by simpa using HO.out, HB.out⟩
      case round =>
        obtain ⟨j, bd, d, hj, rfl, rfl, ho, hb⟩ := hrel
        have HO5 := Lib.hid ho
        have HB5 := Lib.hid hb
        clear ho hb
        by_cases hlt : j < 8
        · have hge : (0 : Int) ≤ 56 - 8 * (j : Int) := by omega
          have hge2 : 56 - 8 * (j : Int) ≤ 56 := by omega
          go_wp2_with (at_builtin; refine wpList_mark ?_)
          refine Lib.hid ?_
          refine append_own rfl (.tmp 25) (.tmp 34) rfl w.heap.size _ (len0 + 1 + k + j) _ rfl (HO5.out.alloc _) (some ⟨wr.heap.size, 0, none⟩) 1 1 [(lenBytes len0).getD j 0] rfl rfl (fun h => by cases h) ?_ ?_ ?_ ?_
          · rw [fillByte len0 j hl hlt]; exact bytes_one wr _
          · omega
          · have := HB5.out.size; simp; omega
          intro v6 w6 hown6 hg6 hv6
          obtain ⟨ya, yc, rfl⟩ := row_form' hown6
          have B6 := Lib.hid (show Below w.heap.size w w6 from (HB5.out.alloc HB5.out.size _).grown hg6 (by have := HB5.out.size; simp; omega) (own_ge HO5.out))
          have O6 := Lib.hid hown6
          have HT := Lib.hid (show (lenBytes len0).take (j + 1) = (lenBytes len0).take j ++ [(lenBytes len0)[j]?.getD 0] by
            have hl8 : j < (lenBytes len0).length := hlt
            rw [List.take_succ_eq_append_getElem hl8, List.getElem?_eq_getElem hl8]; rfl)
          clear hown6 hg6 hv6
          go_wp2_with fail
          go_roundw
          case rel =>
            refine ⟨j + 1, ya, yc, by omega, by go_num, rfl, ?_, B6.out⟩
            have := O6.out
            rw [HT.out]
            simpa [u8s, Nat.add_assoc] using this
          case measure => simp [intOf]; omega
        · have hge : 8 ≤ j := by omega
          have hfin : xs ++ (128 :: List.replicate k 0 ++ (lenBytes len0).take j) = xs ++ fill len0 := by
            have e8 : j = 8 := by omega
            rw [HK.out, HZ.out, e8]; rfl
          have hlen : len0 + 1 + k + j = (xs ++ fill len0).length := by
            rw [List.length_append, fill_length, HX.out, HK.out, HZ.out]; omega
          have hfo := HO5.out
          rw [hfin] at hfo
          have HFO := Lib.hid hfo
          have HLEN := Lib.hid hlen
          clear hfo hfin hlen hlt
          go_wp2_with fail
          go_ret
          refine ⟨bd, d, ?_, ?_, HB5.out, fun g off hg => own_ge HFO.out g (by rw [hg]; rfl)⟩
          · show Ending.returned (Value.slice bd (len0 + 1 + k + j) d) = _
            rw [HLEN.out]
          · have := HFO.out
            rw [HLEN.out] at this
            exact own_bytes this
end Sha
end Go.Proofs.YtoiidedigbfnaaaDoor
/- Plain facts for the document's answer: the words of a block, one after another. -/
namespace Go.Proofs.YtoiidedigbfnaaaDoor
open Go.RowKit Cut Apd
namespace Sha
def i64s (l : List Nat) : List Value := l.map fun (x : Nat) => .int .i64 (x : Int)
theorem i64s_length (l : List Nat) : (i64s l).length = l.length := by simp [i64s]
theorem i64s_at {l : List Nat} {i : Nat} (h : i < l.length) : (i64s l)[i]? = some (.int .i64 ((l.getD i 0 : Nat) : Int)) := by simp [i64s, h]
theorem i64s_one (l : List Nat) : ∀ v ∈ i64s l, v.oneCell' = true := by intro v hv; simp [i64s] at hv; obtain ⟨x, _, rfl⟩ := hv; rfl
theorem i64s_cells (l : List Nat) : (i64s l).toArray.all (·.oneCell') = true := all_oneCell_toArray (i64s_one l)
theorem i64s_set (l : List Nat) (i v : Nat) : (i64s l).toArray.setIfInBounds i (.int .i64 (v : Int)) = (i64s (l.set i v)).toArray := by
  simp [i64s, List.map_set]
theorem or_add {a b n : Nat} (h : b < 2 ^ n) : (a * 2 ^ n) ||| b = a * 2 ^ n + b := by
  rw [← Nat.shiftLeft_eq]; exact (Nat.shiftLeft_add_eq_or_of_lt h a).symm
theorem or24 (a : Nat) {b : Nat} (h : b < 16777216) : a * 16777216 ||| b = a * 16777216 + b := or_add (n := 24) h
theorem or16 (a : Nat) {b : Nat} (h : b < 65536) : a * 65536 ||| b = a * 65536 + b := or_add (n := 16) h
theorem or8 (a : Nat) {b : Nat} (h : b < 256) : a * 256 ||| b = a * 256 + b := or_add (n := 8) h
theorem lt24 {x : Nat} (h : x < 256) : x * 65536 < 16777216 := by omega
theorem lt16 {x : Nat} (h : x < 256) : x * 256 < 65536 := by omega
theorem sh1 (a b : Nat) : a * 16777216 + b * 65536 = (a * 256 + b) * 65536 := by omega
theorem sh2 (a b : Nat) : a * 65536 + b * 256 = (a * 256 + b) * 256 := by omega
theorem sh3 (a b c d : Nat) : ((a * 256 + b) * 256 + c) * 256 + d = 16777216 * a + 65536 * b + 256 * c + d := by omega
theorem or_sum {a b c d : Nat} (hb : b < 256) (hc : c < 256) (hd : d < 256) : ((a * 16777216 ||| b * 65536) ||| c * 256) ||| d = 16777216 * a + 65536 * b + 256 * c + d := by
  rw [or24 a (lt24 hb), sh1, or16 _ (lt16 hc), sh2, or8 _ hd, sh3]
theorem be4_sum {b : List Nat} (h : ∀ x ∈ b, x < 256) (t : Nat) : be4 b t = 16777216 * b.getD (4 * t) 0 + 65536 * b.getD (4 * t + 1) 0 + 256 * b.getD (4 * t + 2) 0 + b.getD (4 * t + 3) 0 := by
  have b0 := getD_lt h (by decide) (4 * t)
  have b1 := getD_lt h (by decide) (4 * t + 1)
  have b2 := getD_lt h (by decide) (4 * t + 2)
  have b3 := getD_lt h (by decide) (4 * t + 3)
  unfold be4
  rw [Nat.mod_eq_of_lt (mul24_ b0), Nat.mod_eq_of_lt (mul16_ b1), Nat.mod_eq_of_lt (mul8_ b2)]
  exact or_sum b1 b2 b3
/-- The words, one after another. -/
def wl (b : List Nat) : Nat → List Nat
  | 0 => []
  | k + 1 => wl b k ++ [if k < 16 then be4 b k else wnext (wl b k)]
theorem wl_length (b : List Nat) (k : Nat) : (wl b k).length = k := by induction k with | zero => rfl | succ k ih => simp [wl, ih]
theorem wl_first (b : List Nat) : ∀ k, k ≤ 16 → wl b k = wfirst b k
  | 0, _ => rfl
  | k + 1, h => by rw [wl, wfirst, wl_first b k (by omega), if_pos (by omega)]
theorem wl_ext (b : List Nat) : ∀ j, wl b (16 + j) = wext (wfirst b 16) j
  | 0 => wl_first b 16 (Nat.le_refl _)
  | j + 1 => by rw [← Nat.add_assoc, wl, wext, wl_ext b j, if_neg (by omega)]
theorem wl_words (b : List Nat) : wl b 64 = words b := wl_ext b 48
theorem wl_lt {b : List Nat} (h : ∀ x ∈ b, x < 256) (k : Nat) : ∀ x ∈ wl b k, x < 4294967296 := by
  induction k with
  | zero => intro x hx; simp [wl] at hx
  | succ k ih =>
    intro x hx; simp only [wl, List.mem_append, List.mem_singleton] at hx
    rcases hx with hx | rfl
    · exact ih x hx
    · split
      · exact be4_lt h k
      · exact wnext_lt _
theorem info3 : (Tryd.prog.info? 3).map (fun i => (i.zero, i.size, i.bytes)) = some (some (.int .i64 0), 1, 8) := by kernel_rfl
theorem append_int {ops : Array Oper} {rest : List Oper} {o : Oper} {a : Act} {Q : Exit → Act → World → Prop} {w : World} (hgd : o.guard = none) (s x : Operand)
    (ho : o.op = .call { callee := .builtin .append, args := #[s, x], argTypes := #[106, 106] }) (base : Nat) (v : Value) (n : Nat) (xs : List Value) (hs : a.eval s = v) (hown : w.ownsRow base 3 1 v n xs)
    (g : Nat) (y : Nat) (hx : a.eval x = .slice (some ⟨g, 0, none⟩) 1 1) (hc : w.cell? ⟨g, 0, none⟩ = some (.int .i64 (y : Int))) (h63 : n < 10000000000) (hbase : base ≤ w.heap.size)
    (h : ∀ ad c w', w'.ownsRow base 3 1 (.slice ad (n + 1) c) (n + 1) (xs ++ i64s [y]) → w.grownBy w' v.ownBlock → wpList Tryd.prog ops Q rest (a.put o.dst (.slice ad (n + 1) c)) w') : wpList Tryd.prog ops Q (o :: rest) a w := by
  obtain ⟨i0, hi, hz0, hz1, hz2⟩ := info_parts info3
  refine wpList_append_own _ hgd s x 106 ho base 3 i0 (.int .i64 0) 1 8 Tryd.underlying106 hi hz0 hz1 hz2 rfl (by decide) v n xs hs hown ⟨g, 0, none⟩ 1 1 (i64s [y]) hx rfl ?_ (i64s_one _) (by unfold maxLen; omega) (by omega) hbase ?_
  · intro j u hj
    match j, hj with
    | 0, hj => simp [i64s] at hj; subst hj; exact hc
  · intro v' w' h1 h2 _
    obtain ⟨ad, c, rfl⟩ := row_form' h1
    exact h ad c w' h1 h2
theorem ssig0_val {x : Nat} (hx : x < 4294967296) : bits .xor .i64 (bits .xor .i64 ((rotr x 7 : Nat) : Int) ((rotr x 18 : Nat) : Int)) ((x : Int) / 8) = ((ssig0 x : Nat) : Int) := by
  have h1 := rotr_lt x 7 hx
  have h2 := rotr_lt x 18 hx
  have h3 := xor_lt h1 h2
  rw [div8_, i64_xor_nat _ _ (by omega) (by omega), i64_xor_nat _ _ (by omega) (by omega)]; rfl
theorem ssig1_val {x : Nat} (hx : x < 4294967296) : bits .xor .i64 (bits .xor .i64 ((rotr x 17 : Nat) : Int) ((rotr x 19 : Nat) : Int)) ((x : Int) / 1024) = ((ssig1 x : Nat) : Int) := by
  have h1 := rotr_lt x 17 hx
  have h2 := rotr_lt x 19 hx
  have h3 := xor_lt h1 h2
  rw [div1024_, i64_xor_nat _ _ (by omega) (by omega), i64_xor_nat _ _ (by omega) (by omega)]; rfl
theorem bsig0_val {x : Nat} (hx : x < 4294967296) : bits .xor .i64 (bits .xor .i64 ((rotr x 2 : Nat) : Int) ((rotr x 13 : Nat) : Int)) ((rotr x 22 : Nat) : Int) = ((bsig0 x : Nat) : Int) := by
  have h1 := rotr_lt x 2 hx
  have h2 := rotr_lt x 13 hx
  have h3 := rotr_lt x 22 hx
  have h4 := xor_lt h1 h2
  rw [i64_xor_nat _ _ (by omega) (by omega), i64_xor_nat _ _ (by omega) (by omega)]; rfl
theorem bsig1_val {x : Nat} (hx : x < 4294967296) : bits .xor .i64 (bits .xor .i64 ((rotr x 6 : Nat) : Int) ((rotr x 11 : Nat) : Int)) ((rotr x 25 : Nat) : Int) = ((bsig1 x : Nat) : Int) := by
  have h1 := rotr_lt x 6 hx
  have h2 := rotr_lt x 11 hx
  have h3 := rotr_lt x 25 hx
  have h4 := xor_lt h1 h2
  rw [i64_xor_nat _ _ (by omega) (by omega), i64_xor_nat _ _ (by omega) (by omega)]; rfl
end Sha
end Go.Proofs.YtoiidedigbfnaaaDoor
/- 'Block' of the document's answer: a state behind a block. -/
namespace Go.Proofs.YtoiidedigbfnaaaDoor
open Go.RowKit Cut Apd
namespace Sha
/-- The memory of 'Block': the state that it got, its result. -/
structure RMem (H : Nat) (st : List Nat) (w0 w : World) : Prop where
  st : w.heap[H]? = some (.cells (i64s st).toArray 95 (0, 0))
  res : w.heap[H + 1]? = some (.cells (i64s (pad 8 [])).toArray 95 (0, 0))
  old : Below H w0 w
theorem RMem.below {H : Nat} {l : List Nat} {w0 w w1 : World} (h : RMem H l w0 w) (hb : Below w.heap.size w w1) : RMem H l w0 w1 :=
  ⟨(hb.block _ (lt_of_heap_ h.st)).trans h.st, (hb.block _ (lt_of_heap_ h.res)).trans h.res, h.old.trans (hb.mono (Nat.le_of_lt (lt_of_heap_ h.st)))⟩
theorem RMem.grown {H : Nat} {l : List Nat} {w0 w w1 : World} {r : Option Nat} (h : RMem H l w0 w) (hg : w.grownBy w1 r) (hr : ∀ k, r = some k → H + 2 ≤ k) : RMem H l w0 w1 :=
  ⟨(hg.block _ (lt_of_heap_ h.st) (by intro e; have := hr _ e.symm; omega)).trans h.st, (hg.block _ (lt_of_heap_ h.res) (by intro e; have := hr _ e.symm; omega)).trans h.res, h.old.grown hg (Nat.le_of_lt (lt_of_heap_ h.st)) (by intro k hk; have := hr k hk; omega)⟩
theorem RMem.size {H : Nat} {l : List Nat} {w0 w : World} (h : RMem H l w0 w) : H + 2 ≤ w.heap.size := lt_of_heap_ h.res
theorem int_cell {w : World} {base n : Nat} {ad : Option Addr} {c : Nat} {l : List Nat} (h : w.ownsRow base 3 1 (.slice ad n c) n (i64s l)) (hl : l.length = n) (hn : 0 < n) : ∃ g, ad = some ⟨g, 0, none⟩ ∧ ∀ j, j < n → w.cell? ⟨g, j, none⟩ = some (.int .i64 ((l.getD j 0 : Nat) : Int)) := by
  rcases h.2 with ⟨_, h0⟩ | ⟨g, cap, cur, h1, _, hh, hnc, _, _, htk⟩
  · omega
  · injection h1 with e1 e2 e3
    refine ⟨g, e1, fun j hj => ?_⟩
    rw [cell_of_row w g j cur _ _ hh]
    have e := i64s_at (l := l) (i := j) (by omega)
    rw [← htk, List.getElem?_take, if_pos (by omega)] at e
    simpa using e

/-- The memory of the rounds: besides, the turned state in block N. -/
structure VMem (H N : Nat) (l v : List Nat) (w0 w : World) : Prop where
  mem : RMem H l w0 w
  v : w.heap[N]? = some (.cells (i64s v).toArray 95 (0, 0))
  big : H + 2 ≤ N
theorem VMem.below {H N : Nat} {l v : List Nat} {w0 w w1 : World} (h : VMem H N l v w0 w) (hb : Below w.heap.size w w1) : VMem H N l v w0 w1 :=
  ⟨h.mem.below hb, (hb.block _ (lt_of_heap_ h.v)).trans h.v, h.big⟩
theorem VMem.set {H N : Nat} {l v : List Nat} {w0 w : World} (h : VMem H N l v w0 w) (j x : Nat) : VMem H N l (v.set j x) w0 (w.setCell ⟨N, j, none⟩ (.int .i64 (x : Int))) :=
  ⟨h.mem.grown (gsetCell w N j _) (by intro k hk; injection hk with hk; rw [← hk]; exact h.big), by rw [heap_setCell_same w N j _ _ _ h.v, i64s_set], h.big⟩
theorem vcell {H N : Nat} {l v : List Nat} {w0 w : World} (h : VMem H N l v w0 w) (j : Nat) (hj : j < v.length) : w.cell? ⟨N, j, none⟩ = some (.int .i64 ((v.getD j 0 : Nat) : Int)) := by
  rw [cell_of_row w N j _ _ _ h.v, List.getElem?_toArray]; exact i64s_at hj
theorem vfree {H N : Nat} {l v : List Nat} {w0 w : World} (h : VMem H N l v w0 w) (j : Nat) : w.frozen? ⟨N, j, none⟩ = false := frozen_of_row w N j _ _ h.v
theorem rounds_digits : Digits roundsText_ := by unfold Digits; decide +kernel
theorem begin_digits : Digits beginText_ := by unfold Digits; decide +kernel
theorem rword_rounds : ∀ k, k < 64 → rword roundsText_ k 8 = roundWords.getD k 0 := by decide +kernel
theorem rword_begin : ∀ k, k < 8 → rword beginText_ k 8 = beginWords.getD k 0 := by decide +kernel
theorem rkword_any (s : ByteArray) (hs : s.data.toList = roundsText_) (k : Nat) (hk : k < 64) (w : World) :
    Calls Tryd.prog 34 #[.string s, .int .i64 k] w fun e w' => e = .returned (.int .i64 ((roundWords.getD k 0 : Nat) : Int)) ∧ w = w' := by
  have hz : s.size = 512 := by
    have h : s.data.toList.length = 512 := by rw [hs, rounds_size_]
    simpa using h
  have := rword_any s k w (by omega) (by omega) (by rw [hs]; exact rounds_digits)
  rwa [hs, rword_rounds k hk] at this
theorem rbword_any (s : ByteArray) (hs : s.data.toList = beginText_) (k : Nat) (hk : k < 8) (w : World) :
    Calls Tryd.prog 34 #[.string s, .int .i64 k] w fun e w' => e = .returned (.int .i64 ((beginWords.getD k 0 : Nat) : Int)) ∧ w = w' := by
  have hz : s.size = 64 := by
    have h : s.data.toList.length = 64 := by rw [hs, begin_size_]
    simpa using h
  have := rword_any s k w (by omega) (by omega) (by rw [hs]; exact begin_digits)
  rwa [hs, rword_begin k hk] at this
/-- The cells that a round reads. -/
def Nine (w : World) (N q k r1 r2 r3 r4 r5 r6 r7 r8 x : Nat) : Prop :=
  w.cell? ⟨N, 0, none⟩ = some (.int .i64 (r1 : Int)) ∧ w.cell? ⟨N, 1, none⟩ = some (.int .i64 (r2 : Int)) ∧ w.cell? ⟨N, 2, none⟩ = some (.int .i64 (r3 : Int)) ∧ w.cell? ⟨N, 3, none⟩ = some (.int .i64 (r4 : Int)) ∧ w.cell? ⟨N, 4, none⟩ = some (.int .i64 (r5 : Int)) ∧ w.cell? ⟨N, 5, none⟩ = some (.int .i64 (r6 : Int)) ∧ w.cell? ⟨N, 6, none⟩ = some (.int .i64 (r7 : Int)) ∧ w.cell? ⟨N, 7, none⟩ = some (.int .i64 (r8 : Int)) ∧ w.cell? ⟨q, k, none⟩ = some (.int .i64 (x : Int))
theorem step_int {ops : Array Oper} {o : Oper} {a : Act} {K : Act → World → Prop} {Q : Exit → Act → World → Prop} {E : Prop} {w : World} (hgd : o.guard = none) (s x : Operand)
    (ho : o.op = .call { callee := .builtin .append, args := #[s, x], argTypes := #[106, 106] }) (base : Nat) (v : Value) (n : Nat) (xs : List Value) (hs : a.eval s = v) (hown : w.ownsRow base 3 1 v n xs)
    (g : Nat) (y : Nat) (hx : a.eval x = .slice (some ⟨g, 0, none⟩) 1 1) (hc : w.cell? ⟨g, 0, none⟩ = some (.int .i64 (y : Int))) (h63 : n < 10000000000) (hbase : base ≤ w.heap.size)
    (h : ∀ ad c w', w'.ownsRow base 3 1 (.slice ad (n + 1) c) (n + 1) (xs ++ i64s [y]) → w.grownBy w' v.ownBlock → K (a.put o.dst (.slice ad (n + 1) c)) w') :
    if Region.wanted o (yielded ops a.tmps) = true then Oper.wp Tryd.prog o a w K Q else E := by
  obtain ⟨i0, hi, hz0, hz1, hz2⟩ := info_parts info3
  refine step_append_lies w hgd s x 106 ho base 3 i0 (.int .i64 0) 1 8 Tryd.underlying106 hi hz0 hz1 hz2 rfl (by decide) v n xs hs hown ⟨g, 0, none⟩ 1 1 (i64s [y]) hx rfl ?_ (i64s_one _) (by decide) (by unfold maxLen; omega) (by omega) hbase _ rfl ?_
  · intro j u hj
    match j, hj with
    | 0, hj => simp [i64s] at hj; subst hj; exact hc
  · intro g2 c2 w' h1 h2 _ _
    exact h _ c2 w' h1 h2
theorem first_val {x0 x1 x2 x3 y : Nat} (h0 : x0 < 256) (h1 : x1 < 256) (h2 : x2 < 256) (h3 : x3 < 256) (hy : y = 16777216 * x0 + 65536 * x1 + 256 * x2 + x3) :
    IntKind.i64.wrap (IntKind.i64.wrap (IntKind.i64.wrap (IntKind.i64.wrap (16777216 * IntKind.i64.wrap (x0 : Int)) + IntKind.i64.wrap (65536 * IntKind.i64.wrap (x1 : Int))) + IntKind.i64.wrap (256 * IntKind.i64.wrap (x2 : Int))) + IntKind.i64.wrap (x3 : Int)) = (y : Int) := by
  rw [IntWalk.i64_in (x0 : Int) (by omega), IntWalk.i64_in (x1 : Int) (by omega), IntWalk.i64_in (x2 : Int) (by omega), IntWalk.i64_in (x3 : Int) (by omega), IntWalk.i64_in (16777216 * (x0 : Int)) (by omega), IntWalk.i64_in (65536 * (x1 : Int)) (by omega), IntWalk.i64_in (256 * (x2 : Int)) (by omega),
    IntWalk.i64_in (16777216 * (x0 : Int) + 65536 * (x1 : Int)) (by omega), IntWalk.i64_in (16777216 * (x0 : Int) + 65536 * (x1 : Int) + 256 * (x2 : Int)) (by omega), IntWalk.i64_in (16777216 * (x0 : Int) + 65536 * (x1 : Int) + 256 * (x2 : Int) + (x3 : Int)) (by omega), hy]
  simp
theorem keep4 {w w' : World} {r : Option Nat} {g o0 o1 o2 o3 : Nat} {v0 v1 v2 v3 : Value} (hg : w.grownBy w' r) (hne : some g ≠ r)
    (h : w.cell? ⟨g, o0, none⟩ = some v0 ∧ w.cell? ⟨g, o1, none⟩ = some v1 ∧ w.cell? ⟨g, o2, none⟩ = some v2 ∧ w.cell? ⟨g, o3, none⟩ = some v3) :
    w'.cell? ⟨g, o0, none⟩ = some v0 ∧ w'.cell? ⟨g, o1, none⟩ = some v1 ∧ w'.cell? ⟨g, o2, none⟩ = some v2 ∧ w'.cell? ⟨g, o3, none⟩ = some v3 :=
  ⟨hg.cell h.1 hne, hg.cell h.2.1 hne, hg.cell h.2.2.1 hne, hg.cell h.2.2.2 hne⟩
theorem wrap64_is (n : Int) : wrap64 n = IntKind.i64.wrap n := by
  have h2 : IntKind.i64.wrap n = if (9223372036854775808 : Int) ≤ n % 18446744073709551616 then n % 18446744073709551616 - 18446744073709551616 else n % 18446744073709551616 := by
    unfold IntKind.wrap; simp [IntKind.signed, IntKind.bits]
  rw [h2]; unfold wrap64; split <;> omega
theorem rx_val {r1 r2 r3 r4 r5 r6 r7 r8 ch k x : Nat} (h8 : r8 < 4294967296) (h5 : r5 < 4294967296) (hc : ch < 4294967296) (hk : k < 4294967296) (hx : x < 4294967296) (hch : (r5 &&& r6) ^^^ ((4294967295 - r5) &&& r7) = ch) :
    (IntKind.i64.wrap (IntKind.i64.wrap ((r8 : Int) + ((bsig1 r5 : Nat) : Int) + (ch : Int) + (k : Int)) + (x : Int))).tmod 4294967296 = ((xOf ⟨r1, r2, r3, r4, r5, r6, r7, r8⟩ k x : Nat) : Int) := by
  have hb := bsig1_lt h5
  rw [IntWalk.i64_in ((r8 : Int) + ((bsig1 r5 : Nat) : Int) + (ch : Int) + (k : Int)) (by omega), IntWalk.i64_in _ (by omega), Int.tmod_eq_emod_of_nonneg (by omega), flat5_, ← hch]; rfl
theorem rx_val' {r1 r2 r3 r4 r5 r6 r7 r8 ch k x : Nat} (h8 : r8 < 4294967296) (h5 : r5 < 4294967296) (hc : ch < 4294967296) (hk : k < 4294967296) (hx : x < 4294967296) (hch : (r5 &&& r6) ^^^ ((4294967295 - r5) &&& r7) = ch) :
    (wrap64 (wrap64 ((r8 : Int) + ((bsig1 r5 : Nat) : Int) + (ch : Int) + (k : Int)) + (x : Int))).tmod 4294967296 = ((xOf ⟨r1, r2, r3, r4, r5, r6, r7, r8⟩ k x : Nat) : Int) := by
  rw [wrap64_is, wrap64_is]; exact rx_val h8 h5 hc hk hx hch
theorem ry_val {r1 r2 r3 r4 r5 r6 r7 r8 : Nat} {ma : Nat} (hm : ma < 4294967296) (hma : ((r1 &&& r2) ^^^ (r1 &&& r3)) ^^^ (r2 &&& r3) = ma) :
    (((bsig0 r1 : Nat) : Int) + (ma : Int)).tmod 4294967296 = ((yOf ⟨r1, r2, r3, r4, r5, r6, r7, r8⟩ : Nat) : Int) := by
  rw [Int.tmod_eq_emod_of_nonneg (by omega), flat2_, ← hma]; rfl
attribute [local go_sem ↓] Go.wp_at_zero Go.wp_at_succ
set_option maxRecDepth 100000 in
set_option maxHeartbeats 4000000 in
theorem block_any (s : St) (b : List Nat) (ao : Option Addr) (cap : Nat) (w : World) (hs : s.Ok) (hb : b.length = 64) (h8 : ∀ x ∈ b, x < 256) (hbx : BytesIn w (.slice ao 64 cap) b) :
    Calls Tryd.prog 36 #[.agg (i64s s.list).toArray, .slice ao 64 cap] w fun e w' => e = .returned (.agg (i64s (mix s (words b)).list).toArray) ∧ Below w.heap.size w w' := by
  obtain ⟨ad0, cap0, hv, hcap, hcells⟩ := hbx
  rcases hcells with h0 | ⟨g, off, rfl, hcells⟩
  · rw [h0] at hb; simp at hb
  injection hv with e1 e2 e3
  subst e1
  have hgl : g < w.heap.size := block_lt_of_cell (hcells 0 (by omega))
  have HCE := Lib.hid hcells
  have HCAP := Lib.hid hcap
  have HB64 := Lib.hid hb
  have H8 := Lib.hid h8
  have HGL := Lib.hid hgl
  clear hcells hcap hb h8 hgl e2 e3
  go_enter Tryd.func36, Tryd.ntmps36
  go_upto_region 1 with (fail)
  have M0 := Lib.hid (show RMem w.heap.size s.list w ((w.alloc (.cells (i64s s.list).toArray 95)).alloc (.cells (i64s (pad 8 [])).toArray 95)) from
    ⟨heap_alloc2_old w _ _, heap_alloc2_new w _ _, ((Below.refl _ _).alloc (Nat.le_refl _) _).alloc (by simp) _⟩)
  change Code.wp _ _ _ _ ((w.alloc (.cells (i64s s.list).toArray 95)).alloc (.cells (i64s (pad 8 [])).toArray 95))
  generalize (w.alloc (.cells (i64s s.list).toArray 95)).alloc (.cells (i64s (pad 8 [])).toArray 95) = w1 at M0
  go_wp2_with fail
  go_loopw [5, 6] (fun v i wr => ∃ (k : Nat) (ad : Option Addr) (c : Nat), k ≤ 64 ∧ i = .int .i64 k ∧ v = .slice ad k c ∧ wr.ownsRow (w.heap.size + 2) 3 1 (.slice ad k c) k (i64s (wl b k)) ∧ RMem w.heap.size s.list w wr) (fun _ i _ => 64 - (intOf i).toNat)
  case atStart => exact ⟨0, none, 0, Nat.zero_le _, rfl, rfl, World.ownsRow_nil _ _ _ _, M0.out⟩
  case round =>
    obtain ⟨k, ad, c, hk, rfl, rfl, ho, hm⟩ := hrel
    by_cases hlt : k < 64
    · have HO := Lib.hid ho
      have HM := Lib.hid hm
      clear ho hm
      by_cases h16 : k < 16
      · have hc : ∀ j, j < 64 → wr.cell? ⟨g, off + j, none⟩ = some (.int .u8 ((b.getD j 0 : Nat) : Int)) := fun j hj =>
          (HM.out.old.cell (p := ⟨g, off + j, none⟩) HGL.out).trans (HCE.out j (by rw [HB64.out]; exact hj))
        have hc0 := hc (4 * k) (by omega)
        have hc1 := hc (4 * k + 1) (by omega)
        have hc2 := hc (4 * k + 2) (by omega)
        have hc3 := hc (4 * k + 3) (by omega)
        have HBE := Lib.hid (be4_sum H8.out k)
        have b0 := getD_lt H8.out (by decide) (4 * k)
        have b1 := getD_lt H8.out (by decide) (4 * k + 1)
        have b2 := getD_lt H8.out (by decide) (4 * k + 2)
        have b3 := getD_lt H8.out (by decide) (4 * k + 3)
        generalize b.getD (4 * k) 0 = x0 at hc0 b0 HBE
        generalize b.getD (4 * k + 1) 0 = x1 at hc1 b1 HBE
        generalize b.getD (4 * k + 2) 0 = x2 at hc2 b2 HBE
        generalize b.getD (4 * k + 3) 0 = x3 at hc3 b3 HBE
        have hi0 : (0 : Int) ≤ 4 * (k : Int) := by omega
        have hi1 : 4 * (k : Int) + 3 < 64 := by omega
        have hi2 : 4 * (k : Int) < 64 := by omega
        have hi3 : 4 * (k : Int) + 1 < 64 := by omega
        have hi4 : 4 * (k : Int) + 2 < 64 := by omega
        have hj1 : (0 : Int) ≤ 4 * (k : Int) + 1 := by omega
        have hj2 : (0 : Int) ≤ 4 * (k : Int) + 2 := by omega
        have hj3 : (0 : Int) ≤ 4 * (k : Int) + 3 := by omega
        clear hc
        go_wp2_with fail
        have e0 : IntKind.i64.wrap (4 * (k : Int)) = 4 * (k : Int) := by rw [IntWalk.i64_in _ (by omega)]
        have e1 : IntKind.i64.wrap (4 * (k : Int) + 1) = 4 * (k : Int) + 1 := by rw [IntWalk.i64_in _ (by omega)]
        have e2 : IntKind.i64.wrap (4 * (k : Int) + 2) = 4 * (k : Int) + 2 := by rw [IntWalk.i64_in _ (by omega)]
        have e3 : IntKind.i64.wrap (4 * (k : Int) + 3) = 4 * (k : Int) + 3 := by rw [IntWalk.i64_in _ (by omega)]
        have n0 : (4 * (k : Int)).toNat = 4 * k := by omega
        have n1 : (4 * (k : Int) + 1).toNat = 4 * k + 1 := by omega
        have n2 : (4 * (k : Int) + 2).toNat = 4 * k + 2 := by omega
        have n3 : (4 * (k : Int) + 3).toNat = 4 * k + 3 := by omega
        have m0 : off + (4 * k + 1) = off + 4 * k + 1 := by omega
        clear m0
        have HNE := Lib.hid (show some g ≠ (Value.slice ad k c).ownBlock from fun e => by have := own_ge HO.out _ e.symm; have := HGL.out; omega)
        have HSZ := Lib.hid HM.out.size
        have HBV := Lib.hid (first_val b0 b1 b2 b3 HBE.out)
        go_region_held3 (fun w' => w'.cell? ⟨g, off + 4 * k, none⟩ = some (.int .u8 (x0 : Int)) ∧ w'.cell? ⟨g, off + (4 * k + 1), none⟩ = some (.int .u8 (x1 : Int)) ∧ w'.cell? ⟨g, off + (4 * k + 2), none⟩ = some (.int .u8 (x2 : Int)) ∧ w'.cell? ⟨g, off + (4 * k + 3), none⟩ = some (.int .u8 (x3 : Int)))
          (first | go_keep | exact keep4 (by assumption) HNE.out (by assumption))
          ((refine step_int (by rfl) (.tmp 28) (.tmp 62) (by rfl) (w.heap.size + 2) _ k (i64s (wl b k)) (by rfl) (by exact HO.out.alloc _) wr.heap.size (be4 b k) (by rfl) (by rw [HBV.out]; exact cell_of_row _ wr.heap.size 0 _ _ _ (heap_alloc_new wr _)) (by omega) (by have := HSZ.out; simp; omega) ?_; intro ad2 c2 w2 hown2 hg2))
        have M2 := Lib.hid (RMem.grown (HM.out.below (by first | exact (((Below.refl _ _).alloc (Nat.le_refl _) _).drew) | exact (((Below.refl _ _).drew).alloc (Nat.le_refl _) _))) hg2 (own_ge HO.out))
        have O2 := Lib.hid (show w2.ownsRow (w.heap.size + 2) 3 1 (.slice ad2 (k + 1) c2) (k + 1) (i64s (wl b (k + 1))) by
          have e : i64s (wl b (k + 1)) = i64s (wl b k) ++ i64s [be4 b k] := by rw [wl, if_pos h16]; simp [i64s]
          rw [e]; exact hown2)
        clear hown2 hg2 hc0 hc1 hc2 hc3 b0 b1 b2 b3 e0 e1 e2 e3 n0 n1 n2 n3 hi0 hi1 hi2 hi3 hi4 hj1 hj2 hj3
        rename_i hHeld1
        clear hHeld1
        go_wp2_with fail
        go_roundw
        case rel => exact ⟨k + 1, ad2, c2, by omega, by go_num, rfl, O2.out, M2.out⟩
        case measure => simp [intOf]; omega
      · have hge16 : 16 ≤ k := by omega
        have hwl := wl_length b k
        have hw32 := wl_lt H8.out k
        obtain ⟨gq, rfl, hcq⟩ := int_cell HO.out hwl (by omega)
        have q15 := hcq (k - 15) (by omega)
        have q2 := hcq (k - 2) (by omega)
        have q7 := hcq (k - 7) (by omega)
        have q16 := hcq (k - 16) (by omega)
        have y15 := getD_lt hw32 (by decide) (k - 15)
        have y2 := getD_lt hw32 (by decide) (k - 2)
        have y7 := getD_lt hw32 (by decide) (k - 7)
        have y16 := getD_lt hw32 (by decide) (k - 16)
        have HWN := Lib.hid (show wnext (wl b k) = (ssig1 ((wl b k).getD (k - 2) 0) + (wl b k).getD (k - 7) 0 + ssig0 ((wl b k).getD (k - 15) 0) + (wl b k).getD (k - 16) 0) % 4294967296 by unfold wnext; rw [hwl]; omega)
        generalize (wl b k).getD (k - 15) 0 = v15 at q15 y15 HWN
        generalize (wl b k).getD (k - 2) 0 = v2 at q2 y2 HWN
        generalize (wl b k).getD (k - 7) 0 = v7 at q7 y7 HWN
        generalize (wl b k).getD (k - 16) 0 = v16 at q16 y16 HWN
        have i1 : (0 : Int) ≤ (k : Int) - 15 := by omega
        have i2 : (0 : Int) ≤ (k : Int) - 2 := by omega
        have i3 : (0 : Int) ≤ (k : Int) - 7 := by omega
        have i4 : (0 : Int) ≤ (k : Int) - 16 := by omega
        clear hcq hw32 hwl h16
        go_wp2_with fail
        refine (turn_any v15 7 _ y15 (by decide) (by decide)).mono ?_
        rintro e w3 ⟨rfl, rfl⟩
        go_wp2_with fail
        refine (turn_any v15 18 _ y15 (by decide) (by decide)).mono ?_
        rintro e w3 ⟨rfl, rfl⟩
        go_wp2_with fail
        refine (turn_any v2 17 _ y2 (by decide) (by decide)).mono ?_
        rintro e w3 ⟨rfl, rfl⟩
        go_wp2_with fail
        refine (turn_any v2 19 _ y2 (by decide) (by decide)).mono ?_
        rintro e w3 ⟨rfl, rfl⟩
        go_wp2_with fail
        rw [ssig0_val y15, ssig1_val y2]
        have z0 := ssig0_lt y15
        have z1 := ssig1_lt y2
        generalize ssig0 v15 = s0 at z0 HWN
        generalize ssig1 v2 = s1 at z1 HWN
        clear q15 q2 y15 y2 i1 i2
        have e3 : IntKind.i64.wrap ((k : Int) - 7) = (k : Int) - 7 := by rw [IntWalk.i64_in _ (by omega)]
        have e4 : IntKind.i64.wrap ((k : Int) - 16) = (k : Int) - 16 := by rw [IntWalk.i64_in _ (by omega)]
        have n3 : ((k : Int) - 7).toNat = k - 7 := by omega
        have n4 : ((k : Int) - 16).toNat = k - 16 := by omega
        have l1 : (7 : Int) ≤ (k : Int) := by omega
        have l2 : (16 : Int) ≤ (k : Int) := by omega
        have l3 : (k : Int) - 7 < (k : Int) := by omega
        have l4 : (k : Int) - 16 < (k : Int) := by omega
        have HSZ := Lib.hid HM.out.size
        have hv : (IntKind.i64.wrap (IntKind.i64.wrap (IntKind.i64.wrap ((s1 : Int) + (v7 : Int)) + (s0 : Int)) + (v16 : Int))).tmod 4294967296 = ((wnext (wl b k) : Nat) : Int) := by
          rw [IntWalk.i64_in ((s1 : Int) + (v7 : Int)) (by omega), IntWalk.i64_in ((s1 : Int) + (v7 : Int) + (s0 : Int)) (by omega), IntWalk.i64_in ((s1 : Int) + (v7 : Int) + (s0 : Int) + (v16 : Int)) (by omega), Int.tmod_eq_emod_of_nonneg (by omega), HWN.out]
          simp
        have HV := Lib.hid hv
        clear hv
        go_region_law ((refine step_int (by rfl) (.tmp 90) (.tmp 107) (by rfl) (w.heap.size + 2) _ k (i64s (wl b k)) (by rfl) (by exact HO.out.alloc _) wr.heap.size (wnext (wl b k)) (by rfl) (by rw [← HV.out]; exact cell_of_row _ wr.heap.size 0 _ _ _ (heap_alloc_new wr _)) (by omega) (by have := HSZ.out; simp; omega) ?_; intro ad2 c2 w2 hown2 hg2))
        all_goals
          have M2 := Lib.hid (RMem.grown (HM.out.below (by first | exact (((Below.refl _ _).alloc (Nat.le_refl _) _).drew) | exact (((Below.refl _ _).drew).alloc (Nat.le_refl _) _))) hg2 (own_ge HO.out))
          have O2 := Lib.hid (show w2.ownsRow (w.heap.size + 2) 3 1 (.slice ad2 (k + 1) c2) (k + 1) (i64s (wl b (k + 1))) by
            have e : i64s (wl b (k + 1)) = i64s (wl b k) ++ i64s [wnext (wl b k)] := by rw [wl, if_neg (by omega)]; simp [i64s]
            rw [e]; exact hown2)
          clear hown2 hg2 q7 q16 e3 e4 n3 n4 l1 l2 l3 l4 i3 i4 y7 y16 z0 z1
          try simp only [Act.put, List.setIfInBounds_toArray]
          go_wp2_with fail
          go_roundw
          case rel =>
            first
              | exact ⟨k + 1, ad2, c2, by omega, by go_num, rfl, O2.out, M2.out⟩
              | (repeat apply Exists.intro
                 refine ⟨?_, rfl⟩
                 exact ⟨k + 1, ad2, c2, by omega, by go_num, rfl, O2.out, M2.out⟩)
          case measure => simp [intOf]; omega
    · have e : k = 64 := by omega
      subst e
      rw [wl_words] at ho
      obtain ⟨gq, rfl, hcq⟩ := int_cell ho (words_length b) (by decide)
      have HO := Lib.hid ho
      have HM := Lib.hid hm
      clear ho hm hlt hcq
      go_upto_region 12 with (fail)
      have hst := HM.out.st
      have hsz : (i64s s.list).toArray.size = 8 := rfl
      refine wp_region_lit ?_
      refine wpList_load_row rfl 95 _ rfl w.heap.size rfl 95 _ _ _ hst Tryd.underlying95 rfl (by rw [hsz]; kernel_rfl) ?_
      clear hst
      refine wpList_plain rfl (fun K hK => ?_)
      go_simp
      refine hK _ _ ?_
      clear hK K
      have hbk : (wr.alloc (.cells (i64s (pad 8 [])).toArray 95)).heap[wr.heap.size]? = some (.cells (i64s (pad 8 [])).toArray 95 (0, 0)) := heap_alloc_new wr _
      refine wpList_store_mid rfl 95 _ _ rfl wr.heap.size 0 _ rfl rfl (there_of_block hbk 0 _ (by rw [hsz]; decide)) (by rw [hsz]; kernel_rfl) (i64s_cells _) ?_
      have hv2 : ((wr.alloc (.cells (i64s (pad 8 [])).toArray 95)).setCells wr.heap.size 0 (i64s s.list).toArray.toList).heap[wr.heap.size]? = some (.cells (i64s s.list).toArray 95 (0, 0)) := by
        have := heap_setCells wr.heap.size 95 (0, 0) (i64s s.list) 0 _ _ hbk (by rw [i64s_length, i64s_length, St.list_length]; decide)
        rw [this]; rfl
      have V2 := Lib.hid (show VMem w.heap.size wr.heap.size s.list s.list w ((wr.alloc (.cells (i64s (pad 8 [])).toArray 95)).setCells wr.heap.size 0 (i64s s.list).toArray.toList) from
        ⟨(HM.out.below ((Below.refl _ _).alloc (Nat.le_refl _) _)).grown (gsetCells wr.heap.size _ 0 _) (by intro k hk; injection hk with hk; rw [← hk]; exact HM.out.size), hv2, HM.out.size⟩)
      have hgqN : gq < wr.heap.size := by
        rcases HO.out.2 with ⟨h, _⟩ | ⟨g', c', cur, h, _, hh, _⟩
        · cases h
        · injection h with h1; injection h1 with h1; injection h1 with h1; rw [h1]; exact lt_of_heap_ hh
      have O2 := Lib.hid ((HO.out.alloc (.cells (i64s (pad 8 [])).toArray 95)).kept (gsetCells wr.heap.size (i64s s.list).toArray.toList 0 _) (.inr (by simp [Value.ownBlock]; omega)))
      have HGQ := Lib.hid hgqN
      change wpList _ _ _ _ _ ((wr.alloc (.cells (i64s (pad 8 [])).toArray 95)).setCells wr.heap.size 0 (i64s s.list).toArray.toList)
      generalize (wr.alloc (.cells (i64s (pad 8 [])).toArray 95)).setCells wr.heap.size 0 (i64s s.list).toArray.toList = w2 at V2 O2
      clear hbk hv2 hgqN HO HM
      generalize wr.heap.size = N at V2 HGQ
      go_wp2_with fail
      go_loopw [12] (fun i wr => ∃ k : Nat, k ≤ 64 ∧ i = .int .i64 k ∧ VMem w.heap.size N s.list (run s (words b) k).list w wr ∧ wr.ownsRow (w.heap.size + 2) 3 1 (.slice (some ⟨gq, 0, none⟩) 64 c) 64 (i64s (words b))) (fun i _ => 64 - (intOf i).toNat)
      case atStart => exact ⟨0, Nat.zero_le _, rfl, V2.out, O2.out⟩
      case round =>
        obtain ⟨k, hk, rfl, hv, ho⟩ := hrel
        by_cases hlt : k < 64
        · have hwk : wr.cell? ⟨gq, k, none⟩ = some (.int .i64 (((words b).getD k 0 : Nat) : Int)) := by
            rw [ho.cellAt k (by omega)]; exact i64s_at (by rw [words_length]; exact hlt)
          have hws := getD_lt (words_lt H8.out) (by decide) k
          have hrk := getD_lt round_lt (by decide) k
          have o := run_ok hs (words b) k
          have HN := Lib.hid (show run s (words b) (k + 1) = rnd (run s (words b) k) (roundWords.getD k 0) ((words b).getD k 0) from rfl)
          generalize run s (words b) k = r at hv HN o
          generalize (words b).getD k 0 = x at hwk hws HN
          obtain ⟨r1, r2, r3, r4, r5, r6, r7, r8⟩ := r
          obtain ⟨o1, o2, o3, o4, o5, o6, o7, o8⟩ := o
          simp only at o1 o2 o3 o4 o5 o6 o7 o8
          have c0 : wr.cell? ⟨N, 0, none⟩ = some (.int .i64 (r1 : Int)) := vcell hv 0 (by rw [St.list_length]; decide)
          have c1 : wr.cell? ⟨N, 1, none⟩ = some (.int .i64 (r2 : Int)) := vcell hv 1 (by rw [St.list_length]; decide)
          have c2 : wr.cell? ⟨N, 2, none⟩ = some (.int .i64 (r3 : Int)) := vcell hv 2 (by rw [St.list_length]; decide)
          have c3 : wr.cell? ⟨N, 3, none⟩ = some (.int .i64 (r4 : Int)) := vcell hv 3 (by rw [St.list_length]; decide)
          have c4 : wr.cell? ⟨N, 4, none⟩ = some (.int .i64 (r5 : Int)) := vcell hv 4 (by rw [St.list_length]; decide)
          have c5 : wr.cell? ⟨N, 5, none⟩ = some (.int .i64 (r6 : Int)) := vcell hv 5 (by rw [St.list_length]; decide)
          have c6 : wr.cell? ⟨N, 6, none⟩ = some (.int .i64 (r7 : Int)) := vcell hv 6 (by rw [St.list_length]; decide)
          have c7 : wr.cell? ⟨N, 7, none⟩ = some (.int .i64 (r8 : Int)) := vcell hv 7 (by rw [St.list_length]; decide)
          have HVM := Lib.hid hv
          have HOW := Lib.hid ho
          have hi0 : (0 : Int) ≤ (k : Int) := by omega
          have hi1 : (k : Int) < 64 := by omega
          clear hv ho
          go_wp2_with fail
          refine (turn_any r5 6 _ o5 (by decide) (by decide)).mono ?_
          rintro e w3 ⟨rfl, rfl⟩
          go_wp2_with fail
          refine (turn_any r5 11 _ o5 (by decide) (by decide)).mono ?_
          rintro e w3 ⟨rfl, rfl⟩
          go_wp2_with fail
          refine (turn_any r5 25 _ o5 (by decide) (by decide)).mono ?_
          rintro e w3 ⟨rfl, rfl⟩
          go_wp2_with fail
          rw [bsig1_val o5]
          have z1 := bsig1_lt o5
          have HB1 := Lib.hid (show bsig1 r5 = bsig1 r5 from rfl)
          have e9 : IntKind.i64.wrap (4294967295 - (r5 : Int)) = ((4294967295 - r5 : Nat) : Int) := by rw [IntWalk.i64_in _ (by omega)]; omega
          have l9 : 4294967295 - r5 < 4294967296 := by omega
          go_quiet ((go_at_call 44; exact Calls.quiet_of_same ((both_any _ _ _ (by omega) (by omega)).mono fun _ _ h => ⟨h.1, h.2.symm⟩)))
          have z3 := and_lt r6 o5
          have z4 := and_lt r7 l9
          have z2 := xor_lt z3 z4
          go_wp2_with fail
          rw [i64_xor_nat _ _ (by omega) (by omega)]
          generalize hch : (r5 &&& r6) ^^^ ((4294967295 - r5) &&& r7) = ch at z2
          have HCH := Lib.hid hch
          clear hch z3 z4 e9 l9
          have n9 : Nine (wr.drewN nq) N gq k r1 r2 r3 r4 r5 r6 r7 r8 x := ⟨c0, c1, c2, c3, c4, c5, c6, c7, hwk⟩
          have HVM2 := Lib.hid (HVM.out.below (belowg (gdrewN wr nq none)))
          have HOW2 := Lib.hid (HOW.out.kept (gdrewN wr nq none) (.inr (by simp [Value.ownBlock])))
          clear c0 c1 c2 c3 c4 c5 c6 c7 hwk HVM HOW
          change Code.wp _ _ _ _ (wr.drewN nq)
          generalize wr.drewN nq = wq at n9 HVM2 HOW2
          clear nq wr
          obtain ⟨c0, c1, c2, c3, c4, c5, c6, c7, hwk⟩ := n9
          go_quiet ((go_at_call 34; exact Calls.quiet_of_same ((rkword_any _ (by kernel_rfl) k hlt _).mono fun _ _ h => ⟨h.1, h.2.symm⟩)))
          go_wp2_with fail
          have kd : roundWords[k]?.getD 0 = roundWords.getD k 0 := (List.getD_eq_getElem?_getD ..).symm
          rw [kd, rx_val' (r1 := r1) (r2 := r2) (r3 := r3) (r4 := r4) o8 o5 z2 hrk hws HCH.out]
          have HXL := Lib.hid (show xOf ⟨r1, r2, r3, r4, r5, r6, r7, r8⟩ (roundWords.getD k 0) x < 4294967296 from Nat.mod_lt _ (by decide))
          generalize hX : xOf ⟨r1, r2, r3, r4, r5, r6, r7, r8⟩ (roundWords.getD k 0) x = X at HXL
          have HX := Lib.hid hX
          clear hX kd hrk hws
          refine (turn_any r1 2 _ o1 (by decide) (by decide)).mono ?_
          rintro e w3 ⟨rfl, rfl⟩
          go_wp2_with fail
          refine (turn_any r1 13 _ o1 (by decide) (by decide)).mono ?_
          rintro e w3 ⟨rfl, rfl⟩
          go_wp2_with fail
          refine (turn_any r1 22 _ o1 (by decide) (by decide)).mono ?_
          rintro e w3 ⟨rfl, rfl⟩
          go_wp2_with fail
          rw [bsig0_val o1]
          have y1 := bsig0_lt o1
          have HB0 := Lib.hid (show bsig0 r1 = bsig0 r1 from rfl)
          have n9 : Nine (wq.drewN nq) N gq k r1 r2 r3 r4 r5 r6 r7 r8 x := ⟨c0, c1, c2, c3, c4, c5, c6, c7, hwk⟩
          have HVM := Lib.hid (HVM2.out.below (belowg (gdrewN wq nq none)))
          have HOW := Lib.hid (HOW2.out.kept (gdrewN wq nq none) (.inr (by simp [Value.ownBlock])))
          clear c0 c1 c2 c3 c4 c5 c6 c7 hwk HVM2 HOW2
          change Code.wp _ _ _ _ (wq.drewN nq)
          generalize wq.drewN nq = wr at n9 HVM HOW
          clear nq wq
          obtain ⟨c0, c1, c2, c3, c4, c5, c6, c7, hwk⟩ := n9
          go_quiet ((go_at_call 44; exact Calls.quiet_of_same ((both_any _ _ _ (by omega) (by omega)).mono fun _ _ h => ⟨h.1, h.2.symm⟩)))
          have z3 := and_lt r2 o1
          have z4 := and_lt r3 o1
          have z5 := and_lt r3 o2
          have z6 := xor_lt z3 z4
          have z7 := xor_lt z6 z5
          go_upto_region 24 with (fail)
          rw [i64_xor_nat (r1 &&& r2) _ (by omega) (by omega), i64_xor_nat _ (r2 &&& r3) (by omega) (by omega)]
          generalize hma : ((r1 &&& r2) ^^^ (r1 &&& r3)) ^^^ (r2 &&& r3) = ma at z7
          have HMA := Lib.hid hma
          clear hma z3 z4 z5 z6
          have n9 : Nine (wr.drewN nq) N gq k r1 r2 r3 r4 r5 r6 r7 r8 x := ⟨c0, c1, c2, c3, c4, c5, c6, c7, hwk⟩
          have HVM2 := Lib.hid (HVM.out.below (belowg (gdrewN wr nq none)))
          have HOW2 := Lib.hid (HOW.out.kept (gdrewN wr nq none) (.inr (by simp [Value.ownBlock])))
          clear c0 c1 c2 c3 c4 c5 c6 c7 hwk HVM HOW
          change Code.wp _ _ _ _ (wr.drewN nq)
          generalize wr.drewN nq = wq at n9 HVM2 HOW2
          clear nq wr
          obtain ⟨c0, c1, c2, c3, c4, c5, c6, c7, hwk⟩ := n9
          have HYL := Lib.hid (show yOf ⟨r1, r2, r3, r4, r5, r6, r7, r8⟩ < 4294967296 from Nat.mod_lt _ (by decide))
          have ey : ∀ n m : Nat, n < 4294967296 → m < 4294967296 → (wrap64 ((n : Int) + (m : Int))).tmod 4294967296 = (((n + m) % 4294967296 : Nat) : Int) := fun n m hn hm => by
            rw [wrap64_is, IntWalk.i64_in _ (by omega), Int.tmod_eq_emod_of_nonneg (by omega), flat2_]
          rw [ey _ _ y1 z7]
          have hy0 : (bsig0 r1 + ma) % 4294967296 = yOf ⟨r1, r2, r3, r4, r5, r6, r7, r8⟩ := by rw [← HMA.out]; rfl
          rw [hy0]
          refine wp_region_lit ?_
          iterate 22 (refine wpList_plain rfl (fun K hK => ?_); go_simp; refine hK _ _ ?_; clear hK K)
          have hl : (run s (words b) (k + 1)).list = [(X + yOf ⟨r1, r2, r3, r4, r5, r6, r7, r8⟩) % 4294967296, r1, r2, r3, (r4 + X) % 4294967296, r5, r6, r7] := by rw [HN.out, ← HX.out]; rfl
          have hbk := HVM2.out.v
          have hsz : (i64s (run s (words b) (k + 1)).list).toArray.size = 8 := rfl
          refine wpList_store_mid rfl 95 _ _ rfl N 0 (i64s (run s (words b) (k + 1)).list).toArray rfl ?_ (there_of_block hbk 0 _ (by rw [hsz]; simp [i64s, St.list])) (by rw [hsz]; kernel_rfl) (i64s_cells _) ?_
          · rw [hl]
            go_simp
            rw [← wrap64_is, ← wrap64_is, ey _ _ HXL.out HYL.out, ey _ _ o4 HXL.out]; rfl
          have hv2 : (wq.setCells N 0 (i64s (run s (words b) (k + 1)).list).toArray.toList).heap[N]? = some (.cells (i64s (run s (words b) (k + 1)).list).toArray 95 (0, 0)) := by
            have := heap_setCells N 95 (0, 0) (i64s (run s (words b) (k + 1)).list) 0 _ _ hbk (by rw [i64s_length, i64s_length, St.list_length, St.list_length]; decide)
            rw [this]; rfl
          have V3 := Lib.hid (show VMem w.heap.size N s.list (run s (words b) (k + 1)).list w (wq.setCells N 0 (i64s (run s (words b) (k + 1)).list).toArray.toList) from
            ⟨HVM2.out.mem.grown (gsetCells N _ 0 _) (by intro k hk; injection hk with hk; rw [← hk]; exact HVM2.out.big), hv2, HVM2.out.big⟩)
          have O3 := Lib.hid (HOW2.out.kept (gsetCells N (i64s (run s (words b) (k + 1)).list).toArray.toList 0 _) (.inr (by have := HGQ.out; simp [Value.ownBlock]; omega)))
          change wpList _ _ _ _ _ (wq.setCells N 0 (i64s (run s (words b) (k + 1)).list).toArray.toList)
          generalize wq.setCells N 0 (i64s (run s (words b) (k + 1)).list).toArray.toList = wz at V3 O3
          clear hv2 hbk HVM2 HOW2 c0 c1 c2 c3 c4 c5 c6 c7 hwk
          go_wp2_with fail
          go_roundw
          case rel => exact ⟨k + 1, by omega, by go_num, V3.out, O3.out⟩
          case measure => simp [intOf]; omega
        · have e : k = 64 := by omega
          subst e
          have o := run_ok hs (words b) 64
          have HV := Lib.hid (show mix s (words b) = plus s (run s (words b) 64) from rfl)
          generalize run s (words b) 64 = v at hv HV o
          have HVM := Lib.hid hv
          have HO := Lib.hid o.all
          clear o hv ho hlt
          go_wp2_with fail
          go_loopw [21] (fun i wr => ∃ j : Nat, j ≤ 8 ∧ i = .int .i64 j ∧ VMem w.heap.size N s.list (addUpto_ v.list s.list j) w wr) (fun i _ => 8 - (intOf i).toNat)
          case atStart => exact ⟨0, Nat.zero_le _, rfl, HVM.out⟩
          case round =>
            obtain ⟨j, hj, rfl, hm⟩ := hrel
            by_cases hlt : j < 8
            · have hc : wr.cell? ⟨N, j, none⟩ = some (.int .i64 ((v.list.getD j 0 : Nat) : Int)) := by
                have := vcell hm j (by rw [addUpto_length_, St.list_length]; exact hlt)
                rwa [addUpto_getD_ _ _ _ _ (Nat.le_refl _)] at this
              have hcs : wr.cell? ⟨w.heap.size, j, none⟩ = some (.int .i64 ((s.list.getD j 0 : Nat) : Int)) := by
                rw [cell_of_row wr w.heap.size j _ _ _ hm.mem.st, List.getElem?_toArray]; exact i64s_at (by rw [St.list_length]; exact hlt)
              have hf : wr.frozen? ⟨N, j, none⟩ = false := vfree hm j
              have hxs := getD_lt hs.all (by decide) j
              have hxv := getD_lt HO.out (by decide) j
              have HS := Lib.hid (show addUpto_ v.list s.list (j + 1) = (addUpto_ v.list s.list j).set j ((v.list.getD j 0 + s.list.getD j 0) % 4294967296) from rfl)
              have HN := Lib.hid hm
              generalize s.list.getD j 0 = x at hcs hxs HS
              generalize v.list.getD j 0 = y at hc hxv HS
              have hj0 : (0 : Int) ≤ (j : Int) := by omega
              have hj1 : (j : Int) < 8 := by omega
              clear hm
              go_wp2_with fail
              go_still_tail 10, (by kernel_rfl)
              change wpList _ _ _ _ _ wr.drew
              go_wp2
              go_roundw
              case rel =>
                first
                  | refine ⟨(j + 1 : Nat), by omega, by go_num, ?_⟩
                  | (repeat apply Exists.intro
                     refine ⟨?_, rfl⟩
                     refine ⟨(j + 1 : Nat), by omega, by go_num, ?_⟩)
                rw [HS.out]
                rw [flat2_]
                exact (HN.out.set j _).below ((Below.refl _ _).drew)
              case measure => simp [intOf]; omega
            · have e : j = 8 := by omega
              subst e
              have HN := Lib.hid hm
              clear hm hlt
              go_upto_region 29 with (fail)
              have eM : addUpto_ v.list s.list 8 = (mix s (words b)).list := by
                rw [HV.out]
                rw [addUpto_plus_]
                simp only [plus, St.list, Nat.add_comm]
              rw [eM] at HN
              generalize hmx : mix s (words b) = mx at HN
              have HMX := Lib.hid hmx
              clear hmx eM HV
              have hrow := HN.out.v
              have hres := HN.out.mem.res
              have hsz : (i64s mx.list).toArray.size = 8 := rfl
              have hth : wr.there (w.heap.size + 1) 0 (i64s mx.list).toArray.size := there_of_block hres 0 _ (by rw [hsz]; decide)
              have hend : ((wr.setCells (w.heap.size + 1) 0 (i64s mx.list).toArray.toList).heap[w.heap.size + 1]? = some (.cells (i64s mx.list).toArray 95 (0, 0))) := by
                have := heap_setCells (w.heap.size + 1) 95 (0, 0) (i64s mx.list) 0 wr _ hres (by rw [i64s_length, i64s_length, pad_length (by decide), St.list_length]; decide)
                rw [this]; rfl
              have HE := Lib.hid hend
              clear hend hres
              refine wp_region_lit ?_
              refine wpList_load_row rfl 95 _ rfl N rfl 95 _ _ _ hrow Tryd.underlying95 rfl (by rw [hsz]; kernel_rfl) ?_
              refine wpList_store_mid rfl 95 _ _ rfl (w.heap.size + 1) 0 _ rfl rfl hth (by rw [hsz]; kernel_rfl) (i64s_cells _) ?_
              clear hrow hth
              have HB := Lib.hid (below_setCells (w.heap.size + 1) (by omega) (i64s mx.list).toArray.toList 0 _ HN.out.mem.old)
              generalize wr.setCells (w.heap.size + 1) 0 (i64s mx.list).toArray.toList = wz at HE HB
              go_wp2_with fail
              exact bodyPost_ret (v := .agg (i64s mx.list).toArray) (results_cell_row rfl _ _ (w.heap.size + 1) 95 _ (0, 0) _ rfl HE.out Tryd.underlying95 rfl (by rw [hsz]; kernel_rfl)) rfl ⟨by rw [HMX.out], HB.out⟩
end Sha
end Go.Proofs.YtoiidedigbfnaaaDoor
/- More of the same, for RefOf, RefCode, RefTag. -/
namespace Go.Proofs.YtoiidedigbfnaaaDoor
open Go.RowKit Cut Apd
namespace Sha
theorem ofInt_8_ (a : Nat) (ha : a < 256) : (BitVec.ofInt 8 (a : Int)).toNat = a := by
  rw [BitVec.ofInt_natCast, BitVec.toNat_ofNat]; exact Nat.mod_eq_of_lt (by omega)
theorem drop_cell_ {w : World} {b : Nat} {l : List Nat} {T : TypeId} (h : w.heap[b]? = some (.cells (u8s l).toArray T (0, 0))) (k : Nat) (hk : k < l.length) :
    w.cell? ⟨b, k, none⟩ = some (.int .u8 ((l.getD k 0 : Nat) : Int)) := (cell_of_row w b k _ _ _ h).trans (u8s_at hk)
theorem bytes4_val_ (x : Nat) : ∀ j, j < 4 → x / 2 ^ (24 - 8 * j) % 256 = (bytes4 x).getD j 0
  | 0, _ => rfl | 1, _ => rfl | 2, _ => rfl | 3, _ => by simp [bytes4]
  | k + 4, h => by omega
theorem out_length_ (s : St) : (out s).length = 32 := rfl
theorem out_snoc_ (s : St) (i j : Nat) (hi : i < 8) (hj : j < 4) : (out s).take (4 * i + (j + 1)) = (out s).take (4 * i + j) ++ [(bytes4 (s.list.getD i 0)).getD j 0] := by
  have hl := out_length_ s
  rw [← Nat.add_assoc, List.take_succ_eq_append_getElem (by omega)]
  congr 2
  match i, hi, j, hj with
  | 0, _, 0, _ => rfl | 0, _, 1, _ => rfl | 0, _, 2, _ => rfl | 0, _, 3, _ => rfl
  | 1, _, 0, _ => rfl | 1, _, 1, _ => rfl | 1, _, 2, _ => rfl | 1, _, 3, _ => rfl
  | 2, _, 0, _ => rfl | 2, _, 1, _ => rfl | 2, _, 2, _ => rfl | 2, _, 3, _ => rfl
  | 3, _, 0, _ => rfl | 3, _, 1, _ => rfl | 3, _, 2, _ => rfl | 3, _, 3, _ => rfl
  | 4, _, 0, _ => rfl | 4, _, 1, _ => rfl | 4, _, 2, _ => rfl | 4, _, 3, _ => rfl
  | 5, _, 0, _ => rfl | 5, _, 1, _ => rfl | 5, _, 2, _ => rfl | 5, _, 3, _ => rfl
  | 6, _, 0, _ => rfl | 6, _, 1, _ => rfl | 6, _, 2, _ => rfl | 6, _, 3, _ => rfl
  | 7, _, 0, _ => rfl | 7, _, 1, _ => rfl | 7, _, 2, _ => rfl | 7, _, 3, _ => rfl

theorem bk_ {w w' : World} {b : Nat} (hb : Below w.heap.size w w') (hlt : b < w.heap.size) :
    (∀ o, w'.cell? ⟨b, o, none⟩ = w.cell? ⟨b, o, none⟩) ∧ (∀ o, w'.frozen? ⟨b, o, none⟩ = w.frozen? ⟨b, o, none⟩) ∧ b < w'.heap.size :=
  ⟨fun o => hb.cell (p := ⟨b, o, none⟩) hlt, fun o => hb.frozen (p := ⟨b, o, none⟩) hlt, Nat.lt_of_lt_of_le hlt hb.size⟩
theorem info5_ : (Tryd.prog.info? 5).map (fun i => (i.zero, i.size, i.bytes)) = some (some (.int .u8 0), 1, 1) := by kernel_rfl
theorem u8_xor_nat_ (a b : Nat) (ha : a < 256) (hb : b < 256) : bits .xor .u8 (a : Int) (b : Int) = ((a ^^^ b : Nat) : Int) := by
  have hx : a ^^^ b < 2 ^ 8 := Nat.xor_lt_two_pow ha hb
  show IntKind.u8.wrap ((BitVec.ofInt 8 (a : Int) ^^^ BitVec.ofInt 8 (b : Int)).toNat : Int) = _
  rw [BitVec.toNat_xor, ofInt_8_ a ha, ofInt_8_ b hb, IntWalk.u8_in]
  omega
theorem row_bytes_ {w : World} {b n c : Nat} {l : List Nat} {T : TypeId} (h : w.heap[b]? = some (.cells (u8s l).toArray T (0, 0))) (hn : n ≤ l.length) (hc : n ≤ c) : BytesIn w (.slice (some ⟨b, 0, none⟩) n c) (l.take n) := by
  have hl : (l.take n).length = n := by rw [List.length_take]; omega
  refine ⟨_, c, by rw [hl], by rw [hl]; exact hc, .inr ⟨b, 0, rfl, fun j hj => ?_⟩⟩
  rw [hl] at hj
  rw [Nat.zero_add, drop_cell_ h j (by omega)]
  simp [List.getD_eq_getElem?_getD, hj]
/-- A fresh block of 32. -/
def Free32_ (w : World) (M : Nat) : Prop := w.heap[M]? = some (.cells (u8s (pad 32 [])).toArray 59 (0, 0))
theorem free_new_ (w : World) : Free32_ (w.alloc (.cells (u8s (pad 32 [])).toArray 59)) w.heap.size := heap_alloc_new w _
theorem free_below_ {w w' : World} {M : Nat} (h : Free32_ w M) (hb : Below w.heap.size w w') : Free32_ w' M := (hb.block _ (lt_of_heap_ h)).trans h
theorem row_all_ {w : World} {b n : Nat} {l : List Nat} {T : TypeId} (h : w.heap[b]? = some (.cells (u8s l).toArray T (0, 0))) (hl : l.length = n) : BytesIn w (.slice (some ⟨b, 0, none⟩) n n) l := by
  subst hl
  exact ⟨_, l.length, rfl, Nat.le_refl _, .inr ⟨b, 0, rfl, fun j hj => by rw [Nat.zero_add]; exact drop_cell_ h j hj⟩⟩
end Sha
end Go.Proofs.YtoiidedigbfnaaaDoor
/- 'Of' of the document's answer: the sum of a text. -/
namespace Go.Proofs.YtoiidedigbfnaaaDoor
open Go.RowKit
namespace Sha
/-- The memory of 'Of': its result, the state. -/
structure OMem (H : Nat) (l : List Nat) (w0 w : World) : Prop where
  res : w.heap[H]? = some (.cells (u8s (pad 32 [])).toArray 59 (0, 0))
  st : w.heap[H + 1]? = some (.cells (i64s l).toArray 95 (0, 0))
  old : Below H w0 w
theorem OMem.below {H : Nat} {l : List Nat} {w0 w w1 : World} (h : OMem H l w0 w) (hb : Below w.heap.size w w1) : OMem H l w0 w1 :=
  ⟨(hb.block _ (lt_of_heap_ h.res)).trans h.res, (hb.block _ (lt_of_heap_ h.st)).trans h.st, h.old.trans (hb.mono (Nat.le_of_lt (lt_of_heap_ h.res)))⟩
theorem OMem.set {H : Nat} {l : List Nat} {w0 w : World} (h : OMem H l w0 w) (j x : Nat) : OMem H (l.set j x) w0 (w.setCell ⟨H + 1, j, none⟩ (.int .i64 (x : Int))) :=
  ⟨(heap_setCell_other w _ H _ (by simp)).trans h.res, by rw [heap_setCell_same w (H + 1) j _ _ _ h.st, i64s_set], h.old.setCell (by simp) _⟩
theorem OMem.cell {H : Nat} {l : List Nat} {w0 w : World} (h : OMem H l w0 w) (j : Nat) (hj : j < l.length) : w.cell? ⟨H + 1, j, none⟩ = some (.int .i64 ((l.getD j 0 : Nat) : Int)) := by
  rw [cell_of_row w (H + 1) j _ _ _ h.st, List.getElem?_toArray]; exact i64s_at hj
theorem OMem.free {H : Nat} {l : List Nat} {w0 w : World} (h : OMem H l w0 w) (j : Nat) : w.frozen? ⟨H + 1, j, none⟩ = false := frozen_of_row w (H + 1) j _ _ h.st
theorem begin_step : ∀ k, k < 8 → (pad 8 (beginWords.take k)).set k (beginWords.getD k 0) = pad 8 (beginWords.take (k + 1)) := by decide +kernel
theorem fillL (n : Nat) : (n + (zeros n + 9)) % 64 = 0 := by unfold zeros; omega
theorem bytes_cut {w : World} {g off c : Nat} {m : List Nat} (h : ∀ j, j < m.length → w.cell? ⟨g, off + j, none⟩ = some (.int .u8 ((m.getD j 0 : Nat) : Int))) (k : Nat) (hk : 64 * k + 64 ≤ m.length) (hc : 64 ≤ c) :
    BytesIn w (.slice (some ⟨g, off + 64 * k, none⟩) 64 c) ((m.drop (64 * k)).take 64) := by
  have hl : ((m.drop (64 * k)).take 64).length = 64 := by simp; omega
  refine ⟨_, c, by rw [hl], by omega, .inr ⟨g, off + 64 * k, rfl, fun j hj => ?_⟩⟩
  rw [hl] at hj
  rw [Nat.add_assoc, h (64 * k + j) (by omega)]
  simp [List.getD_eq_getElem?_getD, hj]
/-- The memory of its bytes. -/
structure PMem (H N : Nat) (l o : List Nat) (w0 w : World) : Prop where
  mem : OMem H l w0 w
  out : w.heap[N]? = some (.cells (u8s (pad 32 o)).toArray 59 (0, 0))
  big : H + 2 ≤ N
theorem PMem.set {H N : Nat} {l o : List Nat} {w0 w : World} (h : PMem H N l o w0 w) (ho : o.length < 32) (v : Nat) :
    PMem H N l (o ++ [v]) w0 (w.setCell ⟨N, o.length, none⟩ (.int .u8 (v : Int))) := by
  have hb := h.big
  refine ⟨⟨(heap_setCell_other w _ H _ (by simp; omega)).trans h.mem.res, (heap_setCell_other w _ (H + 1) _ (by simp; omega)).trans h.mem.st, h.mem.old.setCell (by simp; omega) _⟩, ?_, hb⟩
  have := heap_setCell_same w N o.length _ _ (.int .u8 (v : Int)) h.out
  rw [u8s_set, pad_snoc v ho] at this
  exact this
theorem outByte (x k : Nat) (hx : x < 4294967296) : (bits .and .i64 ((x : Int) / 2 ^ (24 - 8 * (k % 4))) 255 % 256 : Int) = (((bytes4 x).getD (k % 4) 0 : Nat) : Int) := by
  have e : ((x : Int) / 2 ^ (24 - 8 * (k % 4))) = ((x / 2 ^ (24 - 8 * (k % 4)) : Nat) : Int) := by simp
  rw [e, mask8 _ (Nat.lt_of_le_of_lt (Nat.div_le_self _ _) (by omega)), bytes4_val_ x (k % 4) (Nat.mod_lt _ (by decide))]
theorem out_next (s : St) (k : Nat) (hk : k < 32) : (out s).take (k + 1) = (out s).take k ++ [(bytes4 (s.list.getD (k / 4) 0)).getD (k % 4) 0] := by
  have := out_snoc_ s (k / 4) (k % 4) (by omega) (Nat.mod_lt _ (by decide))
  rw [show 4 * (k / 4) + (k % 4 + 1) = k + 1 by omega, show 4 * (k / 4) + k % 4 = k by omega] at this
  exact this
theorem block8 (s1 s2 s3 s4 s5 s6 s7 s8 : Nat) (b : List Nat) (ao : Option Addr) (cap : Nat) (w : World) (hs : (⟨s1, s2, s3, s4, s5, s6, s7, s8⟩ : St).Ok) (hb : b.length = 64) (h8 : ∀ x ∈ b, x < 256) (hbx : BytesIn w (.slice ao 64 cap) b) :
    Calls Tryd.prog 36 #[.agg #[.int .i64 (s1 : Int), .int .i64 (s2 : Int), .int .i64 (s3 : Int), .int .i64 (s4 : Int), .int .i64 (s5 : Int), .int .i64 (s6 : Int), .int .i64 (s7 : Int), .int .i64 (s8 : Int)], .slice ao 64 cap] w fun e w' =>
      (∃ r1 r2 r3 r4 r5 r6 r7 r8 : Nat, mix ⟨s1, s2, s3, s4, s5, s6, s7, s8⟩ (words b) = ⟨r1, r2, r3, r4, r5, r6, r7, r8⟩ ∧ e = .returned (.agg #[.int .i64 (r1 : Int), .int .i64 (r2 : Int), .int .i64 (r3 : Int), .int .i64 (r4 : Int), .int .i64 (r5 : Int), .int .i64 (r6 : Int), .int .i64 (r7 : Int), .int .i64 (r8 : Int)])) ∧ Below w.heap.size w w' :=
  (block_any ⟨s1, s2, s3, s4, s5, s6, s7, s8⟩ b ao cap w hs hb h8 hbx).mono fun _ _ ⟨he, hb⟩ => ⟨⟨_, _, _, _, _, _, _, _, rfl, he⟩, hb⟩
attribute [local go_sem ↓] Go.wp_at_zero Go.wp_at_succ
set_option maxRecDepth 100000 in
set_option maxHeartbeats 4000000 in
theorem rof_any (a0 : Option Addr) (len0 cap0 : Nat) (xs : List Nat) (w : World) (hx : xs.length = len0) (hx8 : ∀ x ∈ xs, x < 256) (hl : len0 ≤ 1000) (hbx : BytesIn w (.slice a0 len0 cap0) xs) (hn0 : a0 = none → len0 = 0 ∧ cap0 = 0) :
    Calls Tryd.prog 29 #[.slice a0 len0 cap0] w fun e w' => e = .returned (.agg (u8s (digest xs)).toArray) ∧ Below w.heap.size w w' := by
  have HX := Lib.hid hx
  have HX8 := Lib.hid hx8
  have HBX := Lib.hid hbx
  have HN0 := Lib.hid hn0
  clear hx hx8 hbx hn0
  go_enter Tryd.func29, Tryd.ntmps29
  go_upto_region 2 with (fail)
  have M0 := Lib.hid (show OMem w.heap.size (pad 8 (beginWords.take 0)) w ((w.alloc (.cells (u8s (pad 32 [])).toArray 59)).alloc (.cells (i64s (pad 8 [])).toArray 95)) from
    ⟨heap_alloc2_old w _ _, heap_alloc2_new w _ _, ((Below.refl _ _).alloc (Nat.le_refl _) _).alloc (by simp) _⟩)
  change Code.wp _ _ _ _ ((w.alloc (.cells (u8s (pad 32 [])).toArray 59)).alloc (.cells (i64s (pad 8 [])).toArray 95))
  generalize (w.alloc (.cells (u8s (pad 32 [])).toArray 59)).alloc (.cells (i64s (pad 8 [])).toArray 95) = w1 at M0
  go_wp2_with fail
  go_loopw [4] (fun i wr => ∃ k : Nat, k ≤ 8 ∧ i = .int .i64 k ∧ OMem w.heap.size (pad 8 (beginWords.take k)) w wr) (fun i _ => 8 - (intOf i).toNat)
  case atStart => exact ⟨0, Nat.zero_le _, rfl, M0.out⟩
  case round =>
    obtain ⟨k, hk, rfl, hm⟩ := hrel
    by_cases hlt : k < 8
    · have HM := Lib.hid hm
      have hf := hm.free k
      have hc := hm.cell k (by have : (pad 8 (beginWords.take k)).length = 8 := by simp [pad, beginWords]; omega
                               omega)
      have HST := Lib.hid (begin_step k hlt)
      generalize (pad 8 (beginWords.take k)).getD k 0 = old at hc
      clear hm
      go_wp2_with fail
      refine (rbword_any _ (by rfl) k hlt _).mono ?_
      rintro e w3 ⟨rfl, rfl⟩
      generalize beginWords.getD k 0 = x at HST
      go_wp2_with fail
      go_roundw
      case rel =>
        refine ⟨k + 1, by omega, by go_num, ?_⟩
        rw [← HST.out]
        exact HM.out.set k x
      case measure => simp [intOf]; omega
    · have e : k = 8 := by omega
      subst e
      have HM := Lib.hid (show OMem w.heap.size (blocks (xs ++ fill len0) 0).list w wr from hm)
      clear hm hlt
      go_wp2_with fail
      refine (rfill_any a0 len0 cap0 xs _ HX.out HX8.out (by omega) (bytes_below HBX.out HM.out.old) HN0.out).mono ?_
      rintro e w4 ⟨fa, fc, rfl, hbf, hb4, hfresh⟩
      have HFR := Lib.hid hfresh
      clear hfresh
      have M4 := Lib.hid (HM.out.below hb4)
      have HMO := Lib.hid HM.out
      have hF8 : ∀ x ∈ xs ++ fill len0, x < 256 := by
        intro x hx
        rcases List.mem_append.1 hx with h | h
        · exact HX8.out x h
        · exact fill_small _ x h
      have HF8 := Lib.hid hF8
      have HFL := Lib.hid (show (xs ++ fill len0).length % 64 = 0 by rw [List.length_append, fill_length, HX.out]; exact fillL len0)
      have HFM := Lib.hid (show (xs ++ fill len0).length ≤ 2000 by have := zeros_lt len0; rw [List.length_append, fill_length, HX.out]; omega)
      have HDG := Lib.hid (show digest xs = out (stOf (xs ++ fill len0)) by rw [digest, HX.out])
      have HF0 := Lib.hid (show 0 < (xs ++ fill len0).length by rw [List.length_append, fill_length]; omega)
      generalize xs ++ fill len0 = F at HF8 HFL HFM HDG HF0 M4 hbf
      have HBF := Lib.hid hbf
      clear hb4 hF8 HM hbf
      obtain ⟨nb, hnb⟩ : ∃ nb, nb = F.length / 64 := ⟨_, rfl⟩
      have hFl : F.length = 64 * nb := by have := HFL.out; omega
      have HFL2 := Lib.hid hFl
      have HDG2 := Lib.hid (show digest xs = out (blocks F nb) by rw [HDG.out, hnb]; rfl)
      have hnb2 : nb ≤ 100 := by have := HFM.out; omega
      rw [hFl] at HBF
      clear hFl HDG HFL hnb
      obtain ⟨fa2, fc2, hv, hcap, hcells⟩ := HBF.out
      injection hv with e1 e2 e3
      subst e1
      rcases hcells with h0 | ⟨g, off, rfl, hcells⟩
      · have := HF0.out; rw [h0] at this; simp at this
      subst e3
      have hgl : g < w4.heap.size := block_lt_of_cell (hcells 0 HF0.out)
      have HNE := Lib.hid (show some g ≠ some (w.heap.size + 1) by have := HFR.out g off rfl; have := lt_of_heap_ HMO.out.st; intro e; injection e with e; omega)
      have hcap2 : 64 * nb ≤ fc := by have := HFL2.out; omega
      have HC := Lib.hid hcells
      have HGL := Lib.hid hgl
      clear hcap hcells e2 hgl HBF
      go_wp2_with fail
      go_loopw [6] (fun i wr => ∃ k : Nat, k ≤ nb ∧ i = .int .i64 (64 * (k : Int)) ∧ OMem w.heap.size (blocks F k).list w wr ∧ w4.grownBy wr (some (w.heap.size + 1))) (fun i _ => 64 * nb - (intOf i).toNat)
      case atStart => exact ⟨0, Nat.zero_le _, by simp, M4.out, grefl _ _⟩
      case round =>
        obtain ⟨k, hk, rfl, hm, hb⟩ := hrel
        have HM := Lib.hid hm
        have HB := Lib.hid hb
        clear hm hb
        by_cases hlt : k < nb
        · have hok := blocks_ok F k
          have HN := Lib.hid (show blocks F (k + 1) = mix (blocks F k) (words ((F.drop (64 * k)).take 64)) from rfl)
          have HBC := Lib.hid (bytes_cut (w := wr) (g := g) (off := off) (c := fc - 64 * k) (m := F) (fun j hj => HB.out.cell (HC.out j hj) HNE.out) k (by have := HFL2.out; omega) (by omega))
          have HB64 := Lib.hid (show ((F.drop (64 * k)).take 64).length = 64 by have := HFL2.out; simp; omega)
          have HB8 := Lib.hid (show ∀ x ∈ (F.drop (64 * k)).take 64, x < 256 from fun x hx => HF8.out x (List.mem_of_mem_drop (List.mem_of_mem_take hx)))
          generalize (F.drop (64 * k)).take 64 = bl at HN HBC HB64 HB8
          generalize hst : blocks F k = s at hok HN HM
          obtain ⟨s1, s2, s3, s4, s5, s6, s7, s8⟩ := s
          have HOK := Lib.hid hok
          have HMK := Lib.hid (show mix ⟨s1, s2, s3, s4, s5, s6, s7, s8⟩ (words bl) = blocks F (k + 1) from HN.out.symm)
          have hok2 := blocks_ok F (k + 1)
          generalize hst2 : blocks F (k + 1) = s' at HMK hok2
          have c0 : wr.cell? ⟨w.heap.size + 1, 0, none⟩ = some (.int .i64 (s1 : Int)) := HM.out.cell 0 (show 0 < 8 by decide)
          have c1 : wr.cell? ⟨w.heap.size + 1, 1, none⟩ = some (.int .i64 (s2 : Int)) := HM.out.cell 1 (show 1 < 8 by decide)
          have c2 : wr.cell? ⟨w.heap.size + 1, 2, none⟩ = some (.int .i64 (s3 : Int)) := HM.out.cell 2 (show 2 < 8 by decide)
          have c3 : wr.cell? ⟨w.heap.size + 1, 3, none⟩ = some (.int .i64 (s4 : Int)) := HM.out.cell 3 (show 3 < 8 by decide)
          have c4 : wr.cell? ⟨w.heap.size + 1, 4, none⟩ = some (.int .i64 (s5 : Int)) := HM.out.cell 4 (show 4 < 8 by decide)
          have c5 : wr.cell? ⟨w.heap.size + 1, 5, none⟩ = some (.int .i64 (s6 : Int)) := HM.out.cell 5 (show 5 < 8 by decide)
          have c6 : wr.cell? ⟨w.heap.size + 1, 6, none⟩ = some (.int .i64 (s7 : Int)) := HM.out.cell 6 (show 6 < 8 by decide)
          have c7 : wr.cell? ⟨w.heap.size + 1, 7, none⟩ = some (.int .i64 (s8 : Int)) := HM.out.cell 7 (show 7 < 8 by decide)
          have HST2 := Lib.hid hst2
          clear hok hok2 hst hst2 HN
          have hi0 : (0 : Int) ≤ 64 * (k : Int) := by omega
          have hi1 : 64 * (k : Int) + 64 ≤ (F.length : Int) := by have := HFL2.out; omega
          have hi2 : 64 * (k : Int) < (F.length : Int) := by have := HFL2.out; omega
          have hi3 : 64 * (k : Int) + 64 ≤ (fc : Int) := by omega
          have hi4 : 64 * (k : Int) < 6400 := by omega
          have f0 := HM.out.free 0
          have f1 := HM.out.free 1
          have f2 := HM.out.free 2
          have f3 := HM.out.free 3
          have f4 := HM.out.free 4
          have f5 := HM.out.free 5
          have f6 := HM.out.free 6
          have f7 := HM.out.free 7
          have hbl : w.heap.size + 1 < wr.drew.heap.size := lt_of_heap_ HM.out.st
          go_wp2_with fail
          have e1 : IntKind.i64.wrap (64 * (k : Int) + 64) = 64 * (k : Int) + 64 := by rw [IntWalk.i64_in _ (by omega)]
          have n1 : (64 * (k : Int) + 64).toNat = 64 * k + 64 := by omega
          have n2 : (64 * (k : Int)).toNat = 64 * k := by omega
          go_region_with (first | (go_at_call 36; refine (block8 s1 s2 s3 s4 s5 s6 s7 s8 bl _ _ _ HOK.out HB64.out HB8.out ?_).mono ?_; (exact bytes_below HBC.out ((Below.refl _ _).drew)); rintro e w' ⟨⟨r1, r2, r3, r4, r5, r6, r7, r8, hmx, rfl⟩, hb4⟩; have HMX := Lib.hid hmx; clear hmx; obtain ⟨hc4, hf4, hl4⟩ := bk_ hb4 (by assumption)))
          all_goals
            have M5 := Lib.hid ((((((((((HM.out.below ((Below.refl wr.heap.size wr).drew)).below hb4).set 0 r1).set 1 r2).set 2 r3).set 3 r4).set 4 r5).set 5 r6).set 6 r7).set 7 r8)
            have G5 := Lib.hid (gtrans HB.out (gtrans (gdrewN wr 1 (some (w.heap.size + 1))) (gtrans (gbelow hb4 (some (w.heap.size + 1))) (gsetCells (w.heap.size + 1) (i64s [r1, r2, r3, r4, r5, r6, r7, r8]) 0 w'))))
            clear hb4 hc4 hf4 hl4 c0 c1 c2 c3 c4 c5 c6 c7 f0 f1 f2 f3 f4 f5 f6 f7 hbl e1 n1 n2
            go_wp2_with fail
            go_roundw
            case rel =>
              refine ⟨k + 1, by omega, by go_num, ?_, G5.out⟩
              rw [HST2.out, ← HMK.out, HMX.out]
              exact M5.out
            case measure => simp [intOf]; omega
        · have e : k = nb := by omega
          subst e
          have hok := blocks_ok F k
          generalize blocks F k = s at hok HM HDG2
          have HALL := Lib.hid hok.all
          have hge : (F.length : Int) ≤ 64 * (k : Int) := by have := HFL2.out; omega
          clear hlt hok
          go_upto_region 12 with (fail)
          have hsz : w.heap.size + 2 ≤ wr.heap.size := lt_of_heap_ HM.out.st
          have hL1 : Below wr.heap.size wr (wr.alloc (.cells (u8s (pad 32 [])).toArray 59)) := (Below.refl _ _).alloc (Nat.le_refl _) _
          have P0 := Lib.hid (show PMem w.heap.size wr.heap.size s.list ((out s).take 0) w (wr.alloc (.cells (u8s (pad 32 [])).toArray 59)) from ⟨HM.out.below hL1, heap_alloc_new wr _, hsz⟩)
          change Code.wp _ _ _ _ (wr.alloc (.cells (u8s (pad 32 [])).toArray 59))
          generalize wr.alloc (.cells (u8s (pad 32 [])).toArray 59) = w5 at P0
          clear hL1 hsz hge HB HM
          generalize wr.heap.size = N at P0
          go_wp2_with fail
          go_loopw [8] (fun i wr => ∃ j : Nat, j ≤ 32 ∧ i = .int .i64 j ∧ PMem w.heap.size N s.list ((out s).take j) w wr) (fun i _ => 32 - (intOf i).toNat)
          case atStart => exact ⟨0, Nat.zero_le _, rfl, P0.out⟩
          case round =>
            obtain ⟨j, hj, rfl, hp⟩ := hrel
            by_cases hlt : j < 32
            · have hc := hp.mem.cell (j / 4) (show j / 4 < 8 by omega)
              have hol : ((out s).take j).length = j := by rw [List.length_take, out_length_]; omega
              have hf : wr.frozen? ⟨N, j, none⟩ = false := frozen_of_row _ N j _ _ hp.out
              have hcN : wr.cell? ⟨N, j, none⟩ = some (.int .u8 (((pad 32 ((out s).take j)).getD j 0 : Nat) : Int)) := (cell_of_row wr N j _ _ _ hp.out).trans (u8s_at (by rw [pad_length (by omega)]; exact hlt))
              generalize (pad 32 ((out s).take j)).getD j 0 = old at hcN
              have HN := Lib.hid (out_next s j hlt)
              have hx := getD_lt HALL.out (by decide) (j / 4)
              have hset := hp.set (show ((out s).take j).length < 32 by omega) ((bytes4 (s.list.getD (j / 4) 0)).getD (j % 4) 0)
              rw [hol, ← out_next s j hlt] at hset
              have HSET := Lib.hid hset
              generalize s.list.getD (j / 4) 0 = x at hc hx HSET
              have HB8 := Lib.hid (outByte x j hx)
              have hi0 : (0 : Int) ≤ (j : Int) / 4 := by omega
              have hi1 : (j : Int) / 4 < 8 := by omega
              have hi2 : (0 : Int) ≤ 24 - 8 * ((j : Int) % 4) := by omega
              have hi3 : 24 - 8 * ((j : Int) % 4) ≤ 24 := by omega
              clear hset hp hol HN
              go_wp2_with fail
              rw [HB8.out]
              generalize wr.setCell ⟨N, j, none⟩ (.int .u8 (((bytes4 x).getD (j % 4) 0 : Nat) : Int)) = wy at HSET
              go_wp2_with fail
              go_roundw
              case rel => exact ⟨j + 1, by omega, by go_num, HSET.out⟩
              case measure => simp [intOf]; omega
            · have e : j = 32 := by omega
              subst e
              rw [List.take_of_length_le (Nat.le_of_eq (out_length_ s))] at hp
              have HP := Lib.hid hp
              clear hp hlt
              have hos : (u8s (pad 32 (out s))).toArray.size = 32 := by rw [List.size_toArray, u8s_length, pad_full (out_length_ s), out_length_]
              have hbk := HP.out.out
              have hres := HP.out.mem.res
              have hpf : pad 32 (out s) = out s := pad_full (out_length_ s)
              rw [hpf] at hbk hos
              have HOS := Lib.hid hos
              have HBK := Lib.hid hbk
              have HRES := Lib.hid hres
              clear hpf hbk hos hres
              go_upto_region 16 with (fail)
              refine wp_region_lit ?_
              refine wpList_load_row rfl 59 _ rfl N rfl 59 _ _ _ HBK.out Tryd.underlying59 rfl (by rw [HOS.out]; kernel_rfl) ?_
              refine wpList_store_mid rfl 59 _ _ rfl w.heap.size 0 _ rfl rfl (there_of_block HRES.out 0 _ (by rw [HOS.out]; decide)) (by rw [HOS.out]; kernel_rfl) (u8s_cells _) ?_
              have HE := Lib.hid (show (wr.setCells w.heap.size 0 (u8s (out s)).toArray.toList).heap[w.heap.size]? = some (.cells (u8s (out s)).toArray 59 (0, 0)) by
                have := heap_setCells w.heap.size 59 (0, 0) (u8s (out s)) 0 wr _ HRES.out (by rw [u8s_length, u8s_length, pad_length (by decide), out_length_]; decide)
                rw [this, Nat.zero_add, List.take_zero, List.nil_append, List.drop_of_length_le (by rw [u8s_length, u8s_length, pad_length (by decide), out_length_]; decide), List.append_nil])
              have HBL := Lib.hid (below_setCells w.heap.size (Nat.le_refl _) (u8s (out s)).toArray.toList 0 _ HP.out.mem.old)
              generalize wr.setCells w.heap.size 0 (u8s (out s)).toArray.toList = wz at HE HBL
              go_wp2_with fail
              exact bodyPost_ret (v := .agg (u8s (out s)).toArray) (results_cell_row rfl _ _ w.heap.size 59 _ (0, 0) _ rfl HE.out Tryd.underlying59 rfl (by rw [HOS.out]; kernel_rfl)) rfl ⟨by rw [HDG2.out], HBL.out⟩
end Sha
end Go.Proofs.YtoiidedigbfnaaaDoor
/- 'Code' of the document's answer is the code of the text. -/
namespace Go.Proofs.YtoiidedigbfnaaaDoor
open Go.RowKit Cut Apd
namespace Sha
theorem append1_lies {ops : Array Oper} {rest : List Oper} {o : Oper} {a : Act} {Q : Exit → Act → World → Prop} {w : World} (hgd : o.guard = none) (s x : Operand)
    (ho : o.op = .call { callee := .builtin .append, args := #[s, x], argTypes := #[22, 22] }) (base : Nat) (v : Value) (n : Nat) (xs : List Value) (hs : a.eval s = v) (hown : w.ownsRow base 5 1 v n xs)
    (g0 : Nat) (y : Nat) (hx : a.eval x = .slice (some ⟨g0, 0, none⟩) 1 1) (hc : w.cell? ⟨g0, 0, none⟩ = some (.int .u8 (y : Int))) (h63 : n < 100000000000) (hbase : base ≤ w.heap.size)
    (h : ∀ g c w', w'.ownsRow base 5 1 (.slice (some ⟨g, 0, none⟩) (n + 1) c) (n + 1) (xs ++ u8s [y]) → w.grownBy w' v.ownBlock → (v.ownBlock = some g ∨ g = w.heap.size) → wpList Tryd.prog ops Q rest (a.put o.dst (.slice (some ⟨g, 0, none⟩) (n + 1) c)) w') : wpList Tryd.prog ops Q (o :: rest) a w := by
  obtain ⟨i0, hi, hz0, hz1, hz2⟩ := info_parts info5_
  refine wpList_append_lies _ hgd s x 22 ho base 5 i0 (.int .u8 0) 1 1 Tryd.underlying22 hi hz0 hz1 hz2 rfl (by decide) v n xs hs hown ⟨g0, 0, none⟩ 1 1 (u8s [y]) hx rfl ?_ (u8s_one _) (by decide) (by unfold maxLen; omega) (by omega) hbase _ rfl ?_
  · intro j u hj
    match j, hj with
    | 0, hj => simp [u8s] at hj; subst hj; exact hc
  · intro g c w' h1 h2 h3 _
    exact h g c w' h1 h2 h3
/-- Two rows of the call's own lie apart. -/
def Apart (v u : Value) : Prop := v.ownBlock = none ∨ v.ownBlock ≠ u.ownBlock
theorem Apart.symm {v u : Value} (h : Apart v u) : Apart u v := by
  rcases h with h | h
  · cases hu : u.ownBlock with
    | none => exact .inl hu
    | some k => exact .inr (by rw [h, hu]; simp)
  · exact .inr (Ne.symm h)
theorem Apart.keep {w w' : World} {base e size n : Nat} {v u : Value} {xs : List Value} (h : Apart v u) (ho : w.ownsRow base e size u n xs) (hg : w.grownBy w' v.ownBlock) : w'.ownsRow base e size u n xs :=
  ho.kept hg h.symm
theorem Apart.next {w : World} {base e size n g m c : Nat} {v u : Value} {xs : List Value} (h : Apart v u) (ho : w.ownsRow base e size u n xs) {H : Nat} (hat : v.ownBlock = some g ∨ g = H) (hH : w.heap.size ≤ H) : Apart (.slice (some ⟨g, 0, none⟩) m c) u := by
  right
  show some g ≠ u.ownBlock
  rcases hat with hv | hg
  · rcases h with h | h
    · rw [hv] at h; cases h
    · rw [hv] at h; exact h
  · rcases ho.2 with ⟨rfl, _⟩ | ⟨k, cap, cur, rfl, _, hk, _⟩
    · simp [Value.ownBlock]
    · have := lt_of_heap_ hk
      simp [Value.ownBlock]; omega
theorem own_at {w : World} {base n c : Nat} {ad : Option Addr} {l : List Nat} (h : w.ownsRow base 5 1 (.slice ad n c) n (u8s l)) (hl : l.length = n) (j : Nat) (hj : j < n) : ∃ g, ad = some ⟨g, 0, none⟩ ∧ base ≤ g ∧ w.cell? ⟨g, j, none⟩ = some (.int .u8 ((l.getD j 0 : Nat) : Int)) := by
  rcases h.2 with ⟨_, h0⟩ | ⟨g, cap, cur, h1, hb, hh, hnc, _, _, htk⟩
  · omega
  · injection h1 with e1 e2 e3
    refine ⟨g, e1, hb, ?_⟩
    rw [cell_of_row w g j cur _ _ hh]
    have e := u8s_at (l := l) (i := j) (by omega)
    rw [List.getElem?_toArray, ← htk, List.getElem?_take, if_pos (by omega)] at e
    simpa using e
theorem xored_take (l : List Nat) (c k : Nat) (h : k < l.length) : (xored l c).take (k + 1) = (xored l c).take k ++ [l.getD k 0 ^^^ c] := by
  have h1 : k < (xored l c).length := by rw [xored_length]; exact h
  rw [List.take_succ_eq_append_getElem h1]
  congr 2
  simp [xored, h]
theorem keyOf_pad (key : List Nat) (j : Nat) (h : (keyOf key).length + j = 64) : keyOf key ++ List.replicate j 0 = kblock key := by
  unfold kblock
  congr 2
  omega
set_option maxRecDepth 100000 in
set_option maxHeartbeats 8000000 in
theorem rcode_any (a0 : Option Addr) (len0 cap0 : Nat) (a1 : Option Addr) (len1 cap1 : Nat) (key text : List Nat) (w : World) (h0 : len0 ≤ 200) (h1 : len1 ≤ 900) (hx : key.length = len0) (hy : text.length = len1) (h8 : ∀ x ∈ key, x < 256) (ht8 : ∀ x ∈ text, x < 256)
    (hbx : BytesIn w (.slice a0 len0 cap0) key) (hbt : BytesIn w (.slice a1 len1 cap1) text) (hn0 : a0 = none → len0 = 0 ∧ cap0 = 0) (hn1 : a1 = none → len1 = 0 ∧ cap1 = 0) :
    Calls Tryd.prog 18 #[.slice a0 len0 cap0, .slice a1 len1 cap1] w fun e w' => e = .returned (.agg (u8s (hmac key text)).toArray) ∧ Below w.heap.size w w' := by
  have HX := Lib.hid hx
  have HY := Lib.hid hy
  have H8 := Lib.hid h8
  have HT8 := Lib.hid ht8
  have HBX := Lib.hid hbx
  have HBT := Lib.hid hbt
  have HN0 := Lib.hid hn0
  have HN1 := Lib.hid hn1
  clear hx hy h8 ht8 hbx hbt hn0 hn1
  go_enter Tryd.func18, Tryd.ntmps18
  go_upto_region 1 with (fail)
  have f1 : Free32_ (w.alloc (.cells (u8s (pad 32 [])).toArray 59)) w.heap.size := free_new_ w
  have f3 : Below w.heap.size w (w.alloc (.cells (u8s (pad 32 [])).toArray 59)) := (Below.refl _ _).alloc (Nat.le_refl _) _
  change Code.wp _ _ _ _ (w.alloc (.cells (u8s (pad 32 [])).toArray 59))
  generalize w.alloc (.cells (u8s (pad 32 [])).toArray 59) = w1 at f1 f3
  have F1 := Lib.hid f1
  have B1 := Lib.hid f3
  have HX1 := Lib.hid (bytes_below HBX.out f3)
  have BR := Lib.hid (Below.refl w1.heap.size w1)
  clear f1 f3
  refine wp_region_lit ?_
  refine wpList_plain rfl (fun K hK => ?_)
  go_simp
  refine hK _ _ ?_
  clear hK K
  refine wpList_plain rfl (fun K hK => ?_)
  go_simp
  refine hK _ _ ?_
  clear hK K
  have HMI5 := Lib.hid (World.ownsRow_lit (e := 5) (base := w1.heap.size) (size := 1) w1 #[] 0 (BR.out.size) (Nat.zero_le _) rfl)
  have L5 := Lib.hid (BR.out.alloc BR.out.size (.cells #[] 5))
  refine append_own rfl (.tmp 11) (.tmp 12) rfl w1.heap.size _ 0 [] rfl HMI5.out a0 len0 cap0 key rfl HX.out HN0.out (bytes_src (bytes_below HX1.out L5.out)) (by omega) (by have := BR.out.size; first | (simp; done) | (simp; omega)) ?_
  intro v5 w5 hown5 hg5 hv5
  rw [Nat.zero_add, List.nil_append] at hown5
  obtain ⟨a5, c5, rfl⟩ := row_form' hown5
  have O5 := Lib.hid hown5
  have B5 := Lib.hid (show Below w1.heap.size w1 w5 from L5.out.grown hg5 (by have := BR.out.size; first | (simp; done) | (simp; omega)) (own_ge HMI5.out))
  clear hown5 hg5 hv5 HMI5 L5
  clear BR
  by_cases h64 : 64 < len0
  · have hd : decide ((64 : Int) < (len0 : Int)) = true := by simp; omega
    have HKK := Lib.hid (show keyOf key = digest key by unfold keyOf; rw [if_pos (by rw [HX.out]; exact h64)])
    have HKN := Lib.hid (show (keyOf key).length = 32 by rw [HKK.out, digest_len])
    go_wp2_with fail
    refine (rof_any a0 len0 cap0 key _ HX.out H8.out (by omega) (bytes_below HX1.out B5.out) HN0.out).mono ?_
    rintro e w6 ⟨rfl, hb6⟩
    have B6 := Lib.hid (show Below w1.heap.size w1 w6 from B5.out.trans (hb6.mono B5.out.size))
    clear hb6 B5 O5 hd h64
    have HDL := Lib.hid (digest_len key)
    dsimp only
    rename_i hK
    refine hK _ _ ?_
    clear hK
    refine wpList_plain rfl (fun K hK => ?_)
    go_simp
    refine hK _ _ ?_
    clear hK K
    have hsz : (u8s (digest key)).toArray.size = 32 := by rw [List.size_toArray, u8s_length, HDL.out]
    change wpList _ _ _ _ _ (w6.alloc (.cells (u8s (pad 32 [])).toArray 59))
    refine wpList_store_mid rfl 59 _ _ rfl w6.heap.size 0 _ rfl rfl (there_of_block (heap_alloc_new w6 (.cells (u8s (pad 32 [])).toArray 59)) 0 _ (by rw [hsz]; decide)) (by rw [hsz]; kernel_rfl) (u8s_cells _) ?_
    obtain ⟨w7, hw, hrow, hbel⟩ := alloc_row w6 59 (pad 32 []) (digest key) (by rw [HDL.out, pad_length (by decide)])
    change wpList _ _ _ _ _ ((w6.alloc (.cells (u8s (pad 32 [])).toArray 59)).setCells w6.heap.size 0 (u8s (digest key)).toArray.toList)
    rw [hw]
    have Rw7 := Lib.hid hrow
    have Ew7 := Lib.hid hbel
    clear hw hrow hbel hsz
    have B7 := Lib.hid (show Below w1.heap.size w1 w7 from B6.out.trans (Ew7.out.mono B6.out.size))
    have HS := Lib.hid (row_all_ Rw7.out HDL.out)
    clear B6 Ew7 Rw7
    generalize w6.heap.size = Ns at HS
    have HSN := Lib.hid (show (some ⟨Ns, 0, none⟩ : Option Addr) = none → 32 = 0 ∧ 32 = 0 from fun h => by cases h)
    go_upto_region 4 with (fail)
    refine wp_region_lit ?_
    refine wpList_plain rfl (fun K hK => ?_)
    go_simp
    refine hK _ _ ?_
    clear hK K
    refine wpList_plain rfl (fun K hK => ?_)
    go_simp
    refine hK _ _ ?_
    clear hK K
    have HMI8 := Lib.hid (World.ownsRow_lit (e := 5) (base := w1.heap.size) (size := 1) w7 #[] 0 (B7.out.size) (Nat.zero_le _) rfl)
    have L8 := Lib.hid (B7.out.alloc B7.out.size (.cells #[] 5))
    refine append_own rfl (.tmp 19) (.tmp 20) rfl w1.heap.size _ 0 [] rfl HMI8.out (some ⟨Ns, 0, none⟩) 32 32 (digest key) rfl HDL.out HSN.out (bytes_src (bytes_below HS.out ((Below.refl _ _).alloc (Nat.le_refl _) _))) (by omega) (by have := B7.out.size; first | (simp; done) | (simp; omega)) ?_
    intro v8 w8 hown8 hg8 hv8
    rw [Nat.zero_add, List.nil_append] at hown8
    obtain ⟨a8, c8, rfl⟩ := row_form' hown8
    have O8 := Lib.hid hown8
    have B8 := Lib.hid (show Below w1.heap.size w1 w8 from L8.out.grown hg8 (by have := B7.out.size; first | (simp; done) | (simp; omega)) (own_ge HMI8.out))
    clear hown8 hg8 hv8 HMI8 L8
    clear B7 HS HSN HDL
    have HO0 := Lib.hid (show w8.ownsRow w1.heap.size 5 1 (.slice a8 (keyOf key).length c8) (keyOf key).length (u8s (keyOf key)) by rw [HKK.out, digest_len]; exact O8.out)
    have HB0 := Lib.hid B8.out
    clear O8 B8
    have HKL := Lib.hid (keyOf_length key)
    have HPAD := Lib.hid (fun j h => keyOf_pad key j h)
    rw [← HKN.out]
    clear HKK HKN
    generalize keyOf key = K0 at HO0 HKL HPAD ⊢
    go_wp2_with fail
    go_loopw [5] (fun v wr => ∃ (j : Nat) (ad : Option Addr) (cp : Nat), K0.length + j ≤ 64 ∧ v = .slice ad (K0.length + j) cp ∧ wr.ownsRow w1.heap.size 5 1 (.slice ad (K0.length + j) cp) (K0.length + j) (u8s (K0 ++ List.replicate j 0)) ∧ Below w1.heap.size w1 wr) (fun v _ => 64 - sliceLen_ v)
    case atStart => exact ⟨0, a8, c8, by have := HKL.out; omega, rfl, by simpa using HO0.out, HB0.out⟩
    case round =>
      obtain ⟨j, ad, cp, hj, rfl, ho, hb⟩ := hrel
      have HO := Lib.hid ho
      have HB := Lib.hid hb
      clear ho hb
      by_cases hlt : K0.length + j < 64
      · have hlt' : ((K0.length : Nat) : Int) + (j : Int) < 64 := by omega
        go_wp2_with (at_builtin; refine wpList_mark ?_)
        refine Lib.hid ?_
        refine append_own rfl (.tmp 25) (.tmp 26) rfl w1.heap.size _ (K0.length + j) (u8s (K0 ++ List.replicate j 0)) rfl (HO.out.alloc _) (some ⟨wr.heap.size, 0, none⟩) 1 1 [0] rfl rfl (fun h => by cases h) (bytes_one wr 0) ?_ ?_ ?_
        · omega
        · have := HB.out.size; simp; omega
        intro v2 w2 hown2 hg2 hv2
        obtain ⟨va, vc, rfl⟩ := row_form' hown2
        rw [show u8s (K0 ++ List.replicate j 0) ++ u8s [0] = u8s (K0 ++ List.replicate (j + 1) 0) by rw [List.replicate_succ']; simp [u8s]] at hown2
        have O2 := Lib.hid hown2
        have B2 := Lib.hid (show Below w1.heap.size w1 w2 from (HB.out.alloc HB.out.size _).grown hg2 (by have := HB.out.size; simp; omega) (own_ge HO.out))
        clear hown2 hg2 hv2
        go_wp2_with fail
        go_roundw
        case rel => exact ⟨j + 1, va, vc, by omega, rfl, O2.out, B2.out⟩
        case measure => simp [sliceLen_]; omega
      · have e64 : K0.length + j = 64 := by omega
        have ho := HO.out
        rw [HPAD.out j e64, e64] at ho
        have HO1 := Lib.hid ho
        rw [e64]
        clear ho hlt HO
        obtain ⟨wo, rfl⟩ : ∃ wo : World, wo = wr := ⟨_, rfl⟩
        have HK8 := Lib.hid (kblock_small H8.out)
        have HKB := Lib.hid (kblock_length key)
        have HMK := Lib.hid (show hmac key text = digest (xored (kblock key) 92 ++ digest (xored (kblock key) 54 ++ text)) from rfl)
        generalize kblock key = kb at HO1 HK8 HKB HMK
        have BW := Lib.hid (Below.refl wo.heap.size wo)
        have HRL := Lib.hid (show wo.heap.size ≤ wo.heap.size from Nat.le_refl _)
        go_wp2_with fail
        go_loopw [7, 8, 9] (fun vi vo i wr => ∃ (k : Nat) (ai : Option Addr) (ci : Nat) (ao : Option Addr) (co : Nat), k ≤ 64 ∧ i = .int .i64 k ∧ vi = .slice ai k ci ∧ vo = .slice ao k co ∧ wr.ownsRow wo.heap.size 5 1 (.slice ai k ci) k (u8s ((xored kb 54).take k)) ∧ wr.ownsRow wo.heap.size 5 1 (.slice ao k co) k (u8s ((xored kb 92).take k)) ∧ Apart (.slice ai k ci) (.slice ao k co) ∧ Below wo.heap.size wo wr) (fun _ _ i _ => 64 - (intOf i).toNat)
        case atStart => exact ⟨0, none, 0, none, 0, Nat.zero_le _, rfl, rfl, rfl, World.ownsRow_nil _ _ _ _, World.ownsRow_nil _ _ _ _, .inl rfl, BW.out⟩
        case round =>
          obtain ⟨k, ai, ci, ao, co, hk, rfl, rfl, rfl, hoi, hoo, hap, hb⟩ := hrel
          have HI := Lib.hid hoi
          have HOO := Lib.hid hoo
          have HA := Lib.hid hap
          have HZ := Lib.hid hb
          clear hoi hoo hap hb
          by_cases hlt2 : k < 64
          · obtain ⟨gk, hgk, _, hck⟩ := own_at HO1.out HKB.out k hlt2
            subst hgk
            have HCK := Lib.hid hck
            have hc1 := (HZ.out.cell (p := ⟨gk, k, none⟩) (block_lt_of_cell hck)).trans hck
            have hx := getD_lt HK8.out (by decide) k
            have HT1 := Lib.hid (xored_take kb 54 k (by rw [HKB.out]; exact hlt2))
            have HT2 := Lib.hid (xored_take kb 92 k (by rw [HKB.out]; exact hlt2))
            generalize kb.getD k 0 = x at hc1 hx HT1 HT2 HCK
            have HX54 := Lib.hid (u8_xor_nat_ x 54 hx (by decide))
            have HX92 := Lib.hid (u8_xor_nat_ x 92 hx (by decide))
            have hi0 : (0 : Int) ≤ (k : Int) := by omega
            have hi1 : (k : Int) < 64 := by omega
            clear hck
            go_wp2_with (at_builtin; refine wpList_mark ?_)
            refine Lib.hid ?_
            refine append1_lies rfl (.tmp 32) (.tmp 38) rfl wo.heap.size _ k (u8s ((xored kb 54).take k)) rfl (HI.out.alloc _) wr.heap.size (x ^^^ 54) rfl ?_ ?_ ?_ ?_
            · exact (cell_of_row _ wr.heap.size 0 _ _ _ (heap_alloc_new wr _)).trans (by first | rfl | exact congrArg (fun y => some (Value.int .u8 y)) HX54.out)
            · omega
            · have := HZ.out.size; simp; omega
            intro gi di w4 ho4 hg4 hat4
            rw [show u8s ((xored kb 54).take k) ++ u8s [x ^^^ 54] = u8s ((xored kb 54).take (k + 1)) by rw [HT1.out]; simp [u8s]] at ho4
            have O4 := Lib.hid ho4
            have P4 := Lib.hid (HA.out.keep (HOO.out.alloc _) hg4)
            have A4 := Lib.hid ((HA.out.next HOO.out hat4 (by simp) : Apart (.slice (some ⟨gi, 0, none⟩) (k + 1) di) _))
            have Z4 := Lib.hid (show Below wo.heap.size wo w4 from (HZ.out.alloc HZ.out.size _).grown hg4 (by have := HZ.out.size; simp; omega) (own_ge HI.out))
            have hc4 := (Z4.out.cell (p := ⟨gk, k, none⟩) (block_lt_of_cell HCK.out)).trans HCK.out
            clear ho4 hg4 hat4 hc1 HI HOO HA HZ
            go_wp2_with (at_builtin; refine wpList_mark ?_)
            refine Lib.hid ?_
            refine append1_lies rfl (.tmp 40) (.tmp 46) rfl wo.heap.size _ k (u8s ((xored kb 92).take k)) rfl (P4.out.alloc _) w4.heap.size (x ^^^ 92) rfl ?_ ?_ ?_ ?_
            · exact (cell_of_row _ w4.heap.size 0 _ _ _ (heap_alloc_new w4 _)).trans (by first | rfl | exact congrArg (fun y => some (Value.int .u8 y)) HX92.out)
            · omega
            · have := Z4.out.size; simp; omega
            intro go do' w5' ho5 hg5 hat5
            rw [show u8s ((xored kb 92).take k) ++ u8s [x ^^^ 92] = u8s ((xored kb 92).take (k + 1)) by rw [HT2.out]; simp [u8s]] at ho5
            have O5' := Lib.hid ho5
            have P5 := Lib.hid (A4.out.symm.keep (O4.out.alloc _) hg5)
            have A5 := Lib.hid ((A4.out.symm.next O4.out hat5 (by simp) : Apart (.slice (some ⟨go, 0, none⟩) (k + 1) do') _).symm)
            have Z5 := Lib.hid (show Below wo.heap.size wo w5' from (Z4.out.alloc Z4.out.size _).grown hg5 (by have := Z4.out.size; simp; omega) (own_ge P4.out))
            clear ho5 hg5 hat5 hc4 O4 P4 A4 Z4
            go_wp2_with fail
            go_roundw
            case rel => exact ⟨k + 1, _, _, _, _, by omega, by go_num, rfl, rfl, P5.out, O5'.out, A5.out, Z5.out⟩
            case measure => simp [intOf]; omega
          · have e : k = 64 := by omega
            subst e
            have hoi := HI.out
            have hoo := HOO.out
            rw [List.take_of_length_le (by rw [xored_length, HKB.out]; exact Nat.le_refl _)] at hoi hoo
            have HI1 := Lib.hid hoi
            have HO2 := Lib.hid hoo
            have HL54 := Lib.hid (show (xored kb 54).length = 64 by rw [xored_length, HKB.out])
            have HL92 := Lib.hid (show (xored kb 92).length = 64 by rw [xored_length, HKB.out])
            have H54 := Lib.hid (xored_small (c := 54) HK8.out (by decide))
            have H92 := Lib.hid (xored_small (c := 92) HK8.out (by decide))
            generalize xored kb 54 = i54 at HI1 HL54 H54 HMK
            generalize xored kb 92 = o92 at HO2 HL92 H92 HMK
            have HTX := Lib.hid (bytes_below HBT.out ((B1.out.trans (HB.out.mono B1.out.size)).trans (HZ.out.mono (B1.out.trans (HB.out.mono B1.out.size)).size)))
            have HWR := Lib.hid (show w.heap.size ≤ wo.heap.size from Nat.le_trans B1.out.size HB.out.size)
            have HHL := Lib.hid (show w.heap.size < wo.heap.size from Nat.lt_of_lt_of_le (lt_of_heap_ F1.out) HB.out.size)
            have HFZ := Lib.hid (free_below_ (free_below_ F1.out HB.out) HZ.out)
            have BZ := Lib.hid (show Below w.heap.size w wr from (B1.out.trans (HB.out.mono B1.out.size)).trans (HZ.out.mono (B1.out.trans (HB.out.mono B1.out.size)).size))
            clear hoi hoo hlt2 HI HOO HO1 B1 F1 HB HB0 HO0
            have hwz := HZ.out.size
            go_upto_region 14 with (fail)
            refine wp_region_lit ?_
            refine wpList_plain rfl (fun K hK => ?_)
            go_simp
            refine hK _ _ ?_
            clear hK K
            refine wpList_plain rfl (fun K hK => ?_)
            go_simp
            refine hK _ _ ?_
            clear hK K
            refine append_own rfl (.tmp 48) (.tmp 49) rfl wo.heap.size _ 64 (u8s i54) rfl HI1.out a1 len1 cap1 text rfl HY.out HN1.out (bytes_src HTX.out) (by omega) hwz ?_
            intro vq wq hownq hgq hvq
            obtain ⟨aq, cq, rfl⟩ := row_form' hownq
            rw [show u8s i54 ++ u8s text = u8s (i54 ++ text) by simp [u8s]] at hownq
            have OQ := Lib.hid hownq
            have PQ := Lib.hid (HA.out.keep HO2.out hgq)
            have ZQ := Lib.hid (show Below wo.heap.size wo wq from HZ.out.grown hgq HZ.out.size (own_ge HI1.out))
            have BQ := Lib.hid (show Below w.heap.size w wq from BZ.out.grown hgq BZ.out.size (fun k hk => by have := own_ge HI1.out k hk; have := HWR.out; omega))
            have FQ := Lib.hid (show Free32_ wq w.heap.size from (hgq.block _ (lt_of_heap_ HFZ.out) (fun e => by have := own_ge HI1.out _ e.symm; have := HHL.out; omega)).trans HFZ.out)
            have HQB := Lib.hid (own_bytes_n OQ.out (by rw [List.length_append, HL54.out, HY.out]))
            have HQN := Lib.hid (show aq = none → 64 + len1 = 0 ∧ cq = 0 from fun h => row_nil OQ.out aq (64 + len1) cq rfl h)
            have HQ8 := Lib.hid (show ∀ x ∈ i54 ++ text, x < 256 from fun x hx => by rcases List.mem_append.1 hx with h | h; exact H54.out x h; exact HT8.out x h)
            clear hownq hgq hvq OQ HA HI1 HO2 HZ BZ HFZ HTX hwz
            go_wp2_with fail
            refine (rof_any aq (64 + len1) cq (i54 ++ text) _ (by rw [List.length_append, HL54.out, HY.out]) HQ8.out (by omega) HQB.out HQN.out).mono ?_
            rintro e ws ⟨rfl, hbs⟩
            have BS := Lib.hid hbs
            have HDL1 := Lib.hid (digest_len (i54 ++ text))
            have HD81 := Lib.hid (digest_small (i54 ++ text))
            generalize digest (i54 ++ text) = D1 at HDL1 HD81 HMK ⊢
            clear hbs HQB HQN HQ8
            dsimp only
            rename_i hK
            refine hK _ _ ?_
            clear hK
            refine wpList_plain rfl (fun K hK => ?_)
            go_simp
            refine hK _ _ ?_
            clear hK K
            have hsz : (u8s D1).toArray.size = 32 := by rw [List.size_toArray, u8s_length, HDL1.out]
            change wpList _ _ _ _ _ (ws.alloc (.cells (u8s (pad 32 [])).toArray 59))
            refine wpList_store_mid rfl 59 _ _ rfl ws.heap.size 0 _ rfl rfl (there_of_block (heap_alloc_new ws (.cells (u8s (pad 32 [])).toArray 59)) 0 _ (by rw [hsz]; decide)) (by rw [hsz]; kernel_rfl) (u8s_cells _) ?_
            obtain ⟨wt, hw, hrow, hbel⟩ := alloc_row ws 59 (pad 32 []) D1 (by rw [HDL1.out, pad_length (by decide)])
            change wpList _ _ _ _ _ ((ws.alloc (.cells (u8s (pad 32 [])).toArray 59)).setCells ws.heap.size 0 (u8s D1).toArray.toList)
            rw [hw]
            have Rwt := Lib.hid hrow
            have Ewt := Lib.hid hbel
            clear hw hrow hbel hsz
            have BT := Lib.hid (BS.out.trans (Ewt.out.mono BS.out.size))
            have PT := Lib.hid (own_below PQ.out BT.out)
            have FT := Lib.hid (free_below_ FQ.out BT.out)
            have BTW := Lib.hid (BQ.out.trans (BT.out.mono BQ.out.size))
            have HRT := Lib.hid (row_all_ Rwt.out HDL1.out)
            have HTZ := Lib.hid (show wo.heap.size ≤ wt.heap.size from Nat.le_trans ZQ.out.size BT.out.size)
            clear BS Ewt Rwt BT PQ FQ BQ ZQ
            generalize ws.heap.size = N1 at HRT
            go_upto_region 15 with (fail)
            refine wp_region_lit ?_
            refine wpList_plain rfl (fun K hK => ?_)
            go_simp
            refine hK _ _ ?_
            clear hK K
            refine wpList_plain rfl (fun K hK => ?_)
            go_simp
            refine hK _ _ ?_
            clear hK K
            refine append_own rfl (.tmp 52) (.tmp 53) rfl wo.heap.size _ 64 (u8s o92) rfl PT.out (some ⟨N1, 0, none⟩) 32 32 D1 rfl HDL1.out (fun h => by cases h) (bytes_src HRT.out) (by omega) HTZ.out ?_
            intro vu wu hownu hgu hvu
            rw [show (64 + 32 : Nat) = 96 from rfl] at hownu
            obtain ⟨au, cu, rfl⟩ := row_form' hownu
            rw [show u8s o92 ++ u8s D1 = u8s (o92 ++ D1) by simp [u8s]] at hownu
            have BU := Lib.hid (show Below w.heap.size w wu from BTW.out.grown hgu BTW.out.size (fun k hk => by have := own_ge PT.out k hk; have := HWR.out; omega))
            have FU := Lib.hid (show Free32_ wu w.heap.size from (hgu.block _ (lt_of_heap_ FT.out) (fun e => by have := own_ge PT.out _ e.symm; have := HHL.out; omega)).trans FT.out)
            have HUB := Lib.hid (own_bytes_n hownu (by rw [List.length_append, HL92.out, HDL1.out]))
            have HUN := Lib.hid (show au = none → 96 = 0 ∧ cu = 0 from fun h => row_nil hownu au 96 cu rfl h)
            have HU8 := Lib.hid (show ∀ x ∈ o92 ++ D1, x < 256 from fun x hx => by rcases List.mem_append.1 hx with h | h; exact H92.out x h; exact HD81.out x h)
            clear hownu hgu hvu PT FT BTW HRT HTZ
            go_wp2_with fail
            refine (rof_any au 96 cu (o92 ++ D1) _ (by rw [List.length_append, HL92.out, HDL1.out]) HU8.out (by omega) HUB.out HUN.out).mono ?_
            rintro e wv ⟨rfl, hbv⟩
            have FV := Lib.hid (free_below_ FU.out hbv)
            have BV := Lib.hid (BU.out.trans (hbv.mono BU.out.size))
            have HDL2 := Lib.hid (digest_len (o92 ++ D1))
            generalize digest (o92 ++ D1) = D2 at HDL2 HMK ⊢
            clear hbv HUB HUN HU8 FU BU
            dsimp only
            rename_i hK
            refine hK _ _ ?_
            clear hK
            have hsz : (u8s D2).toArray.size = 32 := by rw [List.size_toArray, u8s_length, HDL2.out]
            refine wpList_store_mid rfl 59 _ _ rfl w.heap.size 0 _ rfl rfl (there_of_block FV.out 0 _ (by rw [hsz]; decide)) (by rw [hsz]; kernel_rfl) (u8s_cells _) ?_
            have FX := Lib.hid (put_row_ (D := D2) (by rw [HDL2.out, pad_length (by decide)]) FV.out)
            have BX := Lib.hid (below_setCells w.heap.size (Nat.le_refl _) (u8s D2).toArray.toList 0 _ BV.out)
            generalize wv.setCells w.heap.size 0 (u8s D2).toArray.toList = wx at FX BX
            clear hsz
            go_wp2_with fail
            exact bodyPost_ret (v := .agg (u8s D2).toArray) (results_cell_row rfl _ _ w.heap.size 59 _ (0, 0) _ rfl FX.out Tryd.underlying59 rfl (by rw [List.size_toArray, u8s_length, HDL2.out]; kernel_rfl)) rfl ⟨by rw [HMK.out], BX.out⟩
  · have hd : decide ((64 : Int) < (len0 : Int)) = false := by simp; omega
    have hz : len0 ≤ 64 := by omega
    have HKK := Lib.hid (show keyOf key = key by unfold keyOf; rw [if_neg (by rw [HX.out]; omega)])
    have HKN := Lib.hid (show (keyOf key).length = len0 by rw [HKK.out, HX.out])
    have hd' : decide ((64 : Int) < (((keyOf key).length : Nat) : Int)) = false := by rw [HKN.out]; exact hd
    clear h64 hd
    have hd := hd'
    clear hd'
    have HO0 := Lib.hid (show w5.ownsRow w1.heap.size 5 1 (.slice a5 (keyOf key).length c5) (keyOf key).length (u8s (keyOf key)) by rw [HKK.out, HX.out]; exact O5.out)
    have HB0 := Lib.hid B5.out
    clear O5 B5
    have HKL := Lib.hid (keyOf_length key)
    have HPAD := Lib.hid (fun j h => keyOf_pad key j h)
    rw [← HKN.out]
    clear HKK HKN
    generalize keyOf key = K0 at HO0 HKL HPAD hd ⊢
    go_wp2_with fail
    go_loopw [5] (fun v wr => ∃ (j : Nat) (ad : Option Addr) (cp : Nat), K0.length + j ≤ 64 ∧ v = .slice ad (K0.length + j) cp ∧ wr.ownsRow w1.heap.size 5 1 (.slice ad (K0.length + j) cp) (K0.length + j) (u8s (K0 ++ List.replicate j 0)) ∧ Below w1.heap.size w1 wr) (fun v _ => 64 - sliceLen_ v)
    case atStart => exact ⟨0, a5, c5, by have := HKL.out; omega, rfl, by simpa using HO0.out, HB0.out⟩
    case round =>
      obtain ⟨j, ad, cp, hj, rfl, ho, hb⟩ := hrel
      have HO := Lib.hid ho
      have HB := Lib.hid hb
      clear ho hb
      by_cases hlt : K0.length + j < 64
      · have hlt' : ((K0.length : Nat) : Int) + (j : Int) < 64 := by omega
        go_wp2_with (at_builtin; refine wpList_mark ?_)
        refine Lib.hid ?_
        refine append_own rfl (.tmp 25) (.tmp 26) rfl w1.heap.size _ (K0.length + j) (u8s (K0 ++ List.replicate j 0)) rfl (HO.out.alloc _) (some ⟨wr.heap.size, 0, none⟩) 1 1 [0] rfl rfl (fun h => by cases h) (bytes_one wr 0) ?_ ?_ ?_
        · omega
        · have := HB.out.size; simp; omega
        intro v2 w2 hown2 hg2 hv2
        obtain ⟨va, vc, rfl⟩ := row_form' hown2
        rw [show u8s (K0 ++ List.replicate j 0) ++ u8s [0] = u8s (K0 ++ List.replicate (j + 1) 0) by rw [List.replicate_succ']; simp [u8s]] at hown2
        have O2 := Lib.hid hown2
        have B2 := Lib.hid (show Below w1.heap.size w1 w2 from (HB.out.alloc HB.out.size _).grown hg2 (by have := HB.out.size; simp; omega) (own_ge HO.out))
        clear hown2 hg2 hv2
        go_wp2_with fail
        go_roundw
        case rel => exact ⟨j + 1, va, vc, by omega, rfl, O2.out, B2.out⟩
        case measure => simp [sliceLen_]; omega
      · have e64 : K0.length + j = 64 := by omega
        have ho := HO.out
        rw [HPAD.out j e64, e64] at ho
        have HO1 := Lib.hid ho
        rw [e64]
        clear ho hlt HO
        obtain ⟨wo, rfl⟩ : ∃ wo : World, wo = wr := ⟨_, rfl⟩
        have HK8 := Lib.hid (kblock_small H8.out)
        have HKB := Lib.hid (kblock_length key)
        have HMK := Lib.hid (show hmac key text = digest (xored (kblock key) 92 ++ digest (xored (kblock key) 54 ++ text)) from rfl)
        generalize kblock key = kb at HO1 HK8 HKB HMK
        have BW := Lib.hid (Below.refl wo.heap.size wo)
        have HRL := Lib.hid (show wo.heap.size ≤ wo.heap.size from Nat.le_refl _)
        go_wp2_with fail
        go_loopw [7, 8, 9] (fun vi vo i wr => ∃ (k : Nat) (ai : Option Addr) (ci : Nat) (ao : Option Addr) (co : Nat), k ≤ 64 ∧ i = .int .i64 k ∧ vi = .slice ai k ci ∧ vo = .slice ao k co ∧ wr.ownsRow wo.heap.size 5 1 (.slice ai k ci) k (u8s ((xored kb 54).take k)) ∧ wr.ownsRow wo.heap.size 5 1 (.slice ao k co) k (u8s ((xored kb 92).take k)) ∧ Apart (.slice ai k ci) (.slice ao k co) ∧ Below wo.heap.size wo wr) (fun _ _ i _ => 64 - (intOf i).toNat)
        case atStart => exact ⟨0, none, 0, none, 0, Nat.zero_le _, rfl, rfl, rfl, World.ownsRow_nil _ _ _ _, World.ownsRow_nil _ _ _ _, .inl rfl, BW.out⟩
        case round =>
          obtain ⟨k, ai, ci, ao, co, hk, rfl, rfl, rfl, hoi, hoo, hap, hb⟩ := hrel
          have HI := Lib.hid hoi
          have HOO := Lib.hid hoo
          have HA := Lib.hid hap
          have HZ := Lib.hid hb
          clear hoi hoo hap hb
          by_cases hlt2 : k < 64
          · obtain ⟨gk, hgk, _, hck⟩ := own_at HO1.out HKB.out k hlt2
            subst hgk
            have HCK := Lib.hid hck
            have hc1 := (HZ.out.cell (p := ⟨gk, k, none⟩) (block_lt_of_cell hck)).trans hck
            have hx := getD_lt HK8.out (by decide) k
            have HT1 := Lib.hid (xored_take kb 54 k (by rw [HKB.out]; exact hlt2))
            have HT2 := Lib.hid (xored_take kb 92 k (by rw [HKB.out]; exact hlt2))
            generalize kb.getD k 0 = x at hc1 hx HT1 HT2 HCK
            have HX54 := Lib.hid (u8_xor_nat_ x 54 hx (by decide))
            have HX92 := Lib.hid (u8_xor_nat_ x 92 hx (by decide))
            have hi0 : (0 : Int) ≤ (k : Int) := by omega
            have hi1 : (k : Int) < 64 := by omega
            clear hck
            go_wp2_with (at_builtin; refine wpList_mark ?_)
            refine Lib.hid ?_
            refine append1_lies rfl (.tmp 32) (.tmp 38) rfl wo.heap.size _ k (u8s ((xored kb 54).take k)) rfl (HI.out.alloc _) wr.heap.size (x ^^^ 54) rfl ?_ ?_ ?_ ?_
            · exact (cell_of_row _ wr.heap.size 0 _ _ _ (heap_alloc_new wr _)).trans (by first | rfl | exact congrArg (fun y => some (Value.int .u8 y)) HX54.out)
            · omega
            · have := HZ.out.size; simp; omega
            intro gi di w4 ho4 hg4 hat4
            rw [show u8s ((xored kb 54).take k) ++ u8s [x ^^^ 54] = u8s ((xored kb 54).take (k + 1)) by rw [HT1.out]; simp [u8s]] at ho4
            have O4 := Lib.hid ho4
            have P4 := Lib.hid (HA.out.keep (HOO.out.alloc _) hg4)
            have A4 := Lib.hid ((HA.out.next HOO.out hat4 (by simp) : Apart (.slice (some ⟨gi, 0, none⟩) (k + 1) di) _))
            have Z4 := Lib.hid (show Below wo.heap.size wo w4 from (HZ.out.alloc HZ.out.size _).grown hg4 (by have := HZ.out.size; simp; omega) (own_ge HI.out))
            have hc4 := (Z4.out.cell (p := ⟨gk, k, none⟩) (block_lt_of_cell HCK.out)).trans HCK.out
            clear ho4 hg4 hat4 hc1 HI HOO HA HZ
            go_wp2_with (at_builtin; refine wpList_mark ?_)
            refine Lib.hid ?_
            refine append1_lies rfl (.tmp 40) (.tmp 46) rfl wo.heap.size _ k (u8s ((xored kb 92).take k)) rfl (P4.out.alloc _) w4.heap.size (x ^^^ 92) rfl ?_ ?_ ?_ ?_
            · exact (cell_of_row _ w4.heap.size 0 _ _ _ (heap_alloc_new w4 _)).trans (by first | rfl | exact congrArg (fun y => some (Value.int .u8 y)) HX92.out)
            · omega
            · have := Z4.out.size; simp; omega
            intro go do' w5' ho5 hg5 hat5
            rw [show u8s ((xored kb 92).take k) ++ u8s [x ^^^ 92] = u8s ((xored kb 92).take (k + 1)) by rw [HT2.out]; simp [u8s]] at ho5
            have O5' := Lib.hid ho5
            have P5 := Lib.hid (A4.out.symm.keep (O4.out.alloc _) hg5)
            have A5 := Lib.hid ((A4.out.symm.next O4.out hat5 (by simp) : Apart (.slice (some ⟨go, 0, none⟩) (k + 1) do') _).symm)
            have Z5 := Lib.hid (show Below wo.heap.size wo w5' from (Z4.out.alloc Z4.out.size _).grown hg5 (by have := Z4.out.size; simp; omega) (own_ge P4.out))
            clear ho5 hg5 hat5 hc4 O4 P4 A4 Z4
            go_wp2_with fail
            go_roundw
            case rel => exact ⟨k + 1, _, _, _, _, by omega, by go_num, rfl, rfl, P5.out, O5'.out, A5.out, Z5.out⟩
            case measure => simp [intOf]; omega
          · have e : k = 64 := by omega
            subst e
            have hoi := HI.out
            have hoo := HOO.out
            rw [List.take_of_length_le (by rw [xored_length, HKB.out]; exact Nat.le_refl _)] at hoi hoo
            have HI1 := Lib.hid hoi
            have HO2 := Lib.hid hoo
            have HL54 := Lib.hid (show (xored kb 54).length = 64 by rw [xored_length, HKB.out])
            have HL92 := Lib.hid (show (xored kb 92).length = 64 by rw [xored_length, HKB.out])
            have H54 := Lib.hid (xored_small (c := 54) HK8.out (by decide))
            have H92 := Lib.hid (xored_small (c := 92) HK8.out (by decide))
            generalize xored kb 54 = i54 at HI1 HL54 H54 HMK
            generalize xored kb 92 = o92 at HO2 HL92 H92 HMK
            have HTX := Lib.hid (bytes_below HBT.out ((B1.out.trans (HB.out.mono B1.out.size)).trans (HZ.out.mono (B1.out.trans (HB.out.mono B1.out.size)).size)))
            have HWR := Lib.hid (show w.heap.size ≤ wo.heap.size from Nat.le_trans B1.out.size HB.out.size)
            have HHL := Lib.hid (show w.heap.size < wo.heap.size from Nat.lt_of_lt_of_le (lt_of_heap_ F1.out) HB.out.size)
            have HFZ := Lib.hid (free_below_ (free_below_ F1.out HB.out) HZ.out)
            have BZ := Lib.hid (show Below w.heap.size w wr from (B1.out.trans (HB.out.mono B1.out.size)).trans (HZ.out.mono (B1.out.trans (HB.out.mono B1.out.size)).size))
            clear hoi hoo hlt2 HI HOO HO1 B1 F1 HB HB0 HO0
            have hwz := HZ.out.size
            go_upto_region 14 with (fail)
            refine wp_region_lit ?_
            refine wpList_plain rfl (fun K hK => ?_)
            go_simp
            refine hK _ _ ?_
            clear hK K
            refine wpList_plain rfl (fun K hK => ?_)
            go_simp
            refine hK _ _ ?_
            clear hK K
            refine append_own rfl (.tmp 48) (.tmp 49) rfl wo.heap.size _ 64 (u8s i54) rfl HI1.out a1 len1 cap1 text rfl HY.out HN1.out (bytes_src HTX.out) (by omega) hwz ?_
            intro vq wq hownq hgq hvq
            obtain ⟨aq, cq, rfl⟩ := row_form' hownq
            rw [show u8s i54 ++ u8s text = u8s (i54 ++ text) by simp [u8s]] at hownq
            have OQ := Lib.hid hownq
            have PQ := Lib.hid (HA.out.keep HO2.out hgq)
            have ZQ := Lib.hid (show Below wo.heap.size wo wq from HZ.out.grown hgq HZ.out.size (own_ge HI1.out))
            have BQ := Lib.hid (show Below w.heap.size w wq from BZ.out.grown hgq BZ.out.size (fun k hk => by have := own_ge HI1.out k hk; have := HWR.out; omega))
            have FQ := Lib.hid (show Free32_ wq w.heap.size from (hgq.block _ (lt_of_heap_ HFZ.out) (fun e => by have := own_ge HI1.out _ e.symm; have := HHL.out; omega)).trans HFZ.out)
            have HQB := Lib.hid (own_bytes_n OQ.out (by rw [List.length_append, HL54.out, HY.out]))
            have HQN := Lib.hid (show aq = none → 64 + len1 = 0 ∧ cq = 0 from fun h => row_nil OQ.out aq (64 + len1) cq rfl h)
            have HQ8 := Lib.hid (show ∀ x ∈ i54 ++ text, x < 256 from fun x hx => by rcases List.mem_append.1 hx with h | h; exact H54.out x h; exact HT8.out x h)
            clear hownq hgq hvq OQ HA HI1 HO2 HZ BZ HFZ HTX hwz
            go_wp2_with fail
            refine (rof_any aq (64 + len1) cq (i54 ++ text) _ (by rw [List.length_append, HL54.out, HY.out]) HQ8.out (by omega) HQB.out HQN.out).mono ?_
            rintro e ws ⟨rfl, hbs⟩
            have BS := Lib.hid hbs
            have HDL1 := Lib.hid (digest_len (i54 ++ text))
            have HD81 := Lib.hid (digest_small (i54 ++ text))
            generalize digest (i54 ++ text) = D1 at HDL1 HD81 HMK ⊢
            clear hbs HQB HQN HQ8
            dsimp only
            rename_i hK
            refine hK _ _ ?_
            clear hK
            refine wpList_plain rfl (fun K hK => ?_)
            go_simp
            refine hK _ _ ?_
            clear hK K
            have hsz : (u8s D1).toArray.size = 32 := by rw [List.size_toArray, u8s_length, HDL1.out]
            change wpList _ _ _ _ _ (ws.alloc (.cells (u8s (pad 32 [])).toArray 59))
            refine wpList_store_mid rfl 59 _ _ rfl ws.heap.size 0 _ rfl rfl (there_of_block (heap_alloc_new ws (.cells (u8s (pad 32 [])).toArray 59)) 0 _ (by rw [hsz]; decide)) (by rw [hsz]; kernel_rfl) (u8s_cells _) ?_
            obtain ⟨wt, hw, hrow, hbel⟩ := alloc_row ws 59 (pad 32 []) D1 (by rw [HDL1.out, pad_length (by decide)])
            change wpList _ _ _ _ _ ((ws.alloc (.cells (u8s (pad 32 [])).toArray 59)).setCells ws.heap.size 0 (u8s D1).toArray.toList)
            rw [hw]
            have Rwt := Lib.hid hrow
            have Ewt := Lib.hid hbel
            clear hw hrow hbel hsz
            have BT := Lib.hid (BS.out.trans (Ewt.out.mono BS.out.size))
            have PT := Lib.hid (own_below PQ.out BT.out)
            have FT := Lib.hid (free_below_ FQ.out BT.out)
            have BTW := Lib.hid (BQ.out.trans (BT.out.mono BQ.out.size))
            have HRT := Lib.hid (row_all_ Rwt.out HDL1.out)
            have HTZ := Lib.hid (show wo.heap.size ≤ wt.heap.size from Nat.le_trans ZQ.out.size BT.out.size)
            clear BS Ewt Rwt BT PQ FQ BQ ZQ
            generalize ws.heap.size = N1 at HRT
            go_upto_region 15 with (fail)
            refine wp_region_lit ?_
            refine wpList_plain rfl (fun K hK => ?_)
            go_simp
            refine hK _ _ ?_
            clear hK K
            refine wpList_plain rfl (fun K hK => ?_)
            go_simp
            refine hK _ _ ?_
            clear hK K
            refine append_own rfl (.tmp 52) (.tmp 53) rfl wo.heap.size _ 64 (u8s o92) rfl PT.out (some ⟨N1, 0, none⟩) 32 32 D1 rfl HDL1.out (fun h => by cases h) (bytes_src HRT.out) (by omega) HTZ.out ?_
            intro vu wu hownu hgu hvu
            rw [show (64 + 32 : Nat) = 96 from rfl] at hownu
            obtain ⟨au, cu, rfl⟩ := row_form' hownu
            rw [show u8s o92 ++ u8s D1 = u8s (o92 ++ D1) by simp [u8s]] at hownu
            have BU := Lib.hid (show Below w.heap.size w wu from BTW.out.grown hgu BTW.out.size (fun k hk => by have := own_ge PT.out k hk; have := HWR.out; omega))
            have FU := Lib.hid (show Free32_ wu w.heap.size from (hgu.block _ (lt_of_heap_ FT.out) (fun e => by have := own_ge PT.out _ e.symm; have := HHL.out; omega)).trans FT.out)
            have HUB := Lib.hid (own_bytes_n hownu (by rw [List.length_append, HL92.out, HDL1.out]))
            have HUN := Lib.hid (show au = none → 96 = 0 ∧ cu = 0 from fun h => row_nil hownu au 96 cu rfl h)
            have HU8 := Lib.hid (show ∀ x ∈ o92 ++ D1, x < 256 from fun x hx => by rcases List.mem_append.1 hx with h | h; exact H92.out x h; exact HD81.out x h)
            clear hownu hgu hvu PT FT BTW HRT HTZ
            go_wp2_with fail
            refine (rof_any au 96 cu (o92 ++ D1) _ (by rw [List.length_append, HL92.out, HDL1.out]) HU8.out (by omega) HUB.out HUN.out).mono ?_
            rintro e wv ⟨rfl, hbv⟩
            have FV := Lib.hid (free_below_ FU.out hbv)
            have BV := Lib.hid (BU.out.trans (hbv.mono BU.out.size))
            have HDL2 := Lib.hid (digest_len (o92 ++ D1))
            generalize digest (o92 ++ D1) = D2 at HDL2 HMK ⊢
            clear hbv HUB HUN HU8 FU BU
            dsimp only
            rename_i hK
            refine hK _ _ ?_
            clear hK
            have hsz : (u8s D2).toArray.size = 32 := by rw [List.size_toArray, u8s_length, HDL2.out]
            refine wpList_store_mid rfl 59 _ _ rfl w.heap.size 0 _ rfl rfl (there_of_block FV.out 0 _ (by rw [hsz]; decide)) (by rw [hsz]; kernel_rfl) (u8s_cells _) ?_
            have FX := Lib.hid (put_row_ (D := D2) (by rw [HDL2.out, pad_length (by decide)]) FV.out)
            have BX := Lib.hid (below_setCells w.heap.size (Nat.le_refl _) (u8s D2).toArray.toList 0 _ BV.out)
            generalize wv.setCells w.heap.size 0 (u8s D2).toArray.toList = wx at FX BX
            clear hsz
            go_wp2_with fail
            exact bodyPost_ret (v := .agg (u8s D2).toArray) (results_cell_row rfl _ _ w.heap.size 59 _ (0, 0) _ rfl FX.out Tryd.underlying59 rfl (by rw [List.size_toArray, u8s_length, HDL2.out]; kernel_rfl)) rfl ⟨by rw [HMK.out], BX.out⟩
end Sha
end Go.Proofs.YtoiidedigbfnaaaDoor
/- 'Tag' of the document's answer is the beginning of the code. -/
namespace Go.Proofs.YtoiidedigbfnaaaDoor
open Go.RowKit Cut Apd
namespace Sha
set_option maxRecDepth 100000 in
set_option maxHeartbeats 2000000 in
theorem rtag_any (a0 : Option Addr) (len0 cap0 : Nat) (a1 : Option Addr) (len1 cap1 : Nat) (key text : List Nat) (w : World) (h0 : len0 ≤ 200) (h1 : len1 ≤ 900) (hx : key.length = len0) (hy : text.length = len1) (h8 : ∀ x ∈ key, x < 256) (ht8 : ∀ x ∈ text, x < 256)
    (hbx : BytesIn w (.slice a0 len0 cap0) key) (hbt : BytesIn w (.slice a1 len1 cap1) text) (hn0 : a0 = none → len0 = 0 ∧ cap0 = 0) (hn1 : a1 = none → len1 = 0 ∧ cap1 = 0) :
    Calls Tryd.prog 13 #[.slice a0 len0 cap0, .slice a1 len1 cap1] w fun e w' => ∃ ad c, e = .returned (.slice ad 16 c) ∧ BytesIn w' (.slice ad 16 c) ((hmac key text).take 16) ∧ Below w.heap.size w w' := by
  have HC := Lib.hid (rcode_any a0 len0 cap0 a1 len1 cap1 key text w h0 h1 hx hy h8 ht8 hbx hbt hn0 hn1)
  clear hx hy h8 ht8 hbx hbt hn0 hn1
  go_enter Tryd.func13, Tryd.ntmps13
  go_wp2_with fail
  refine (HC.out).mono ?_
  rintro e w2 ⟨rfl, hb2⟩
  have B2 := Lib.hid hb2
  have HDL := Lib.hid (hmac_length key text)
  generalize hD : hmac key text = D at HDL ⊢
  have HD := Lib.hid hD
  clear hb2 HC hD
  dsimp only
  rename_i hK
  refine hK _ _ ?_
  clear hK
  refine wpList_plain rfl (fun K hK => ?_)
  go_simp
  refine hK _ _ ?_
  clear hK K
  have hsz : (u8s D).toArray.size = 32 := by rw [List.size_toArray, u8s_length, HDL.out]
  change wpList _ _ _ _ _ (w2.alloc (.cells (u8s (pad 32 [])).toArray 59))
  refine wpList_store_mid rfl 59 _ _ rfl w2.heap.size 0 _ rfl rfl (there_of_block (heap_alloc_new w2 (.cells (u8s (pad 32 [])).toArray 59)) 0 _ (by rw [hsz]; decide)) (by rw [hsz]; kernel_rfl) (u8s_cells _) ?_
  obtain ⟨w3, hw, hrow, hbel⟩ := alloc_row w2 59 (pad 32 []) D (by rw [HDL.out, pad_length (by decide)])
  change wpList _ _ _ _ _ ((w2.alloc (.cells (u8s (pad 32 [])).toArray 59)).setCells w2.heap.size 0 (u8s D).toArray.toList)
  rw [hw]
  have Rw3 := Lib.hid hrow
  have Ew3 := Lib.hid hbel
  clear hw hrow hbel hsz
  have B3 := Lib.hid (B2.out.trans (Ew3.out.mono B2.out.size))
  have HTL := Lib.hid (show (D.take 16).length = 16 by rw [List.length_take, HDL.out]; decide)
  have HS := Lib.hid (row_bytes_ Rw3.out (n := 16) (c := 32) (by rw [HDL.out]; decide) (by decide))
  clear B2 Ew3 Rw3
  generalize w2.heap.size = N at HS
  have HMI := Lib.hid (World.ownsRow_lit (e := 5) (base := w3.heap.size) (size := 1) w3 #[] 0 (Nat.le_refl _) (Nat.zero_le _) rfl)
  have L := Lib.hid ((Below.refl w3.heap.size w3).alloc (Nat.le_refl _) (.cells #[] 5))
  go_upto_region 2 with (fail)
  refine wp_region_lit ?_
  refine wpList_plain rfl (fun K hK => ?_)
  go_simp
  refine hK _ _ ?_
  clear hK K
  refine wpList_plain rfl (fun K hK => ?_)
  go_simp
  refine hK _ _ ?_
  clear hK K
  refine append_own rfl (.tmp 9) (.tmp 10) rfl w3.heap.size _ 0 [] rfl HMI.out (some ⟨N, 0, none⟩) 16 32 (D.take 16) rfl HTL.out (fun h => by cases h) (bytes_src (bytes_below HS.out L.out)) (by omega) (by simp) ?_
  intro v4 w4 hown4 hg4 hv4
  rw [Nat.zero_add, List.nil_append] at hown4
  obtain ⟨a4, c4, rfl⟩ := row_form' hown4
  have HB4 := Lib.hid (own_bytes_n hown4 HTL.out)
  have B4 := Lib.hid (show Below w3.heap.size w3 w4 from L.out.grown hg4 (by simp) (own_ge HMI.out))
  clear hown4 hg4 hv4 HMI L
  go_wp2_with fail
  go_ret
  exact ⟨a4, c4, rfl, by rw [HD.out]; exact HB4.out, B3.out.trans (B4.out.mono B3.out.size)⟩
end Sha
end Go.Proofs.YtoiidedigbfnaaaDoor
