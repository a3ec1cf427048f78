/- The walk of HashTwice. -/
import Derived.Test.YtjmddaliblcalaaShaLaw
namespace Go.Proofs.Ytjmddaliblcalaa
open Go.RowKit
namespace Sha
theorem bool_true {e : Ending} {b : Bool} (h : e = .returned (.bool b)) (hb : b = true) : e = .returned (.bool true) := by rw [h, hb]
set_option maxRecDepth 100000 in
set_option maxHeartbeats 1000000 in
theorem twice_long0 (a0 : Option Addr) (len0 cap0 : Nat) (a1 : Option Addr) (len1 cap1 : Nat) (w : World) (hl : len0 ≤ maxLen) (h : 300 < len0) :
    Calls Try.prog 7 #[.slice a0 len0 cap0, .slice a1 len1 cap1] w fun e w' => e = .returned (.bool true) ∧ Below w.heap.size w w' := by
  unfold maxLen at hl
  have hg : decide ((300 : Int) < (len0 : Int)) = true := by simp; omega
  go_enter Try.func7, Try.ntmps7
  go_wp2_with fail
  refine (awake_any _).mono ?_
  rintro e w1 ⟨rfl, hb1⟩
  have B1 := Lib.hid hb1
  clear hb1
  go_wp2_with fail
  refine (awake_any _).mono ?_
  rintro e w2 ⟨rfl, hb2⟩
  have B2 := Lib.hid (B1.out.trans (hb2.mono B1.out.size))
  clear hb2
  go_wp2_with fail
  go_ret
  exact ⟨rfl, B2.out⟩

set_option maxRecDepth 100000 in
set_option maxHeartbeats 1000000 in
theorem twice_long1 (a0 : Option Addr) (len0 cap0 : Nat) (a1 : Option Addr) (len1 cap1 : Nat) (w : World) (hl : len1 ≤ maxLen) (h0 : len0 ≤ 300) (h : 300 < len1) :
    Calls Try.prog 7 #[.slice a0 len0 cap0, .slice a1 len1 cap1] w fun e w' => e = .returned (.bool true) ∧ Below w.heap.size w w' := by
  unfold maxLen at hl
  have hg0 : decide ((300 : Int) < (len0 : Int)) = false := by simp; omega
  have hg : decide ((300 : Int) < (len1 : Int)) = true := by simp; omega
  go_enter Try.func7, Try.ntmps7
  go_wp2_with fail
  refine (awake_any _).mono ?_
  rintro e w1 ⟨rfl, hb1⟩
  have B1 := Lib.hid hb1
  clear hb1
  go_wp2_with fail
  refine (awake_any _).mono ?_
  rintro e w2 ⟨rfl, hb2⟩
  have B2 := Lib.hid (B1.out.trans (hb2.mono B1.out.size))
  clear hb2
  go_wp2_with fail
  go_ret
  exact ⟨rfl, B2.out⟩

set_option maxRecDepth 100000 in
set_option maxHeartbeats 2000000 in
theorem twice_main (a0 : Option Addr) (len0 cap0 : Nat) (a1 : Option Addr) (len1 cap1 : Nat) (w : World) (h0 : len0 ≤ 300) (h1 : len1 ≤ 300) (xs ys : List Nat) (hx : xs.length = len0) (hy : ys.length = len1)
    (hx8 : ∀ x ∈ xs, x < 256) (hy8 : ∀ x ∈ ys, x < 256) (hbx : BytesIn w (.slice a0 len0 cap0) xs) (hby : BytesIn w (.slice a1 len1 cap1) ys) :
    Calls Try.prog 7 #[.slice a0 len0 cap0, .slice a1 len1 cap1] w fun e w' => e = .returned (.bool true) ∧ Below w.heap.size w w' := by
  have hg0 : decide ((300 : Int) < (len0 : Int)) = false := by simp; omega
  have hg1 : decide ((300 : Int) < (len1 : Int)) = false := by simp; omega
  have HX := Lib.hid hx
  have HY := Lib.hid hy
  have HX8 := Lib.hid hx8
  have HY8 := Lib.hid hy8
  have HBX := Lib.hid hbx
  have HBY := Lib.hid hby
  clear hx hy hx8 hy8 hbx hby
  go_enter Try.func7, Try.ntmps7
  go_wp2_with fail
  refine (awake_any _).mono ?_
  rintro e w1 ⟨rfl, hb1⟩
  have B1 := Lib.hid hb1
  clear hb1
  go_wp2_with fail
  refine (new_any _).mono ?_
  rintro e w2 ⟨rfl, hs2, hb2⟩
  have S2 := Lib.hid hs2
  have B2 := Lib.hid (B1.out.trans (hb2.mono B1.out.size))
  have N1 := Lib.hid B1.out.size
  clear hs2 hb2
  go_wp2_with fail
  refine (new_any _).mono ?_
  rintro e w3 ⟨rfl, hs3, hb3⟩
  have T3 := Lib.hid (show Two w w3 w1.heap.size w2.heap.size [] [] from ⟨B2.out.trans (hb3.mono B2.out.size), sum_below S2.out hb3, hs3, by have := sum_lt S2.out; omega, N1.out, B2.out.size⟩)
  clear hs3 hb3 S2 B2 N1 B1
  generalize w1.heap.size = b1 at T3
  generalize w2.heap.size = b2 at T3
  go_wp2_with fail
  have T4 := Lib.hid (T3.out.alloc (.cells #[.slice a0 len0 cap0] 22))
  refine (add_any b1 [] [xs] _ _ T4.out.s1 (parts_laid T3.out.old [.slice a0 len0 cap0] [xs] rfl (fun | 0, _ => HBX.out) T3.out.h1 (sum_lt T3.out.s1) _ rfl) (by simpa using HX8.out) (by have := HX.out; simp; omega) (by simp)).mono ?_
  rintro e w5 ⟨rfl, hs5, hg5⟩
  rw [show [] ++ [xs].flatten = xs by simp] at hs5
  have T5 := Lib.hid (T4.out.add1 hs5 hg5)
  clear hs5 hg5 T3 T4
  go_wp2_with fail
  refine (end_any b1 xs _ T5.out.s1 (by have := HX.out; omega)).mono ?_
  rintro e w6 ⟨rfl, hb6⟩
  have T6 := Lib.hid (T5.out.below hb6)
  clear hb6 T5
  go_wp2_with fail
  have T7 := Lib.hid (T6.out.alloc (.cells #[.slice a0 len0 cap0, .slice a1 len1 cap1] 22))
  refine (add_any b1 xs [xs, ys] _ _ T7.out.s1 (parts_laid T6.out.old [.slice a0 len0 cap0, .slice a1 len1 cap1] [xs, ys] rfl (fun | 0, _ => HBX.out | 1, _ => HBY.out) T6.out.h1 (sum_lt T6.out.s1) _ rfl) (by simpa using ⟨HX8.out, HY8.out⟩) (by have := HX.out; have := HY.out; simp; omega) (by simp)).mono ?_
  rintro e w8 ⟨rfl, hs8, hg8⟩
  rw [show xs ++ [xs, ys].flatten = xs ++ (xs ++ ys) by simp] at hs8
  have T8 := Lib.hid (T7.out.add1 hs8 hg8)
  clear hs8 hg8 T6 T7
  go_wp2_with fail
  have T9 := Lib.hid (T8.out.alloc (.cells #[.slice a0 len0 cap0, .slice a0 len0 cap0] 22))
  refine (add_any b2 [] [xs, xs] _ _ T9.out.s2 (parts_laid T8.out.old [.slice a0 len0 cap0, .slice a0 len0 cap0] [xs, xs] rfl (fun | 0, _ => HBX.out | 1, _ => HBX.out) T8.out.h2 (sum_lt T8.out.s2) _ rfl) (by simpa using HX8.out) (by have := HX.out; simp; omega) (by simp)).mono ?_
  rintro e w10 ⟨rfl, hs10, hg10⟩
  rw [show [] ++ [xs, xs].flatten = xs ++ xs by simp] at hs10
  have T10 := Lib.hid (T9.out.add2 hs10 hg10)
  clear hs10 hg10 T8 T9
  go_wp2_with fail
  have T11 := Lib.hid (T10.out.alloc (.cells #[.slice a1 len1 cap1] 22))
  refine (add_any b2 (xs ++ xs) [ys] _ _ T11.out.s2 (parts_laid T10.out.old [.slice a1 len1 cap1] [ys] rfl (fun | 0, _ => HBY.out) T10.out.h2 (sum_lt T10.out.s2) _ rfl) (by simpa using HY8.out) (by have := HX.out; have := HY.out; simp; omega) (by simp)).mono ?_
  rintro e w12 ⟨rfl, hs12, hg12⟩
  rw [show xs ++ xs ++ [ys].flatten = xs ++ (xs ++ ys) by simp] at hs12
  have T12 := Lib.hid (T11.out.add2 hs12 hg12)
  have HE := Lib.hid (fun w => eql_refl (digest (xs ++ (xs ++ ys))) (digest_length _) w)
  have HF := Lib.hid (show [xs, xs, ys].flatten = xs ++ (xs ++ ys) by simp)
  have HL := Lib.hid (show (xs ++ (xs ++ ys)).length < 1000 by have := HX.out; have := HY.out; simp; omega)
  have HX9 := Lib.hid (show ∀ p ∈ [xs, xs, ys], ∀ x ∈ p, x < 256 by simpa using ⟨HX8.out, HY8.out⟩)
  generalize xs ++ (xs ++ ys) = m at T12 HE HF HL
  clear hs12 hg12 T10 T11
  go_wp2_with fail
  refine (end_any b1 m _ T12.out.s1 (by have := HL.out; omega)).mono ?_
  rintro e w13 ⟨rfl, hb13⟩
  have T13 := Lib.hid (T12.out.below hb13)
  clear hb13 T12
  go_wp2_with fail
  refine (end_any b2 m _ T13.out.s2 (by have := HL.out; omega)).mono ?_
  rintro e w14 ⟨rfl, hb14⟩
  have T14 := Lib.hid (T13.out.below hb14)
  clear hb14 T13
  have heq := HE.out
  go_wp2_with fail
  refine (end_any b1 m _ T14.out.s1 (by have := HL.out; omega)).mono ?_
  rintro e w15 ⟨rfl, hb15⟩
  have T15 := Lib.hid (T14.out.below hb15)
  clear hb15 T14
  go_wp2_with fail
  refine (of_any [xs, xs, ys] _ _ (parts_laid_in T15.out.old [.slice a0 len0 cap0, .slice a0 len0 cap0, .slice a1 len1 cap1] [xs, xs, ys] rfl (fun | 0, _ => HBX.out | 1, _ => HBX.out | 2, _ => HBY.out) _ rfl) HX9.out (by rw [HF.out]; have := HL.out; omega) (by simp)).mono ?_
  rintro e w16 ⟨rfl, hb16⟩
  have T16 := Lib.hid ((T15.out.alloc (.cells #[.slice a0 len0 cap0, .slice a0 len0 cap0, .slice a1 len1 cap1] 22)).below hb16)
  clear hb16 T15
  rw [HF.out]
  go_wp2_with fail
  go_ret
  exact ⟨rfl, T16.out.old⟩

theorem twice_walk (a0 : Option Addr) (len0 cap0 : Nat) (z0 : List Int) (a1 : Option Addr) (len1 cap1 : Nat) (z1 : List Int) (w : World) (w0 : IsRow .u8 w a0 len0 cap0 z0) (w1 : IsRow .u8 w a1 len1 cap1 z1) :
    Calls Try.prog 7 #[.slice a0 len0 cap0, .slice a1 len1 cap1] w fun e w' => e = .returned (.bool true) ∧ Below w.heap.size w w' := by
  rcases Nat.lt_or_ge 300 len0 with h0 | h0
  · exact twice_long0 a0 len0 cap0 a1 len1 cap1 w (isRow_le w0) h0
  · rcases Nat.lt_or_ge 300 len1 with h1 | h1
    · exact twice_long1 a0 len0 cap0 a1 len1 cap1 w (isRow_le w1) h0 h1
    · obtain ⟨xs, hx, hx8, hbx⟩ := isRow_bytes w0
      obtain ⟨ys, hy, hy8, hby⟩ := isRow_bytes w1
      exact twice_main a0 len0 cap0 a1 len1 cap1 w h0 h1 xs ys hx hy hx8 hy8 hbx hby
end Sha
end Go.Proofs.Ytjmddaliblcalaa
