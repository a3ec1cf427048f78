/- The four laws of layer 3, with what a row's proof hands on. -/
import Derived.Test.YthimoilhggknhaaDoorSixApart
namespace Go.Proofs.YthimoilhggknhaaDoor
open Go.RowKit Err
namespace Six
theorem u8_nat {a : Int} (h : (Lit.int .u8 a).wf = true) : ∃ n : Nat, a = (n : Int) ∧ n < 256 := by
  have h1 : IntKind.u8.min ≤ a ∧ a ≤ IntKind.u8.max := by simpa [Lit.wf] using h
  have h2 : 0 ≤ a ∧ a ≤ 255 := h1
  obtain ⟨n, rfl⟩ := Int.eq_ofNat_of_zero_le h2.1
  exact ⟨n, rfl, by omega⟩
theorem puts_row (a : Int) (w : World) (_h : (Lit.int .i64 a).wf = true) (hg : Handle w) :
    Calls Tryd.prog 3 #[.int .i64 a] w fun e w' => e = .returned (.bool true) ∧ Below w.heap.size w w' := puts_any a w hg
theorem gets_row (a : Int) (w : World) (h : (Lit.int .u8 a).wf = true) (hg : Handle w) :
    Calls Tryd.prog 4 #[.int .u8 a] w fun e w' => e = .returned (.bool true) ∧ Below w.heap.size w w' := by
  obtain ⟨n, rfl, hn⟩ := u8_nat h
  exact gets_any n w hn hg
theorem back_row (a b : Int) (w : World) (h : (Lit.int .u8 a).wf = true) (k : (Lit.int .u8 b).wf = true) (hg : Handle w) :
    Calls Tryd.prog 5 #[.int .u8 a, .int .u8 b] w fun e w' => e = .returned (.bool true) ∧ Below w.heap.size w w' := by
  obtain ⟨n, rfl, hn⟩ := u8_nat h
  obtain ⟨m, rfl, hm⟩ := u8_nat k
  exact back_any n m w hn hm hg
theorem apart_row (a b c : Int) (w : World) (h : (Lit.int .u8 a).wf = true) (k : (Lit.int .u8 b).wf = true) (l : (Lit.int .u8 c).wf = true) (hg : Handle w) :
    Calls Tryd.prog 6 #[.int .u8 a, .int .u8 b, .int .u8 c] w fun e w' => e = .returned (.bool true) ∧ Below w.heap.size w w' := by
  obtain ⟨n, rfl, hn⟩ := u8_nat h
  obtain ⟨m, rfl, hm⟩ := u8_nat k
  obtain ⟨j, rfl, hj⟩ := u8_nat l
  exact apart_any n m j w hn hm hj hg
end Six
end Go.Proofs.YthimoilhggknhaaDoor
