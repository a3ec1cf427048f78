/- The three laws of layer 5 that ask for no error's number, with what a row's proof hands on. -/
import Derived.Test.YteckncagccfioaaAttrBack
import Derived.Test.YteckncagccfioaaAttrOrders
import Derived.Test.YteckncagccfioaaAttrSix
namespace Go.Proofs.Yteckncagccfioaa
open Go.RowKit Six Err
namespace Att
theorem u8_nat {a : Int} (h : (Lit.int .u8 a).wf = true) : ∃ n : Nat, a = (n : Int) ∧ n < 256 := by
  have h1 : IntKind.u8.min ≤ a ∧ a ≤ IntKind.u8.max := by simpa [Lit.wf] using h
  have h2 : 0 ≤ a ∧ a ≤ 255 := h1
  obtain ⟨n, rfl⟩ := Int.eq_ofNat_of_zero_le h2.1
  exact ⟨n, rfl, by omega⟩
theorem back_row (p n : Bool) (s : Int) (m a u r : Bool) (c : Int) (w : World) (_h : (Lit.int .i64 s).wf = true) (h : (Lit.int .u8 c).wf = true) :
    Calls Try.prog 3 #[.agg #[.bool p, .bool n, .int .i64 s, .bool m], .agg #[.bool a, .bool u, .bool r], .int .u8 c] w fun e w' => e = .returned (.bool true) ∧ Below w.heap.size w w' := by
  obtain ⟨k, rfl, hk⟩ := u8_nat h
  exact back_any p n s m a u r k w hk
theorem orders_row (a : Int) (w : World) (h : (Lit.int .u8 a).wf = true) :
    Calls Try.prog 4 #[.int .u8 a] w fun e w' => e = .returned (.bool true) ∧ Below w.heap.size w w' := by
  obtain ⟨k, rfl, hk⟩ := u8_nat h
  exact orders_any k w hk
theorem six_row (p n : Bool) (s : Int) (m : Bool) (w : World) (_h : (Lit.int .i64 s).wf = true) :
    Calls Try.prog 5 #[.agg #[.bool p, .bool n, .int .i64 s, .bool m]] w fun e w' => e = .returned (.bool true) ∧ Below w.heap.size w w' := six_any p n s m w
end Att
end Go.Proofs.Yteckncagccfioaa
