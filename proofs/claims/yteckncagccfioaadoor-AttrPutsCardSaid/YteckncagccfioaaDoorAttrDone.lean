/- The two laws of layer 5 that ask for an error's number, with what a row's proof hands on. -/
import Derived.Test.YteckncagccfioaaDoorAttrGets
import Derived.Test.YteckncagccfioaaDoorAttrPuts
namespace Go.Proofs.YteckncagccfioaaDoor
open Go.RowKit Six Err
namespace Att
theorem u8_nat {a : Int} (h : (Lit.int .u8 a).wf = true) : ∃ n : Nat, a = (n : Int) ∧ n < 256 := by
  have h1 : IntKind.u8.min ≤ a ∧ a ≤ IntKind.u8.max := by simpa [Lit.wf] using h
  have h2 : 0 ≤ a ∧ a ≤ 255 := h1
  obtain ⟨n, rfl⟩ := Int.eq_ofNat_of_zero_le h2.1
  exact ⟨n, rfl, by omega⟩
theorem gets_row (a : Int) (w : World) (h : (Lit.int .u8 a).wf = true) (hg : Handle w) :
    Calls Tryd.prog 4 #[.int .u8 a] w fun e w' => e = .returned (.bool true) ∧ Below w.heap.size w w' := by
  obtain ⟨n, rfl, hn⟩ := u8_nat h
  exact gets_any n w hn hg
theorem puts_row (p n : Bool) (s : Int) (m a u r : Bool) (w : World) (_h : (Lit.int .i64 s).wf = true) (hg : Handle w) :
    Calls Tryd.prog 3 #[.agg #[.bool p, .bool n, .int .i64 s, .bool m], .agg #[.bool a, .bool u, .bool r]] w fun e w' => e = .returned (.bool true) ∧ Below w.heap.size w w' := puts_any p n s m a u r w hg
end Att
end Go.Proofs.YteckncagccfioaaDoor
