/- An argument that is an api.Key: its two cells. -/
import Derived.Test.YtpgbnnnfeaodmaaGreatDoorProg
import Derived.WalkKit
import Derived.ProofKit
import Derived.OpenShut
import Derived.Lib.SmallJoins
namespace Go.Proofs.YtpgbnnnfeaodmaaGreatDoor
open Go.ChangeShapes Go.WideShapes Go.RowKit Go.Joins
namespace Opn
theorem cells_key : Tryz.prog.cellsOf 26 = 2 := by kernel_rfl
section
variable {H : Type} {enc : TypeId × Value → H} {W : World} {base b0 : Nat} {spare : Nat → Bool} {held : Bool} {r : Reach} {v : Value} {d : DataW H} {p : List MemPlace}
set_option maxRecDepth 100000 in
theorem open_key (hv : Value.okWide Tryz.prog W r b0 26 v) (h : DataW.Trod enc Tryz.prog W base spare held 26 v d p) :
    ∃ (kind c : Int), v = .agg #[.int .i64 kind, .int .u8 c] ∧ (Lit.int .i64 kind).wf = true ∧ (Lit.int .u8 c).wf = true := by
  obtain ⟨c0, c1, y0, y1, k, rfl, _, _, h0, h1⟩ := open_agg2 Tryz.underlying26 (by kernel_rfl) cells_key hv h
  obtain ⟨a0, e0, _, w0⟩ := DataW.trod_int Tryz.underlying3 h0
  obtain ⟨a1, e1, _, w1⟩ := DataW.trod_int Tryz.underlying5 h1
  simp at e0 e1
  subst e0 e1
  exact ⟨a0, a1, rfl, w0, w1⟩
end
end Opn
end Go.Proofs.YtpgbnnnfeaodmaaGreatDoor
