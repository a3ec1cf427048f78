/- A move on a screen that isn't locked, in the form of the laws' walks. -/
import Derived.Test.YtjgodmfannhnhaaDoorMovCode
import Derived.Test.YtjgodmfannhnhaaDoorMovMore
namespace Go.Proofs.YtjgodmfannhnhaaDoor
open Go.RowKit Sha Six Apd Cut Err Att Grd Fld Scr
set_option linter.unusedVariables false
namespace Mov
theorem do_ok (r c : Int) (cs : List C) (ins : Bool) (p : Nat) (kind : Int) (ad : Option Addr) (k : Nat) (w : World) (h : CelsIn w (.slice ad cs.length k) cs) (hr : sright ⟨r, c, cs, (p : Int), false, ins⟩ = true) (h8 : Sound cs) (hl : cs.length < 10000) (hm : isMove kind = true) :
    Calls Tryd.prog 10 #[.agg #[.int .i64 r, .int .i64 c, .slice ad cs.length k, .int .i64 (p : Int), .bool false, .bool ins], .int .i64 kind] w fun e w' => ∃ va vc, e = .returned (.tuple #[.agg #[.int .i64 r, .int .i64 c, .slice va cs.length vc, .int .i64 ((gto ⟨r, c, cs, (p : Int), false, ins⟩ kind : Nat) : Int), .bool false, .bool ins], .nilIface]) ∧ OwnCels w' w.heap.size (.slice va cs.length vc) cs ∧ Below w.heap.size w w' := by
  have := do_any ⟨r, c, cs, (p : Int), false, ins⟩ ad k kind w h hr h8 hl
  rw [mdo_0 hm rfl] at this
  exact this.mono fun e w' ⟨va, vc, h1, _, h3, h4⟩ => ⟨va, vc, h1, h3 rfl, h4⟩
theorem right_p {s : S} (h : sright s = true) (b : Bool) {p : Nat} (hp : p < s.cs.length) : sright ⟨s.rows, s.cols, s.cs, (p : Int), b, s.ins⟩ = true := right_lk h (by omega) (by omega)
end Mov
end Go.Proofs.YtjgodmfannhnhaaDoor
