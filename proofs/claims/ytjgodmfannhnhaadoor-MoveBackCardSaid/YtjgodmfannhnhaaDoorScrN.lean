/- A call on a screen that answers a screen and an error number alone: the error, the answer, how it is laid. -/
import Derived.Test.YtjgodmfannhnhaaDoorScrAt
import Derived.Test.YtjgodmfannhnhaaDoorScrBox
namespace Go.Proofs.YtjgodmfannhnhaaDoor
open Go.RowKit Sha Six Apd Cut Err Att Grd
set_option linter.unusedVariables false
namespace Scr
/-- The error of this number (0: nil). -/
def errn (code : Nat) : Value := if code = 0 then .nilIface else .iface 47 (.int .i64 (code : Int))
/-- A screen and an error; where there is none, the cells are new memory. -/
def GaveN (w w' : World) (t : S) (code : Nat) (e : Ending) : Prop := ∃ va vc, e = .returned (.tuple #[.agg #[.int .i64 t.rows, .int .i64 t.cols, .slice va t.cs.length vc, .int .i64 t.cur, .bool t.lk, .bool t.ins], errn code]) ∧ CelsIn w' (.slice va t.cs.length vc) t.cs ∧ (code = 0 → OwnCels w' w.heap.size (.slice va t.cs.length vc) t.cs) ∧ Below w.heap.size w w'
/-- A screen and a number (the document's). -/
def ShownN (w w' : World) (t : S) (code : Nat) (e : Ending) : Prop := ∃ va vc, e = .returned (.tuple #[.agg #[.int .i64 t.rows, .int .i64 t.cols, .slice va t.cs.length vc, .int .i64 t.cur, .bool t.lk, .bool t.ins], .int .i64 (code : Int)]) ∧ CelsIn w' (.slice va t.cs.length vc) t.cs ∧ Below w.heap.size w w'
/-- A screen is laid into the results' cells. -/
theorem lay_N {w w2 : World} {t : S} {va : Option Addr} {vc Z : Nat} (hz : w2.heap[Z]? = some (.cells #[.int .i64 0, .int .i64 0, .slice none 0 0, .int .i64 0, .bool false, .bool false] 24 (0, 0))) (hc : CelsIn w2 (.slice va t.cs.length vc) t.cs) (hk : Below w.heap.size w w2) (hle : w.heap.size ≤ Z) (h0 : 0 < t.cs.length) :
    ((((((w2.setCell ⟨Z, 0, none⟩ (.int .i64 t.rows)).setCell ⟨Z, 1, none⟩ (.int .i64 t.cols)).setCell ⟨Z, 2, none⟩ (.slice va t.cs.length vc)).setCell ⟨Z, 3, none⟩ (.int .i64 t.cur)).setCell ⟨Z, 4, none⟩ (.bool t.lk)).setCell ⟨Z, 5, none⟩ (.bool t.ins)).heap[Z]? = some (.cells (six va vc t) 24 (0, 0)) ∧
    CelsIn ((((((w2.setCell ⟨Z, 0, none⟩ (.int .i64 t.rows)).setCell ⟨Z, 1, none⟩ (.int .i64 t.cols)).setCell ⟨Z, 2, none⟩ (.slice va t.cs.length vc)).setCell ⟨Z, 3, none⟩ (.int .i64 t.cur)).setCell ⟨Z, 4, none⟩ (.bool t.lk)).setCell ⟨Z, 5, none⟩ (.bool t.ins)) (.slice va t.cs.length vc) t.cs ∧
    Below w.heap.size w ((((((w2.setCell ⟨Z, 0, none⟩ (.int .i64 t.rows)).setCell ⟨Z, 1, none⟩ (.int .i64 t.cols)).setCell ⟨Z, 2, none⟩ (.slice va t.cs.length vc)).setCell ⟨Z, 3, none⟩ (.int .i64 t.cur)).setCell ⟨Z, 4, none⟩ (.bool t.lk)).setCell ⟨Z, 5, none⟩ (.bool t.ins)) := by
  have SF := over6 w2 Z 24 _ _ _ _ _ _ (.int .i64 t.rows) (.int .i64 t.cols) (.slice va t.cs.length vc) (.int .i64 t.cur) (.bool t.lk) (.bool t.ins) hz
  refine ⟨SF.1, celsIn_away hc SF.2 fun x hx => (not_screen hc h0 hz x hx).1, below_grown hk SF.2 hle⟩
end Scr
end Go.Proofs.YtjgodmfannhnhaaDoor
