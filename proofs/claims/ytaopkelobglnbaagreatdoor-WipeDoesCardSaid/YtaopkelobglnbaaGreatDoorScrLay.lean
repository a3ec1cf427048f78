/- A screen and an error (or a number), laid into the results' cells. -/
import Derived.Test.YtaopkelobglnbaaGreatDoorScrGave
import Derived.Test.YtaopkelobglnbaaGreatDoorScrBox
namespace Go.Proofs.YtaopkelobglnbaaGreatDoor
open Go.RowKit Sha Six Apd Cut Err Att Grd
set_option linter.unusedVariables false
namespace Scr
/-- A screen and an error are laid into the results' cells. -/
theorem lay_E {w w2 : World} {t : S} {va : Option Addr} {vc Z : Nat} {ev : Value} {code wh : Int} (hz : w2.heap[Z]? = some (.cells #[.int .i64 0, .int .i64 0, .slice none 0 0, .int .i64 0, .bool false, .bool false] 24 (0, 0))) (hc : CelsIn w2 (.slice va t.cs.length vc) t.cs) (ht : Err.Told w2 ev code wh) (hk : Below w.heap.size w w2) (hle : w.heap.size ≤ Z) (h0 : 0 < t.cs.length) :
    ((((((w2.setCell ⟨Z, 0, none⟩ (.int .i64 t.rows)).setCell ⟨Z, 1, none⟩ (.int .i64 t.cols)).setCell ⟨Z, 2, none⟩ (.slice va t.cs.length vc)).setCell ⟨Z, 3, none⟩ (.int .i64 t.cur)).setCell ⟨Z, 4, none⟩ (.bool t.lk)).setCell ⟨Z, 5, none⟩ (.bool t.ins)).heap[Z]? = some (.cells (six va vc t) 24 (0, 0)) ∧
    CelsIn ((((((w2.setCell ⟨Z, 0, none⟩ (.int .i64 t.rows)).setCell ⟨Z, 1, none⟩ (.int .i64 t.cols)).setCell ⟨Z, 2, none⟩ (.slice va t.cs.length vc)).setCell ⟨Z, 3, none⟩ (.int .i64 t.cur)).setCell ⟨Z, 4, none⟩ (.bool t.lk)).setCell ⟨Z, 5, none⟩ (.bool t.ins)) (.slice va t.cs.length vc) t.cs ∧
    Err.Told ((((((w2.setCell ⟨Z, 0, none⟩ (.int .i64 t.rows)).setCell ⟨Z, 1, none⟩ (.int .i64 t.cols)).setCell ⟨Z, 2, none⟩ (.slice va t.cs.length vc)).setCell ⟨Z, 3, none⟩ (.int .i64 t.cur)).setCell ⟨Z, 4, none⟩ (.bool t.lk)).setCell ⟨Z, 5, none⟩ (.bool t.ins)) ev code wh ∧
    Below w.heap.size w ((((((w2.setCell ⟨Z, 0, none⟩ (.int .i64 t.rows)).setCell ⟨Z, 1, none⟩ (.int .i64 t.cols)).setCell ⟨Z, 2, none⟩ (.slice va t.cs.length vc)).setCell ⟨Z, 3, none⟩ (.int .i64 t.cur)).setCell ⟨Z, 4, none⟩ (.bool t.lk)).setCell ⟨Z, 5, none⟩ (.bool t.ins)) := by
  have SF := over6 w2 Z 24 _ _ _ _ _ _ (.int .i64 t.rows) (.int .i64 t.cols) (.slice va t.cs.length vc) (.int .i64 t.cur) (.bool t.lk) (.bool t.ins) hz
  refine ⟨SF.1, celsIn_away hc SF.2 fun x hx => (not_screen hc h0 hz x hx).1, told_other ht SF.2 fun t x h => ?_, below_grown hk SF.2 hle⟩
  rw [(cells6 hz).2.1] at h
  injection h with h
  cases h
end Scr
end Go.Proofs.YtaopkelobglnbaaGreatDoor
