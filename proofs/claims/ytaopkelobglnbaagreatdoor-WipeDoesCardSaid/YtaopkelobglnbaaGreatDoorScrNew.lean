/- A screen that a call answered, laid into a new box. -/
import Derived.Test.YtaopkelobglnbaaGreatDoorScrBox
namespace Go.Proofs.YtaopkelobglnbaaGreatDoor
open Go.RowKit Sha Six Apd Cut Err Att Grd
set_option linter.unusedVariables false
namespace Scr
theorem Box.new {w0 w2 : World} {t : S} {va : Option Addr} {vc B : Nat} (ho : OwnCels w2 B (.slice va t.cs.length vc) t.cs) (h0 : 0 < t.cs.length) (hB : w0.heap.size ≤ B) (hk : Below w0.heap.size w0 w2) :
    ∃ g, va = some ⟨g, 0, none⟩ ∧ B ≤ g ∧ g < w2.heap.size ∧ Box w0 (w2.alloc (.cells #[.int .i64 t.rows, .int .i64 t.cols, .slice va t.cs.length vc, .int .i64 t.cur, .bool t.lk, .bool t.ins] 24)) w2.heap.size g vc t := by
  obtain ⟨g, c, e, hg, hlt, _⟩ := ho.at h0
  injection e with e1 _ e3
  subst e1
  have HA := al_any w2 (.cells #[.int .i64 t.rows, .int .i64 t.cols, .slice (some ⟨g, 0, none⟩) t.cs.length vc, .int .i64 t.cur, .bool t.lk, .bool t.ins] 24)
  exact ⟨g, rfl, hg, hlt, heap_alloc_new _ _, (ho.below HA).mono hB, by omega, hk.size, kept_trans hk HA⟩
end Scr
end Go.Proofs.YtaopkelobglnbaaGreatDoor
