/- Rows of fields of the call's own: at another base; a submission laid over its box. -/
import Derived.Test.YtpdlpmbjhopnnaaDoorRedOwn
import Derived.Test.YtpdlpmbjhopnnaaDoorInpOwn
namespace Go.Proofs.YtpdlpmbjhopnnaaDoor
open Go.RowKit Sha Six Apd Cut
set_option linter.unusedVariables false
namespace Red
/-- A row of three cells laid over a box. -/
theorem over3 (a : World) (B : Nat) (t : TypeId) (a0 a1 a2 u0 u1 u2 : Value) (h : a.heap[B]? = some (.cells #[a0, a1, a2] t (0, 0))) :
    (((a.setCell ⟨B, 0, none⟩ u0).setCell ⟨B, 1, none⟩ u1).setCell ⟨B, 2, none⟩ u2).heap[B]? = some (.cells #[u0, u1, u2] t (0, 0)) ∧
    a.grownBy (((a.setCell ⟨B, 0, none⟩ u0).setCell ⟨B, 1, none⟩ u1).setCell ⟨B, 2, none⟩ u2) (some B) := by
  have h := heap_setCell_same _ B 0 _ t u0 h
  have h := heap_setCell_same _ B 1 _ t u1 h
  have h := heap_setCell_same _ B 2 _ t u2 h
  exact ⟨h, gtrans (gsetCell _ _ _ _) (gtrans (gsetCell _ _ _ _) (gsetCell _ _ _ _))⟩
theorem cellsP {w : World} {B : Nat} {t : TypeId} {a0 a1 : Value} (h : w.heap[B]? = some (.cells #[a0, a1] t (0, 0))) : w.cell? ⟨B, 0, none⟩ = some a0 ∧ w.cell? ⟨B, 1, none⟩ = some a1 := ⟨cell_of_row w B 0 _ _ (0, 0) h, cell_of_row w B 1 _ _ (0, 0) h⟩
theorem flds_mono {w : World} {b base : Nat} {v : Value} {os : List Inp.F} (h : Inp.OwnFlds w base v os) (hb : b ≤ base) : Inp.OwnFlds w b v os := by
  obtain ⟨us, h1, h0, h2⟩ := h
  refine ⟨us, own_mono h1 hb, h0, fun i hi => ?_⟩
  obtain ⟨ta, tn, tc, k1, k2⟩ := h2 i hi
  exact ⟨ta, tn, tc, k1, own_mono k2 hb⟩
theorem flds_ge {w : World} {base n c : Nat} {ad : Option Addr} {os : List Inp.F} (h : Inp.OwnFlds w base (.slice ad n c) os) : ∀ g, (Value.slice ad n c).ownBlock = some g → base ≤ g := by
  obtain ⟨us, h1, _⟩ := h
  exact own_ge h1
/-- What Modified answers. -/
def GaveI (w w' : World) (i : Inp.I) (e : Ending) : Prop := ∃ va vc, e = .returned (.agg #[.int .u8 (i.aid : Int), .int .i64 i.cur, .slice va i.fs.length vc]) ∧ Inp.OwnFlds w' w.heap.size (.slice va i.fs.length vc) i.fs ∧ Below w.heap.size w w'
end Red
end Go.Proofs.YtpdlpmbjhopnnaaDoor
