/- A cursor, and what it met, behind stores into a block of the call's own. -/
import Derived.Test.YtllpmgddcpgegaaDoorBytCur
import Derived.Test.YtllpmgddcpgegaaDoorBlk
namespace Go.Proofs.YtllpmgddcpgegaaDoor
open Go.RowKit Sha Cut Err
namespace Err
theorem Chain.iface {w : World} {k : Int} {d : Nat} {v : Value} (h : Chain w k d v) : ∃ t x, v = .iface t x := by
  rcases h.form with ⟨_, rfl⟩ | ⟨b, rfl⟩
  · exact ⟨_, _, rfl⟩
  · exact ⟨_, _, rfl⟩
theorem Chain.other {w w' : World} {k : Int} {B : Nat} (hg : w.grownBy w' (some B)) (hB : ∀ t x, w.cell? ⟨B, 1, none⟩ ≠ some (.iface t x)) : ∀ {d : Nat} {v : Value}, Chain w k d v → Chain w' k d v
  | 0, _, h => h
  | _ + 1, _, ⟨b, n, u, h1, h2, h3, h4⟩ => by
    have hb : b ≠ B := by
      rintro rfl
      obtain ⟨t, x, rfl⟩ := h4.iface
      exact hB _ _ h3
    exact ⟨b, n, u, h1, hg.cell h2 (by simpa using hb), hg.cell h3 (by simpa using hb), Chain.other hg hB h4⟩
theorem Told.other {w w' : World} {ev : Value} {c n : Int} {B : Nat} (h : Told w ev c n) (hg : w.grownBy w' (some B)) (hB : ∀ t x, w.cell? ⟨B, 1, none⟩ ≠ some (.iface t x)) : Told w' ev c n := by
  rcases h with h | h | ⟨d, b, rfl, h2, h3⟩
  · exact .inl h
  · exact .inr (.inl h)
  · have hb : b ≠ B := by
      rintro rfl
      obtain ⟨b', n', u, h4, h5, h6, h7⟩ := h3
      injection h4 with _ h4
      injection h4 with h4
      injection h4 with h4
      injection h4 with h4
      subst h4
      obtain ⟨t, x, rfl⟩ := h7.iface
      exact hB _ _ h6
    exact .inr (.inr ⟨d, b, rfl, hg.cell h2 (by simpa using hb), Chain.other hg hB h3⟩)
end Err
namespace Byt
theorem Met.other {w w' : World} {ev : Value} {c : Int} {n B : Nat} (h : Met w ev c n) (hg : w.grownBy w' (some B)) (hB : ∀ t x, w.cell? ⟨B, 1, none⟩ ≠ some (.iface t x)) : Met w' ev c n := by
  obtain ⟨b, h1, h2⟩ := h
  exact ⟨b, h1, h2.other hg hB⟩
/-- Four cells of a block of the call's own, stored one behind the other. -/
theorem set4g {w a : World} {B : Nat} {r : Option Nat} {t : TypeId} {a0 a1 a2 a3 : Value} (u0 u1 u2 u3 : Value) (h : a.heap[B]? = some (.cells #[a0, a1, a2, a3] t (0, 0))) (hg : w.grownBy a r) (hB : w.heap.size ≤ B) :
    ((((a.setCell ⟨B, 0, none⟩ u0).setCell ⟨B, 1, none⟩ u1).setCell ⟨B, 2, none⟩ u2).setCell ⟨B, 3, none⟩ u3).heap[B]? = some (.cells #[u0, u1, u2, u3] t (0, 0)) ∧
    a.grownBy ((((a.setCell ⟨B, 0, none⟩ u0).setCell ⟨B, 1, none⟩ u1).setCell ⟨B, 2, none⟩ u2).setCell ⟨B, 3, none⟩ u3) (some B) ∧
    w.grownBy ((((a.setCell ⟨B, 0, none⟩ u0).setCell ⟨B, 1, none⟩ u1).setCell ⟨B, 2, none⟩ u2).setCell ⟨B, 3, none⟩ u3) r := by
  have h := heap_setCell_same _ B 0 _ t u0 h
  have h := heap_setCell_same _ B 1 _ t u1 h
  have h := heap_setCell_same _ B 2 _ t u2 h
  have h := heap_setCell_same _ B 3 _ t u3 h
  have hs : a.grownBy ((((a.setCell ⟨B, 0, none⟩ u0).setCell ⟨B, 1, none⟩ u1).setCell ⟨B, 2, none⟩ u2).setCell ⟨B, 3, none⟩ u3) (some B) :=
    gtrans (gsetCell _ _ _ _) (gtrans (gsetCell _ _ _ _) (gtrans (gsetCell _ _ _ _) (gsetCell _ _ _ _)))
  exact ⟨h, hs, gnew hg hs hB⟩
end Byt
end Go.Proofs.YtllpmgddcpgegaaDoor
