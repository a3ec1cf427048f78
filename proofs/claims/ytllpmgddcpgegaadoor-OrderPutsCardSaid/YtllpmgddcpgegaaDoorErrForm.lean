/- How errors lie in memory: a number, a Spot that wraps one, however many Spots. (No errors.As is needed.) -/
import Derived.Test.YtllpmgddcpgegaaDoorProg
import Derived.WalkKit
import Derived.Below
import Derived.Lib.Hide
namespace Go.Proofs.YtllpmgddcpgegaaDoor
open Go.RowKit
namespace Err
/-- In block b lies a Spot at the place n, that wraps the number k. -/
structure SpotAt (w : World) (b : Nat) (n k : Int) : Prop where
  at0 : w.cell? ⟨b, 0, none⟩ = some (.int .i64 n)
  at1 : w.cell? ⟨b, 1, none⟩ = some (.iface 57 (.int .i64 k))
theorem SpotAt.pos {w : World} {b : Nat} {n k : Int} (h : SpotAt w b n k) : b < w.heap.size := by
  rcases Nat.lt_or_ge b w.heap.size with h0 | h0
  · exact h0
  · have := h.at0; simp [World.cell?, Array.getElem?_eq_none h0] at this
theorem SpotAt.below {w w' : World} {b B : Nat} {n k : Int} (h : SpotAt w b n k) (hB : b < B) (hb : Below B w w') : SpotAt w' b n k :=
  ⟨(hb.cell (p := ⟨b, 0, none⟩) hB).trans h.at0, (hb.cell (p := ⟨b, 1, none⟩) hB).trans h.at1⟩
/-- v is the number k, inside d Spots. -/
def Chain (w : World) (k : Int) : Nat → Value → Prop
  | 0, v => v = .iface 57 (.int .i64 k)
  | d + 1, v => ∃ (b : Nat) (n : Int) (u : Value), v = .iface 78 (.pointer (some ⟨b, 0, none⟩)) ∧ w.cell? ⟨b, 0, none⟩ = some (.int .i64 n) ∧ w.cell? ⟨b, 1, none⟩ = some u ∧ Chain w k d u
theorem block_lt {w : World} {b o : Nat} {v : Value} (h : w.cell? ⟨b, o, none⟩ = some v) : b < w.heap.size := by
  rcases Nat.lt_or_ge b w.heap.size with h0 | h0
  · exact h0
  · simp [World.cell?, Array.getElem?_eq_none h0] at h
theorem Chain.keep {w w' : World} {k : Int} (hk : ∀ b o v, w.cell? ⟨b, o, none⟩ = some v → w'.cell? ⟨b, o, none⟩ = some v) : ∀ {d : Nat} {v : Value}, Chain w k d v → Chain w' k d v
  | 0, _, h => h
  | _ + 1, _, ⟨b, n, u, h1, h2, h3, h4⟩ => ⟨b, n, u, h1, hk _ _ _ h2, hk _ _ _ h3, Chain.keep hk h4⟩
theorem Chain.below {w w' : World} {k : Int} {d : Nat} {v : Value} (h : Chain w k d v) (hb : Below w.heap.size w w') : Chain w' k d v :=
  h.keep fun b o _ hu => (hb.cell (p := ⟨b, o, none⟩) (block_lt hu)).trans hu
theorem Chain.form {w : World} {k : Int} : ∀ {d : Nat} {v : Value}, Chain w k d v → (d = 0 ∧ v = .iface 57 (.int .i64 k)) ∨ ∃ b, v = .iface 78 (.pointer (some ⟨b, 0, none⟩))
  | 0, _, h => .inl ⟨rfl, h⟩
  | _ + 1, _, ⟨b, _, _, h1, _⟩ => .inr ⟨b, h1⟩
/-- What an error tells: its number (0: it is nil), its place (-1: it has none). -/
def Told (w : World) (ev : Value) (code wh : Int) : Prop :=
  (ev = .nilIface ∧ code = 0 ∧ wh = -1) ∨ (ev = .iface 57 (.int .i64 code) ∧ wh = -1) ∨
  ∃ (d b : Nat), ev = .iface 78 (.pointer (some ⟨b, 0, none⟩)) ∧ w.cell? ⟨b, 0, none⟩ = some (.int .i64 wh) ∧ Chain w code (d + 1) ev
theorem Told.below {w w' : World} {ev : Value} {c n : Int} (h : Told w ev c n) (hb : Below w.heap.size w w') : Told w' ev c n := by
  rcases h with h | h | ⟨d, b, h1, h2, h3⟩
  · exact .inl h
  · exact .inr (.inl h)
  · exact .inr (.inr ⟨d, b, h1, (hb.cell (p := ⟨b, 0, none⟩) (block_lt h2)).trans h2, h3.below hb⟩)
theorem Told.keep {w w' : World} {ev : Value} {c n : Int} (h : Told w ev c n) (hk : ∀ b o v, w.cell? ⟨b, o, none⟩ = some v → w'.cell? ⟨b, o, none⟩ = some v) : Told w' ev c n := by
  rcases h with h | h | ⟨d, b, h1, h2, h3⟩
  · exact .inl h
  · exact .inr (.inl h)
  · exact .inr (.inr ⟨d, b, h1, hk _ _ _ h2, h3.keep hk⟩)
end Err
end Go.Proofs.YtllpmgddcpgegaaDoor
