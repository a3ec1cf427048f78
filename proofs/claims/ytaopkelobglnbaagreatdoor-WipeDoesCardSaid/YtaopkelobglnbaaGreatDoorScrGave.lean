/- What calls on screens answer: a screen and an error of a number and a place. -/
import Derived.Test.YtaopkelobglnbaaGreatDoorScrAt
import Derived.Test.YtaopkelobglnbaaGreatDoorBunErr
namespace Go.Proofs.YtaopkelobglnbaaGreatDoor
open Go.RowKit Sha Six Apd Cut Err Att Grd
set_option linter.unusedVariables false
namespace Scr
/-- A screen and an error of this number and place; where there is none it is nil, and the cells are new memory. -/
def GaveE (w w' : World) (t : S) (code wh : Int) (e : Ending) : Prop := ∃ va vc ev, e = .returned (.tuple #[.agg #[.int .i64 t.rows, .int .i64 t.cols, .slice va t.cs.length vc, .int .i64 t.cur, .bool t.lk, .bool t.ins], ev]) ∧ CelsIn w' (.slice va t.cs.length vc) t.cs ∧ Err.Told w' ev code wh ∧ (code = 0 → ev = .nilIface ∧ OwnCels w' w.heap.size (.slice va t.cs.length vc) t.cs) ∧ Below w.heap.size w w'
theorem told_iface {w : World} {ev : Value} {code wh : Int} (h : Err.Told w ev code wh) (h0 : code ≠ 0) : ∃ t v, ev = .iface t v := by
  rcases h with ⟨_, h1, _⟩ | ⟨rfl, _⟩ | ⟨_, _, rfl, _⟩
  · exact absurd h1 h0
  · exact ⟨_, _, rfl⟩
  · exact ⟨_, _, rfl⟩
/-- An error stays where a block changes that holds no Spot. -/
theorem chain_iface {w : World} {k : Int} {d : Nat} {v : Value} (h : Err.Chain w k d v) : ∃ t x, v = .iface t x := by
  rcases h.form with ⟨_, rfl⟩ | ⟨b, rfl⟩
  · exact ⟨_, _, rfl⟩
  · exact ⟨_, _, rfl⟩
theorem chain_other {w w' : World} {k : Int} {B : Nat} (hg : w.grownBy w' (some B)) (hB : ∀ t x, w.cell? ⟨B, 1, none⟩ ≠ some (.iface t x)) : ∀ {d : Nat} {v : Value}, Err.Chain w k d v → Err.Chain w' k d v
  | 0, _, h => h
  | _ + 1, _, ⟨b, n, u, h1, h2, h3, h4⟩ => by
    have hb : b ≠ B := by
      rintro rfl
      obtain ⟨t, x, rfl⟩ := (chain_iface h4)
      exact hB _ _ h3
    exact ⟨b, n, u, h1, hg.cell h2 (by simpa using hb), hg.cell h3 (by simpa using hb), chain_other hg hB h4⟩
theorem told_other {w w' : World} {ev : Value} {c n : Int} {B : Nat} (h : Err.Told w ev c n) (hg : w.grownBy w' (some B)) (hB : ∀ t x, w.cell? ⟨B, 1, none⟩ ≠ some (.iface t x)) : Err.Told w' ev c n := by
  rcases h with h | h | ⟨d, b, rfl, h2, h3⟩
  · exact .inl h
  · exact .inr (.inl h)
  · have hb : b ≠ B := by
      rintro rfl
      obtain ⟨b', n', u, h4, h5, h6, h7⟩ := h3
      injection h4 with _ h4
      injection h4 with h4
      injection h4 with h4
      injection h4 with h4
      subst h4
      obtain ⟨t, x, rfl⟩ := (chain_iface h7)
      exact hB _ _ h6
    exact .inr (.inr ⟨d, b, rfl, hg.cell h2 (by simpa using hb), chain_other hg hB h3⟩)
end Scr
end Go.Proofs.YtaopkelobglnbaaGreatDoor
