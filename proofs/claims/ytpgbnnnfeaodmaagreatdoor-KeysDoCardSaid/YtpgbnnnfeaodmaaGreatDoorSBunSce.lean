/- ScrGave, ScrLay in one text (by tools/bundle.py). -/
import Derived.Test.YtpgbnnnfeaodmaaGreatDoorSBunScr
import Derived.Test.YtpgbnnnfeaodmaaGreatDoorSBunErr
/- What calls on screens answer: a screen and an error of a number and a place. -/
namespace Go.Proofs.YtpgbnnnfeaodmaaGreatDoor
open Go.RowKit Sha Six Apd Cut Err Att Grd
set_option linter.unusedVariables false
namespace Scr
def GaveE (w w' : World) (t : S) (code wh : Int) (e : Ending) : Prop := ∃ va vc ev, e = .returned (.tuple #[.agg #[.int .i64 t.rows, .int .i64 t.cols, .slice va t.cs.length vc, .int .i64 t.cur, .bool t.lk, .bool t.ins], ev]) ∧ CelsIn w' (.slice va t.cs.length vc) t.cs ∧ Err.Told w' ev code wh ∧ (code = 0 → ev = .nilIface ∧ OwnCels w' w.heap.size (.slice va t.cs.length vc) t.cs) ∧ Below w.heap.size w w'
theorem told_iface {w : World} {ev : Value} {code wh : Int} (h : Err.Told w ev code wh) (h0 : code ≠ 0) : ∃ t v, ev = .iface t v := by
  rcases h with ⟨_, h1, _⟩ | ⟨rfl, _⟩ | ⟨_, _, rfl, _⟩
  · exact absurd h1 h0
  · exact ⟨_, _, rfl⟩
  · exact ⟨_, _, rfl⟩
theorem chain_iface {w : World} {k : Int} {d : Nat} {v : Value} (h : Err.Chain w k d v) : ∃ t x, v = .iface t x := by
  rcases h.form with ⟨_, rfl⟩ | ⟨b, rfl⟩
  · exact ⟨_, _, rfl⟩
  · exact ⟨_, _, rfl⟩
theorem chain_other {w w' : World} {k : Int} {B : Nat} (hg : w.grownBy w' (some B)) (hB : ∀ t x, w.cell? ⟨B, 1, none⟩ ≠ some (.iface t x)) : ∀ {d : Nat} {v : Value}, Err.Chain w k d v → Err.Chain w' k d v
  | 0, _, h => h
  | _ + 1, _, ⟨b, n, u, h1, h2, h3, h4⟩ => by
    have hb : b ≠ B := by
      rintro rfl
      obtain ⟨t, x, rfl⟩ := (chain_iface h4)
      exact hB _ _ h3
    exact ⟨b, n, u, h1, hg.cell h2 (by simpa using hb), hg.cell h3 (by simpa using hb), chain_other hg hB h4⟩
theorem told_other {w w' : World} {ev : Value} {c n : Int} {B : Nat} (h : Err.Told w ev c n) (hg : w.grownBy w' (some B)) (hB : ∀ t x, w.cell? ⟨B, 1, none⟩ ≠ some (.iface t x)) : Err.Told w' ev c n := by
  rcases h with h | h | ⟨d, b, rfl, h2, h3⟩
  · exact .inl h
  · exact .inr (.inl h)
  · have hb : b ≠ B := by
      rintro rfl
      obtain ⟨b', n', u, h4, h5, h6, h7⟩ := h3
      injection h4 with _ h4
      injection h4 with h4
      injection h4 with h4
      injection h4 with h4
      subst h4
      obtain ⟨t, x, rfl⟩ := (chain_iface h7)
      exact hB _ _ h6
    exact .inr (.inr ⟨d, b, rfl, hg.cell h2 (by simpa using hb), chain_other hg hB h3⟩)
end Scr
end Go.Proofs.YtpgbnnnfeaodmaaGreatDoor
/- A screen and an error (or a number), laid into the results' cells. -/
namespace Go.Proofs.YtpgbnnnfeaodmaaGreatDoor
open Go.RowKit Sha Six Apd Cut Err Att Grd
set_option linter.unusedVariables false
namespace Scr
theorem lay_E {w w2 : World} {t : S} {va : Option Addr} {vc Z : Nat} {ev : Value} {code wh : Int} (hz : w2.heap[Z]? = some (.cells #[.int .i64 0, .int .i64 0, .slice none 0 0, .int .i64 0, .bool false, .bool false] 24 (0, 0))) (hc : CelsIn w2 (.slice va t.cs.length vc) t.cs) (ht : Err.Told w2 ev code wh) (hk : Below w.heap.size w w2) (hle : w.heap.size ≤ Z) (h0 : 0 < t.cs.length) :
    ((((((w2.setCell ⟨Z, 0, none⟩ (.int .i64 t.rows)).setCell ⟨Z, 1, none⟩ (.int .i64 t.cols)).setCell ⟨Z, 2, none⟩ (.slice va t.cs.length vc)).setCell ⟨Z, 3, none⟩ (.int .i64 t.cur)).setCell ⟨Z, 4, none⟩ (.bool t.lk)).setCell ⟨Z, 5, none⟩ (.bool t.ins)).heap[Z]? = some (.cells (six va vc t) 24 (0, 0)) ∧
    CelsIn ((((((w2.setCell ⟨Z, 0, none⟩ (.int .i64 t.rows)).setCell ⟨Z, 1, none⟩ (.int .i64 t.cols)).setCell ⟨Z, 2, none⟩ (.slice va t.cs.length vc)).setCell ⟨Z, 3, none⟩ (.int .i64 t.cur)).setCell ⟨Z, 4, none⟩ (.bool t.lk)).setCell ⟨Z, 5, none⟩ (.bool t.ins)) (.slice va t.cs.length vc) t.cs ∧
    Err.Told ((((((w2.setCell ⟨Z, 0, none⟩ (.int .i64 t.rows)).setCell ⟨Z, 1, none⟩ (.int .i64 t.cols)).setCell ⟨Z, 2, none⟩ (.slice va t.cs.length vc)).setCell ⟨Z, 3, none⟩ (.int .i64 t.cur)).setCell ⟨Z, 4, none⟩ (.bool t.lk)).setCell ⟨Z, 5, none⟩ (.bool t.ins)) ev code wh ∧
    Below w.heap.size w ((((((w2.setCell ⟨Z, 0, none⟩ (.int .i64 t.rows)).setCell ⟨Z, 1, none⟩ (.int .i64 t.cols)).setCell ⟨Z, 2, none⟩ (.slice va t.cs.length vc)).setCell ⟨Z, 3, none⟩ (.int .i64 t.cur)).setCell ⟨Z, 4, none⟩ (.bool t.lk)).setCell ⟨Z, 5, none⟩ (.bool t.ins)) := by
  have SF := over6 w2 Z 24 _ _ _ _ _ _ (.int .i64 t.rows) (.int .i64 t.cols) (.slice va t.cs.length vc) (.int .i64 t.cur) (.bool t.lk) (.bool t.ins) hz
  refine ⟨SF.1, celsIn_away hc SF.2 fun x hx => (not_screen hc h0 hz x hx).1, told_other ht SF.2 fun t x h => ?_, below_grown hk SF.2 hle⟩
  rw [(cells6 hz).2.1] at h
  injection h with h
  cases h
end Scr
end Go.Proofs.YtpgbnnnfeaodmaaGreatDoor
