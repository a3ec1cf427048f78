/- What calls on screens answer: a screen; a screen, a number and a place. Where cells lie. -/
import Derived.Test.YtaopkelobglnbaaGreatDoorBunGrd
import Derived.Test.YtaopkelobglnbaaGreatDoorBunBase
namespace Go.Proofs.YtaopkelobglnbaaGreatDoor
open Go.RowKit Sha Six Apd Cut Err Att Grd
set_option linter.unusedVariables false
namespace Scr
theorem results_cell_2 {fn : Func} {p u1 u2 : Tmp} {ty : TypeId} (h : fn.results = #[.cell p ty, .tmp u1, .tmp u2]) (tmps : Array Value) (P : Program) (w : World) (g : Nat) (cs : Array Value)
    (hp : tmps.getD p undef = .pointer (some ⟨g, 0, none⟩)) (hl : (loadVar ty ⟨g, 0, none⟩).run P w = .ok (.agg cs) w) (x1 x2 : Value) (h1 : tmps.getD u1 undef = x1) (h2 : tmps.getD u2 undef = x2) :
    (results fn tmps).run P w = .ok (.tuple #[.agg cs, x1, x2]) w := by
  subst h1 h2
  have hp' : tmps[p]?.getD undef = .pointer (some ⟨g, 0, none⟩) := by simpa using hp
  simp [results, h]
  simp [hp', asAddr, hl]
/-- A screen alone, its cells new memory. -/
def GaveA (w w' : World) (t : S) (e : Ending) : Prop := ∃ va vc, e = .returned (.agg #[.int .i64 t.rows, .int .i64 t.cols, .slice va t.cs.length vc, .int .i64 t.cur, .bool t.lk, .bool t.ins]) ∧ OwnCels w' w.heap.size (.slice va t.cs.length vc) t.cs ∧ Below w.heap.size w w'
/-- A screen, a number, a place (the document's). -/
def ShownE (w w' : World) (t : S) (code wh : Int) (e : Ending) : Prop := ∃ va vc, e = .returned (.tuple #[.agg #[.int .i64 t.rows, .int .i64 t.cols, .slice va t.cs.length vc, .int .i64 t.cur, .bool t.lk, .bool t.ins], .int .i64 code, .int .i64 wh]) ∧ CelsIn w' (.slice va t.cs.length vc) t.cs ∧ Below w.heap.size w w'
/-- Cells stay where another block changes. -/
theorem celsIn_away {w w' : World} {ad : Option Addr} {n c g : Nat} {cs : List C} (h : CelsIn w (.slice ad n c) cs) (hg : w.grownBy w' (some g)) (hne : ∀ x, ad = some x → x.block ≠ g) : CelsIn w' (.slice ad n c) cs := by
  obtain ⟨ad2, cap, hv, hcap, hn, hc⟩ := h
  injection hv with e1 e2 e3
  subst e1
  subst e3
  refine ⟨_, _, by rw [e2], hcap, hn, ?_⟩
  rcases hc with h0 | ⟨b, off, h1, h2⟩
  · exact .inl h0
  · exact .inr ⟨b, off, h1, fun i hi j u hj => hg.cell (a := ⟨b, off + i * 6 + j, none⟩) (h2 i hi j u hj) (by intro e; injection e with e; exact hne _ h1 e)⟩
theorem celsIn_grown {w w' : World} {ad : Option Addr} {n c : Nat} {r : Option Nat} {cs : List C} (h : CelsIn w (.slice ad n c) cs) (hg : w.grownBy w' r) (hne : ∀ x, ad = some x → ∀ g, r = some g → x.block ≠ g) : CelsIn w' (.slice ad n c) cs := by
  cases r with
  | some g => exact celsIn_away h hg fun x hx => hne x hx g rfl
  | none => exact h.below (belowg hg)
/-- Cells of a literal. -/
theorem lit_cels (w : World) (cs : List C) (n : Nat) (hn : n = cs.length) (hl : cs.length < 1000000) : CelsIn (w.alloc (.cells (crow cs).toArray 40)) (.slice (some ⟨w.heap.size, 0, none⟩) n n) cs := by
  subst hn
  refine OwnCels.to (base := w.heap.size) ?_
  have := World.ownsRow_lit (base := w.heap.size) (e := 40) (size := 6) w (crow cs).toArray cs.length (Nat.le_refl _) (by unfold maxLen; omega) (by simp [crow_len])
  unfold OwnCels
  simpa using this
/-- Where the cells of a screen that isn't empty lie. -/
theorem celsIn_lt {w : World} {ad : Option Addr} {k : Nat} {cs : List C} (h : CelsIn w (.slice ad cs.length k) cs) (ha : 0 < cs.length) : ∀ y, ad = some y → y.block < w.heap.size := fun y hy => by
  obtain ⟨f, p, n, q, m, ch, ec⟩ := c_eta (cs.getD 0 noC)
  obtain ⟨b1, o1, e1, g0, _⟩ := h.cells ha ec
  rw [hy] at e1
  injection e1 with e1
  rw [e1]
  exact cell_lt g0
/-- Cells of a screen don't lie in a block that holds a screen's own six values. -/
theorem not_screen {w : World} {ad : Option Addr} {n c b : Nat} {cs : List C} {t : TypeId} {kd : IntKind} {v : Int} {a1 a2 a3 a4 a5 : Value} (h : CelsIn w (.slice ad n c) cs) (h0 : 0 < cs.length) (hb : w.heap[b]? = some (.cells #[.int kd v, a1, a2, a3, a4, a5] t (0, 0))) : ∀ x, ad = some x → x.block ≠ b ∧ x.block < w.heap.size := by
  intro x hx
  obtain ⟨f, p, n', q, m, ch, ec⟩ := c_eta (cs.getD 0 noC)
  obtain ⟨b1, o1, e1, g0, _, _, _, _, g5⟩ := h.cells h0 ec
  rw [hx] at e1
  injection e1 with e1
  subst e1
  refine ⟨fun e => ?_, cell_lt g0⟩
  simp only at e
  subst e
  rw [cell_of_row w b1 (o1 + 0 * 6) _ t (0, 0) hb] at g0
  rw [cell_of_row w b1 (o1 + 0 * 6 + 5) _ t (0, 0) hb] at g5
  rcases Nat.eq_zero_or_pos o1 with h1 | h1
  · subst h1
    simp at g0
  · rw [Array.getElem?_eq_none (by simp; omega)] at g5
    cases g5
end Scr
end Go.Proofs.YtaopkelobglnbaaGreatDoor
