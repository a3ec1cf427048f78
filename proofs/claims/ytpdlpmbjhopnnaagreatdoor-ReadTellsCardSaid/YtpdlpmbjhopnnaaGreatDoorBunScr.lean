/- ScrAt, ScrBox, ScrNew, ScrN in one text (by tools/bundle.py). -/
import Derived.Test.YtpdlpmbjhopnnaaGreatDoorBunGrd
import Derived.Test.YtpdlpmbjhopnnaaGreatDoorBunBase
import Derived.Lib.SliceRun
/- What calls on screens answer: a screen; a screen, a number and a place. Where cells lie. -/
namespace Go.Proofs.YtpdlpmbjhopnnaaGreatDoor
open Go.RowKit Sha Six Apd Cut Err Att Grd
set_option linter.unusedVariables false
namespace Scr
theorem results_cell_2 {fn : Func} {p u1 u2 : Tmp} {ty : TypeId} (h : fn.results = #[.cell p ty, .tmp u1, .tmp u2]) (tmps : Array Value) (P : Program) (w : World) (g : Nat) (cs : Array Value)
    (hp : tmps.getD p undef = .pointer (some ⟨g, 0, none⟩)) (hl : (loadVar ty ⟨g, 0, none⟩).run P w = .ok (.agg cs) w) (x1 x2 : Value) (h1 : tmps.getD u1 undef = x1) (h2 : tmps.getD u2 undef = x2) :
    (results fn tmps).run P w = .ok (.tuple #[.agg cs, x1, x2]) w := by
  subst h1 h2
  have hp' : tmps[p]?.getD undef = .pointer (some ⟨g, 0, none⟩) := by simpa using hp
  simp [results, h]
  simp [hp', asAddr, hl]
/-- A screen alone, its cells new memory. -/
def GaveA (w w' : World) (t : S) (e : Ending) : Prop := ∃ va vc, e = .returned (.agg #[.int .i64 t.rows, .int .i64 t.cols, .slice va t.cs.length vc, .int .i64 t.cur, .bool t.lk, .bool t.ins]) ∧ OwnCels w' w.heap.size (.slice va t.cs.length vc) t.cs ∧ Below w.heap.size w w'
/-- A screen, a number, a place (the document's). -/
def ShownE (w w' : World) (t : S) (code wh : Int) (e : Ending) : Prop := ∃ va vc, e = .returned (.tuple #[.agg #[.int .i64 t.rows, .int .i64 t.cols, .slice va t.cs.length vc, .int .i64 t.cur, .bool t.lk, .bool t.ins], .int .i64 code, .int .i64 wh]) ∧ CelsIn w' (.slice va t.cs.length vc) t.cs ∧ Below w.heap.size w w'
/-- Cells stay where another block changes. -/
theorem celsIn_away {w w' : World} {ad : Option Addr} {n c g : Nat} {cs : List C} (h : CelsIn w (.slice ad n c) cs) (hg : w.grownBy w' (some g)) (hne : ∀ x, ad = some x → x.block ≠ g) : CelsIn w' (.slice ad n c) cs := by
  obtain ⟨ad2, cap, hv, hcap, hn, hc⟩ := h
  injection hv with e1 e2 e3
  subst e1
  subst e3
  refine ⟨_, _, by rw [e2], hcap, hn, ?_⟩
  rcases hc with h0 | ⟨b, off, h1, h2⟩
  · exact .inl h0
  · exact .inr ⟨b, off, h1, fun i hi j u hj => hg.cell (a := ⟨b, off + i * 6 + j, none⟩) (h2 i hi j u hj) (by intro e; injection e with e; exact hne _ h1 e)⟩
theorem celsIn_grown {w w' : World} {ad : Option Addr} {n c : Nat} {r : Option Nat} {cs : List C} (h : CelsIn w (.slice ad n c) cs) (hg : w.grownBy w' r) (hne : ∀ x, ad = some x → ∀ g, r = some g → x.block ≠ g) : CelsIn w' (.slice ad n c) cs := by
  cases r with
  | some g => exact celsIn_away h hg fun x hx => hne x hx g rfl
  | none => exact h.below (belowg hg)
/-- Cells of a literal. -/
theorem lit_cels (w : World) (cs : List C) (n : Nat) (hn : n = cs.length) (hl : cs.length < 1000000) : CelsIn (w.alloc (.cells (crow cs).toArray 64)) (.slice (some ⟨w.heap.size, 0, none⟩) n n) cs := by
  subst hn
  refine OwnCels.to (base := w.heap.size) ?_
  have := World.ownsRow_lit (base := w.heap.size) (e := 64) (size := 6) w (crow cs).toArray cs.length (Nat.le_refl _) (by unfold maxLen; omega) (by simp [crow_len])
  unfold OwnCels
  simpa using this
/-- Where the cells of a screen that isn't empty lie. -/
theorem celsIn_lt {w : World} {ad : Option Addr} {k : Nat} {cs : List C} (h : CelsIn w (.slice ad cs.length k) cs) (ha : 0 < cs.length) : ∀ y, ad = some y → y.block < w.heap.size := fun y hy => by
  obtain ⟨f, p, n, q, m, ch, ec⟩ := c_eta (cs.getD 0 noC)
  obtain ⟨b1, o1, e1, g0, _⟩ := h.cells ha ec
  rw [hy] at e1
  injection e1 with e1
  rw [e1]
  exact cell_lt g0
/-- Cells of a screen don't lie in a block that holds a screen's own six values. -/
theorem not_screen {w : World} {ad : Option Addr} {n c b : Nat} {cs : List C} {t : TypeId} {kd : IntKind} {v : Int} {a1 a2 a3 a4 a5 : Value} (h : CelsIn w (.slice ad n c) cs) (h0 : 0 < cs.length) (hb : w.heap[b]? = some (.cells #[.int kd v, a1, a2, a3, a4, a5] t (0, 0))) : ∀ x, ad = some x → x.block ≠ b ∧ x.block < w.heap.size := by
  intro x hx
  obtain ⟨f, p, n', q, m, ch, ec⟩ := c_eta (cs.getD 0 noC)
  obtain ⟨b1, o1, e1, g0, _, _, _, _, g5⟩ := h.cells h0 ec
  rw [hx] at e1
  injection e1 with e1
  subst e1
  refine ⟨fun e => ?_, cell_lt g0⟩
  simp only at e
  subst e
  rw [cell_of_row w b1 (o1 + 0 * 6) _ t (0, 0) hb] at g0
  rw [cell_of_row w b1 (o1 + 0 * 6 + 5) _ t (0, 0) hb] at g5
  rcases Nat.eq_zero_or_pos o1 with h1 | h1
  · subst h1
    simp at g0
  · rw [Array.getElem?_eq_none (by simp; omega)] at g5
    cases g5
end Scr
end Go.Proofs.YtpdlpmbjhopnnaaGreatDoor
/- A screen in a box of six cells, its cells the call's own: what stores, and calls' answers laid into it, leave of it. -/
namespace Go.Proofs.YtpdlpmbjhopnnaaGreatDoor
open Go.RowKit Sha Six Apd Cut Err Att Grd
set_option linter.unusedVariables false
namespace Scr
/-- A screen's six cells. -/
def six (va : Option Addr) (vc : Nat) (s : S) : Array Value := #[.int .i64 s.rows, .int .i64 s.cols, .slice va s.cs.length vc, .int .i64 s.cur, .bool s.lk, .bool s.ins]
/-- A screen at block X: its cells lie in block g; all of it is newer than w0, and nothing older has changed. -/
structure Box (w0 w : World) (X g vc : Nat) (s : S) : Prop where
  box : w.heap[X]? = some (.cells (six (some ⟨g, 0, none⟩) vc s) 24 (0, 0))
  own : OwnCels w w0.heap.size (.slice (some ⟨g, 0, none⟩) s.cs.length vc) s.cs
  ne : g ≠ X
  le : w0.heap.size ≤ X
  kept : Below w0.heap.size w0 w
theorem Box.ge {w0 w : World} {X g vc : Nat} {s : S} (h : Box w0 w X g vc s) : w0.heap.size ≤ g := own_ge h.own g rfl
theorem Box.lt {w0 w : World} {X g vc : Nat} {s : S} (h : Box w0 w X g vc s) : X < w.heap.size := there_lt h.box
theorem Box.below {w0 w w' : World} {X g vc : Nat} {s : S} (h : Box w0 w X g vc s) (hb : Below w.heap.size w w') : Box w0 w' X g vc s :=
  ⟨blk h.box hb, h.own.below hb, h.ne, h.le, kept_trans h.kept hb⟩
theorem Box.cells {w0 w : World} {X g vc : Nat} {s : S} (h : Box w0 w X g vc s) :
    w.cell? ⟨X, 0, none⟩ = some (.int .i64 s.rows) ∧ w.cell? ⟨X, 1, none⟩ = some (.int .i64 s.cols) ∧ w.cell? ⟨X, 2, none⟩ = some (.slice (some ⟨g, 0, none⟩) s.cs.length vc) ∧ w.cell? ⟨X, 3, none⟩ = some (.int .i64 s.cur) ∧ w.cell? ⟨X, 4, none⟩ = some (.bool s.lk) ∧ w.cell? ⟨X, 5, none⟩ = some (.bool s.ins) := cells6 h.box
theorem Box.free {w0 w : World} {X g vc : Nat} {s : S} (h : Box w0 w X g vc s) : w.frozen? ⟨X, 0, none⟩ = false ∧ w.frozen? ⟨X, 1, none⟩ = false ∧ w.frozen? ⟨X, 2, none⟩ = false ∧ w.frozen? ⟨X, 3, none⟩ = false ∧ w.frozen? ⟨X, 4, none⟩ = false ∧ w.frozen? ⟨X, 5, none⟩ = false := free6 h.box
/-- A store elsewhere: into a block of the call's own that is neither the box nor the cells. -/
theorem Box.other {w0 w w' : World} {X g vc b : Nat} {s : S} (h : Box w0 w X g vc s) (hg : w.grownBy w' (some b)) (h1 : b ≠ X) (h2 : b ≠ g) (h3 : w0.heap.size ≤ b) : Box w0 w' X g vc s :=
  ⟨blk_g h.box hg (by intro e; injection e with e; exact h1 e.symm), h.own.away hg (by intro e; injection e with e; exact h2 e.symm), h.ne, h.le, below_grown h.kept hg h3⟩
/-- The cursor is stored. -/
theorem Box.cur {w0 w : World} {X g vc : Nat} {s : S} (h : Box w0 w X g vc s) (c : Int) : Box w0 (w.setCell ⟨X, 3, none⟩ (.int .i64 c)) X g vc { s with cur := c } := by
  have hg := gsetCell w X 3 (.int .i64 c)
  exact ⟨heap_setCell_same _ X 3 _ _ _ h.box, h.own.away hg (by intro e; injection e with e; exact h.ne e), h.ne, h.le, below_grown h.kept hg h.le⟩
theorem Box.lk {w0 w : World} {X g vc : Nat} {s : S} (h : Box w0 w X g vc s) (b : Bool) : Box w0 (w.setCell ⟨X, 4, none⟩ (.bool b)) X g vc { s with lk := b } := by
  have hg := gsetCell w X 4 (.bool b)
  exact ⟨heap_setCell_same _ X 4 _ _ _ h.box, h.own.away hg (by intro e; injection e with e; exact h.ne e), h.ne, h.le, below_grown h.kept hg h.le⟩
theorem Box.ins {w0 w : World} {X g vc : Nat} {s : S} (h : Box w0 w X g vc s) (b : Bool) : Box w0 (w.setCell ⟨X, 5, none⟩ (.bool b)) X g vc { s with ins := b } := by
  have hg := gsetCell w X 5 (.bool b)
  exact ⟨heap_setCell_same _ X 5 _ _ _ h.box, h.own.away hg (by intro e; injection e with e; exact h.ne e), h.ne, h.le, below_grown h.kept hg h.le⟩
/-- A cell of the screen is stored. -/
theorem Box.set {w0 w : World} {X g vc : Nat} {s : S} (h : Box w0 w X g vc s) {i : Nat} (hi : i < s.cs.length) (o : C) :
    Box w0 ((((((w.setCell ⟨g, i * 6, none⟩ (.bool o.f)).setCell ⟨g, i * 6 + 1, none⟩ (.bool o.p)).setCell ⟨g, i * 6 + 2, none⟩ (.bool o.n)).setCell ⟨g, i * 6 + 3, none⟩ (.int .i64 o.s)).setCell ⟨g, i * 6 + 4, none⟩ (.bool o.m)).setCell ⟨g, i * 6 + 5, none⟩ (.int .u8 (o.c : Int))) X g vc { s with cs := s.cs.set i o } := by
  obtain ⟨h1, h2⟩ := h.own.set hi o
  refine ⟨?_, by simpa using h1, h.ne, h.le, below_grown h.kept h2 h.ge⟩
  have := blk_g h.box h2 (by intro e; injection e with e; exact h.ne e.symm)
  simpa [six] using this
/-- A cell's character, its Modified. -/
theorem Box.setc {w0 w : World} {X g vc : Nat} {s : S} (h : Box w0 w X g vc s) {i : Nat} (hi : i < s.cs.length) (ch : Nat) :
    Box w0 (w.setCell ⟨g, i * 6 + 5, none⟩ (.int .u8 (ch : Int))) X g vc { s with cs := s.cs.set i { s.cs.getD i noC with c := ch } } := by
  obtain ⟨h1, h2⟩ := h.own.setc hi ch
  refine ⟨?_, by simpa using h1, h.ne, h.le, below_grown h.kept h2 h.ge⟩
  have := blk_g h.box h2 (by intro e; injection e with e; exact h.ne e.symm)
  simpa [six] using this
theorem Box.setm {w0 w : World} {X g vc : Nat} {s : S} (h : Box w0 w X g vc s) {i : Nat} (hi : i < s.cs.length) (b : Bool) :
    Box w0 (w.setCell ⟨g, i * 6 + 4, none⟩ (.bool b)) X g vc { s with cs := s.cs.set i { s.cs.getD i noC with m := b } } := by
  obtain ⟨h1, h2⟩ := Grd.setm h.own hi b
  refine ⟨?_, by simpa using h1, h.ne, h.le, below_grown h.kept h2 h.ge⟩
  have := blk_g h.box h2 (by intro e; injection e with e; exact h.ne e.symm)
  simpa [six] using this
/-- Where a cell of the screen lies. -/
theorem Box.spot {w0 w : World} {X g vc : Nat} {s : S} (h : Box w0 w X g vc s) {i : Nat} (hi : i < s.cs.length) {f p m' n' : Bool} {q : Int} {ch : Nat} (ho : s.cs.getD i noC = ⟨f, p, n', q, m', ch⟩) :
    (w.cell? ⟨g, i * 6, none⟩ = some (.bool f) ∧ w.cell? ⟨g, i * 6 + 1, none⟩ = some (.bool p) ∧ w.cell? ⟨g, i * 6 + 2, none⟩ = some (.bool n') ∧ w.cell? ⟨g, i * 6 + 3, none⟩ = some (.int .i64 q) ∧ w.cell? ⟨g, i * 6 + 4, none⟩ = some (.bool m') ∧ w.cell? ⟨g, i * 6 + 5, none⟩ = some (.int .u8 (ch : Int))) ∧
    (w.frozen? ⟨g, i * 6, none⟩ = false ∧ w.frozen? ⟨g, i * 6 + 1, none⟩ = false ∧ w.frozen? ⟨g, i * 6 + 2, none⟩ = false ∧ w.frozen? ⟨g, i * 6 + 3, none⟩ = false ∧ w.frozen? ⟨g, i * 6 + 4, none⟩ = false ∧ w.frozen? ⟨g, i * 6 + 5, none⟩ = false) := by
  obtain ⟨h1, h2⟩ := h.own.spot hi ho
  exact ⟨h1, h2 _, h2 _, h2 _, h2 _, h2 _, h2 _⟩
/-- A screen that a call answered is laid into the box. -/
theorem Box.over {w0 w : World} {X B : Nat} {a0 a1 a2 a3 a4 a5 : Value} {t : S} {va : Option Addr} {vc : Nat} (hx : w.heap[X]? = some (.cells #[a0, a1, a2, a3, a4, a5] 24 (0, 0))) (ho : OwnCels w B (.slice va t.cs.length vc) t.cs) (h0 : 0 < t.cs.length) (hB : X < B) (hle : w0.heap.size ≤ X) (hk : Below w0.heap.size w0 w) :
    ∃ g, va = some ⟨g, 0, none⟩ ∧ B ≤ g ∧ Box w0 ((((((w.setCell ⟨X, 0, none⟩ (.int .i64 t.rows)).setCell ⟨X, 1, none⟩ (.int .i64 t.cols)).setCell ⟨X, 2, none⟩ (.slice va t.cs.length vc)).setCell ⟨X, 3, none⟩ (.int .i64 t.cur)).setCell ⟨X, 4, none⟩ (.bool t.lk)).setCell ⟨X, 5, none⟩ (.bool t.ins)) X g vc t := by
  obtain ⟨g, c, e, hg, _, _⟩ := ho.at h0
  injection e with e1 _ e3
  subst e1
  have SF := over6 w X 24 a0 a1 a2 a3 a4 a5 (.int .i64 t.rows) (.int .i64 t.cols) (.slice (some ⟨g, 0, none⟩) t.cs.length vc) (.int .i64 t.cur) (.bool t.lk) (.bool t.ins) hx
  exact ⟨g, rfl, hg, SF.1, (ho.away SF.2 (by intro e; have h3 : g = X := Option.some.inj e; omega)).mono (by omega), by omega, hle, below_grown hk SF.2 hle⟩
/-- The box's screen is laid into the result's. -/
theorem Box.gave {w0 w : World} {X g vc Z : Nat} {a0 a1 a2 a3 a4 a5 : Value} {t : S} (h : Box w0 w X g vc t) (hz : w.heap[Z]? = some (.cells #[a0, a1, a2, a3, a4, a5] 24 (0, 0))) (hg : Z ≠ g) (hle : w0.heap.size ≤ Z) :
    ((((((w.setCell ⟨Z, 0, none⟩ (.int .i64 t.rows)).setCell ⟨Z, 1, none⟩ (.int .i64 t.cols)).setCell ⟨Z, 2, none⟩ (.slice (some ⟨g, 0, none⟩) t.cs.length vc)).setCell ⟨Z, 3, none⟩ (.int .i64 t.cur)).setCell ⟨Z, 4, none⟩ (.bool t.lk)).setCell ⟨Z, 5, none⟩ (.bool t.ins)).heap[Z]? = some (.cells (six (some ⟨g, 0, none⟩) vc t) 24 (0, 0)) ∧
    OwnCels ((((((w.setCell ⟨Z, 0, none⟩ (.int .i64 t.rows)).setCell ⟨Z, 1, none⟩ (.int .i64 t.cols)).setCell ⟨Z, 2, none⟩ (.slice (some ⟨g, 0, none⟩) t.cs.length vc)).setCell ⟨Z, 3, none⟩ (.int .i64 t.cur)).setCell ⟨Z, 4, none⟩ (.bool t.lk)).setCell ⟨Z, 5, none⟩ (.bool t.ins)) w0.heap.size (.slice (some ⟨g, 0, none⟩) t.cs.length vc) t.cs ∧
    Below w0.heap.size w0 ((((((w.setCell ⟨Z, 0, none⟩ (.int .i64 t.rows)).setCell ⟨Z, 1, none⟩ (.int .i64 t.cols)).setCell ⟨Z, 2, none⟩ (.slice (some ⟨g, 0, none⟩) t.cs.length vc)).setCell ⟨Z, 3, none⟩ (.int .i64 t.cur)).setCell ⟨Z, 4, none⟩ (.bool t.lk)).setCell ⟨Z, 5, none⟩ (.bool t.ins)) := by
  have SF := over6 w Z 24 a0 a1 a2 a3 a4 a5 (.int .i64 t.rows) (.int .i64 t.cols) (.slice (some ⟨g, 0, none⟩) t.cs.length vc) (.int .i64 t.cur) (.bool t.lk) (.bool t.ins) hz
  exact ⟨SF.1, h.own.away SF.2 (by intro e; injection e with e; exact hg e.symm), below_grown h.kept SF.2 hle⟩
/-- A row stored whole, cell by cell. -/
def setL (xs : List Value) (o : Nat) : List Value → List Value
  | [] => xs
  | v :: vs => setL (xs.set o v) (o + 1) vs
theorem own_setCells {base g n c : Nat} {e : TypeId} {size : Nat} : ∀ (vs : List Value) (o : Nat) (w : World) (xs : List Value), w.ownsRow base e size (.slice (some ⟨g, 0, none⟩) n c) n xs → (w.setCells g o vs).ownsRow base e size (.slice (some ⟨g, 0, none⟩) n c) n (setL xs o vs) ∧ w.grownBy (w.setCells g o vs) (some g)
  | [], _, w, _, h => ⟨h, gsetCells g [] 0 w⟩
  | v :: vs, o, w, xs, h => by
    obtain ⟨h1, h2⟩ := World.ownsRow.stored h o v
    obtain ⟨k1, k2⟩ := own_setCells vs (o + 1) _ _ h1
    exact ⟨k1, gtrans h2 k2⟩
theorem setL_all : ∀ (vs xs ys : List Value), ys.length = vs.length → setL (xs ++ ys) xs.length vs = xs ++ vs
  | [], xs, ys, h => by simp at h; simp [setL, h]
  | v :: vs, xs, y :: ys, h => by
    have e : (xs ++ y :: ys).set xs.length v = (xs ++ [v]) ++ ys := by simp
    have := setL_all vs (xs ++ [v]) ys (by simpa using h)
    rw [setL, e]
    simpa using this
/-- All cells of a screen are cleared. -/
theorem run_clear_cels {w : World} {base g c : Nat} {cs : List C} (ty : TypeId) (h : OwnCels w base (.slice (some ⟨g, 0, none⟩) cs.length c) cs) (h0 : 0 < cs.length) :
    (Builtin.clear_ #[22] ty #[.slice (some ⟨g, 0, none⟩) cs.length c]).run Tryz.prog w = .ok (.tuple #[]) (w.setCells g 0 (crow (List.replicate cs.length noC))) ∧
    OwnCels (w.setCells g 0 (crow (List.replicate cs.length noC))) base (.slice (some ⟨g, 0, none⟩) cs.length c) (List.replicate cs.length noC) ∧ w.grownBy (w.setCells g 0 (crow (List.replicate cs.length noC))) (some g) := by
  have hlen : (crow (List.replicate cs.length noC)).length = cs.length * 6 := by rw [crow_len]; simp
  have hlc := crow_len cs
  constructor
  · have hz : (Builtin.zeroCells (Value.cells (.agg #[.bool false, .bool false, .bool false, .int .i64 0, .bool false, .int .u8 0])) cs.length).toList = crow (List.replicate cs.length noC) := by
      rw [← made_cells]
      unfold Builtin.zeroCells madeCells
      rfl
    have hst := run_storeCells_cells (P := Tryz.prog) g 0 (crow (List.replicate cs.length noC)) 0 w (fun j hj => by
        have := World.ownsRow.cellAt h j (by omega)
        simp only [Nat.zero_add, Nat.add_zero] at this ⊢
        rw [this, List.getElem?_eq_getElem (by omega)]; rfl) (fun j hj => World.ownsRow.frozenAt h _) (fun v hv => crow_one _ v hv)
    simp only [Nat.add_zero] at hst
    obtain ⟨m, hm⟩ : ∃ m, cs.length = m + 1 := ⟨cs.length - 1, by omega⟩
    have hu : ∀ w, (underlying 22).run Tryz.prog w = .ok (.slice 64) w := fun w => by kernel_rfl
    have hv : ∀ w, (zeroValue 64).run Tryz.prog w = .ok (.agg #[.bool false, .bool false, .bool false, .int .i64 0, .bool false, .int .u8 0]) w := fun w => by kernel_rfl
    rw [hm] at hst hz ⊢
    simp [Builtin.clear_, hu, hv, hz, hst]
  · obtain ⟨h1, h2⟩ := own_setCells (crow (List.replicate cs.length noC)) 0 w (crow cs) h
    refine ⟨?_, h2⟩
    have e := setL_all (crow (List.replicate cs.length noC)) [] (crow cs) (by omega)
    simp only [List.nil_append, List.length_nil] at e
    rw [e] at h1
    unfold OwnCels
    rw [List.length_replicate]
    exact h1
theorem cells5s {w : World} {B : Nat} {t : TypeId} {a0 a1 a2 a3 a4 : Value} (h : w.heap[B]? = some (.cells #[a0, a1, a2, a3, a4] t (0, 0))) :
    w.cell? ⟨B, 0, none⟩ = some a0 ∧ w.cell? ⟨B, 1, none⟩ = some a1 ∧ w.cell? ⟨B, 2, none⟩ = some a2 ∧ w.cell? ⟨B, 3, none⟩ = some a3 ∧ w.cell? ⟨B, 4, none⟩ = some a4 :=
  ⟨cell_of_row _ _ 0 _ _ _ h, cell_of_row _ _ 1 _ _ _ h, cell_of_row _ _ 2 _ _ _ h, cell_of_row _ _ 3 _ _ _ h, cell_of_row _ _ 4 _ _ _ h⟩
/-- A box of six cells and one of five, as a drawn region holds them. -/
theorem held11 {w1 w' : World} {X Y : Nat} {t u : TypeId} {a0 a1 a2 a3 a4 a5 b0 b1 b2 b3 b4 : Value} (h : w1.heap[X]? = some (.cells #[a0, a1, a2, a3, a4, a5] t (0, 0))) (k : w1.heap[Y]? = some (.cells #[b0, b1, b2, b3, b4] u (0, 0))) (hb : Below w1.heap.size w1 w') :
    Below w1.heap.size w1 w' ∧ w'.cell? ⟨X, 0, none⟩ = some (a0) ∧ w'.cell? ⟨X, 1, none⟩ = some (a1) ∧ w'.cell? ⟨X, 2, none⟩ = some (a2) ∧ w'.cell? ⟨X, 3, none⟩ = some (a3) ∧ w'.cell? ⟨X, 4, none⟩ = some (a4) ∧ w'.cell? ⟨X, 5, none⟩ = some (a5) ∧ w'.cell? ⟨Y, 0, none⟩ = some (b0) ∧ w'.cell? ⟨Y, 1, none⟩ = some (b1) ∧ w'.cell? ⟨Y, 2, none⟩ = some (b2) ∧ w'.cell? ⟨Y, 3, none⟩ = some (b3) ∧ w'.cell? ⟨Y, 4, none⟩ = some (b4) := by
  obtain ⟨h0, h1, h2, h3, h4, h5⟩ := cells6 (blk h hb)
  obtain ⟨k0, k1, k2, k3, k4⟩ := cells5s (blk k hb)
  exact ⟨hb, h0, h1, h2, h3, h4, h5, k0, k1, k2, k3, k4⟩
end Scr
end Go.Proofs.YtpdlpmbjhopnnaaGreatDoor
/- A screen that a call answered, laid into a new box. -/
namespace Go.Proofs.YtpdlpmbjhopnnaaGreatDoor
open Go.RowKit Sha Six Apd Cut Err Att Grd
set_option linter.unusedVariables false
namespace Scr
theorem Box.new {w0 w2 : World} {t : S} {va : Option Addr} {vc B : Nat} (ho : OwnCels w2 B (.slice va t.cs.length vc) t.cs) (h0 : 0 < t.cs.length) (hB : w0.heap.size ≤ B) (hk : Below w0.heap.size w0 w2) :
    ∃ g, va = some ⟨g, 0, none⟩ ∧ B ≤ g ∧ g < w2.heap.size ∧ Box w0 (w2.alloc (.cells #[.int .i64 t.rows, .int .i64 t.cols, .slice va t.cs.length vc, .int .i64 t.cur, .bool t.lk, .bool t.ins] 24)) w2.heap.size g vc t := by
  obtain ⟨g, c, e, hg, hlt, _⟩ := ho.at h0
  injection e with e1 _ e3
  subst e1
  have HA := al_any w2 (.cells #[.int .i64 t.rows, .int .i64 t.cols, .slice (some ⟨g, 0, none⟩) t.cs.length vc, .int .i64 t.cur, .bool t.lk, .bool t.ins] 24)
  exact ⟨g, rfl, hg, hlt, heap_alloc_new _ _, (ho.below HA).mono hB, by omega, hk.size, kept_trans hk HA⟩
end Scr
end Go.Proofs.YtpdlpmbjhopnnaaGreatDoor
/- A call on a screen that answers a screen and an error number alone: the error, the answer, how it is laid. -/
namespace Go.Proofs.YtpdlpmbjhopnnaaGreatDoor
open Go.RowKit Sha Six Apd Cut Err Att Grd
set_option linter.unusedVariables false
namespace Scr
/-- The error of this number (0: nil). -/
def errn (code : Nat) : Value := if code = 0 then .nilIface else .iface 71 (.int .i64 (code : Int))
/-- A screen and an error; where there is none, the cells are new memory. -/
def GaveN (w w' : World) (t : S) (code : Nat) (e : Ending) : Prop := ∃ va vc, e = .returned (.tuple #[.agg #[.int .i64 t.rows, .int .i64 t.cols, .slice va t.cs.length vc, .int .i64 t.cur, .bool t.lk, .bool t.ins], errn code]) ∧ CelsIn w' (.slice va t.cs.length vc) t.cs ∧ (code = 0 → OwnCels w' w.heap.size (.slice va t.cs.length vc) t.cs) ∧ Below w.heap.size w w'
/-- A screen and a number (the document's). -/
def ShownN (w w' : World) (t : S) (code : Nat) (e : Ending) : Prop := ∃ va vc, e = .returned (.tuple #[.agg #[.int .i64 t.rows, .int .i64 t.cols, .slice va t.cs.length vc, .int .i64 t.cur, .bool t.lk, .bool t.ins], .int .i64 (code : Int)]) ∧ CelsIn w' (.slice va t.cs.length vc) t.cs ∧ Below w.heap.size w w'
/-- A screen is laid into the results' cells. -/
theorem lay_N {w w2 : World} {t : S} {va : Option Addr} {vc Z : Nat} (hz : w2.heap[Z]? = some (.cells #[.int .i64 0, .int .i64 0, .slice none 0 0, .int .i64 0, .bool false, .bool false] 24 (0, 0))) (hc : CelsIn w2 (.slice va t.cs.length vc) t.cs) (hk : Below w.heap.size w w2) (hle : w.heap.size ≤ Z) (h0 : 0 < t.cs.length) :
    ((((((w2.setCell ⟨Z, 0, none⟩ (.int .i64 t.rows)).setCell ⟨Z, 1, none⟩ (.int .i64 t.cols)).setCell ⟨Z, 2, none⟩ (.slice va t.cs.length vc)).setCell ⟨Z, 3, none⟩ (.int .i64 t.cur)).setCell ⟨Z, 4, none⟩ (.bool t.lk)).setCell ⟨Z, 5, none⟩ (.bool t.ins)).heap[Z]? = some (.cells (six va vc t) 24 (0, 0)) ∧
    CelsIn ((((((w2.setCell ⟨Z, 0, none⟩ (.int .i64 t.rows)).setCell ⟨Z, 1, none⟩ (.int .i64 t.cols)).setCell ⟨Z, 2, none⟩ (.slice va t.cs.length vc)).setCell ⟨Z, 3, none⟩ (.int .i64 t.cur)).setCell ⟨Z, 4, none⟩ (.bool t.lk)).setCell ⟨Z, 5, none⟩ (.bool t.ins)) (.slice va t.cs.length vc) t.cs ∧
    Below w.heap.size w ((((((w2.setCell ⟨Z, 0, none⟩ (.int .i64 t.rows)).setCell ⟨Z, 1, none⟩ (.int .i64 t.cols)).setCell ⟨Z, 2, none⟩ (.slice va t.cs.length vc)).setCell ⟨Z, 3, none⟩ (.int .i64 t.cur)).setCell ⟨Z, 4, none⟩ (.bool t.lk)).setCell ⟨Z, 5, none⟩ (.bool t.ins)) := by
  have SF := over6 w2 Z 24 _ _ _ _ _ _ (.int .i64 t.rows) (.int .i64 t.cols) (.slice va t.cs.length vc) (.int .i64 t.cur) (.bool t.lk) (.bool t.ins) hz
  refine ⟨SF.1, celsIn_away hc SF.2 fun x hx => (not_screen hc h0 hz x hx).1, below_grown hk SF.2 hle⟩
end Scr
end Go.Proofs.YtpdlpmbjhopnnaaGreatDoor
