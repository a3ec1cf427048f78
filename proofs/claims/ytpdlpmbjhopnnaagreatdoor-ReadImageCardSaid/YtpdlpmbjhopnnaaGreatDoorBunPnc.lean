/- PntBr, PntPut, PntFil, PntDo, PntOneA, PntCode in one text (by tools/bundle.py). -/
import Derived.Test.YtpdlpmbjhopnnaaGreatDoorBunPnt
import Derived.Test.YtpdlpmbjhopnnaaGreatDoorBunFld
import Derived.Test.YtpdlpmbjhopnnaaGreatDoorBunGrd
import Derived.Test.YtpdlpmbjhopnnaaGreatDoorBunFlc
import Derived.Deep.Cut
import Derived.Deep.RegionHeld3
import Derived.Test.YtpdlpmbjhopnnaaGreatDoorBunOrd
/- Package paint's brush: seven cells (a screen, a place) and the screen's cells, all the call's own. What a tab and an erase are, as the code goes about them. -/
namespace Go.Proofs.YtpdlpmbjhopnnaaGreatDoor
open Go.RowKit Sha Six Apd Cut Err Att Grd Fld
set_option linter.unusedVariables false
namespace Pnt
theorem cells7 {w : World} {B : Nat} {t : TypeId} {a0 a1 a2 a3 a4 a5 a6 : Value} (h : w.heap[B]? = some (.cells #[a0, a1, a2, a3, a4, a5, a6] t (0, 0))) :
    w.cell? ⟨B, 0, none⟩ = some a0 ∧ w.cell? ⟨B, 1, none⟩ = some a1 ∧ w.cell? ⟨B, 2, none⟩ = some a2 ∧ w.cell? ⟨B, 3, none⟩ = some a3 ∧ w.cell? ⟨B, 4, none⟩ = some a4 ∧ w.cell? ⟨B, 5, none⟩ = some a5 ∧ w.cell? ⟨B, 6, none⟩ = some a6 :=
  ⟨cell_of_row _ _ 0 _ _ _ h, cell_of_row _ _ 1 _ _ _ h, cell_of_row _ _ 2 _ _ _ h, cell_of_row _ _ 3 _ _ _ h, cell_of_row _ _ 4 _ _ _ h, cell_of_row _ _ 5 _ _ _ h, cell_of_row _ _ 6 _ _ _ h⟩
/-- What the brush holds. -/
def bcells (g vc : Nat) (s : S) (a : Nat) : Array Value := #[.int .i64 s.rows, .int .i64 s.cols, .slice (some ⟨g, 0, none⟩) s.cs.length vc, .int .i64 s.cur, .bool s.lk, .bool s.ins, .int .i64 (a : Int)]
/-- A brush at block B: its screen's cells lie in block g; all of it is newer than w0, and nothing older has changed. -/
structure Brush (w0 w : World) (B g vc : Nat) (s : S) (a : Nat) : Prop where
  box : w.heap[B]? = some (.cells (bcells g vc s a) 97 (0, 0))
  own : OwnCels w w0.heap.size (.slice (some ⟨g, 0, none⟩) s.cs.length vc) s.cs
  ne : g ≠ B
  le : w0.heap.size ≤ B
  kept : Below w0.heap.size w0 w
theorem Brush.ge {w0 w : World} {B g vc a : Nat} {s : S} (h : Brush w0 w B g vc s a) : w0.heap.size ≤ g := own_ge h.own g rfl
theorem Brush.lt {w0 w : World} {B g vc a : Nat} {s : S} (h : Brush w0 w B g vc s a) : B < w.heap.size := there_lt h.box
theorem Brush.below {w0 w w' : World} {B g vc a : Nat} {s : S} (h : Brush w0 w B g vc s a) (hb : Below w.heap.size w w') : Brush w0 w' B g vc s a :=
  ⟨blk h.box hb, h.own.below hb, h.ne, h.le, kept_trans h.kept hb⟩
theorem Brush.cells {w0 w : World} {B g vc a : Nat} {s : S} (h : Brush w0 w B g vc s a) :
    w.cell? ⟨B, 0, none⟩ = some (.int .i64 s.rows) ∧ w.cell? ⟨B, 1, none⟩ = some (.int .i64 s.cols) ∧ w.cell? ⟨B, 2, none⟩ = some (.slice (some ⟨g, 0, none⟩) s.cs.length vc) ∧ w.cell? ⟨B, 3, none⟩ = some (.int .i64 s.cur) ∧ w.cell? ⟨B, 4, none⟩ = some (.bool s.lk) ∧ w.cell? ⟨B, 5, none⟩ = some (.bool s.ins) ∧ w.cell? ⟨B, 6, none⟩ = some (.int .i64 (a : Int)) := cells7 h.box
theorem Brush.free {w0 w : World} {B g vc a : Nat} {s : S} (h : Brush w0 w B g vc s a) (j : Nat) : w.frozen? ⟨B, j, none⟩ = false := frozen_of_row _ _ j _ _ h.box
/-- The place is stored. -/
theorem Brush.at {w0 w : World} {B g vc a : Nat} {s : S} (h : Brush w0 w B g vc s a) (a' : Nat) : Brush w0 (w.setCell ⟨B, 6, none⟩ (.int .i64 (a' : Int))) B g vc s a' := by
  have hg := gsetCell w B 6 (.int .i64 (a' : Int))
  refine ⟨heap_setCell_same _ B 6 _ _ _ h.box, h.own.away hg (by intro e; injection e with e; exact h.ne e), h.ne, h.le, below_grown h.kept hg h.le⟩
/-- The cursor is stored. -/
theorem Brush.cur {w0 w : World} {B g vc a : Nat} {s : S} (h : Brush w0 w B g vc s a) (c : Int) : Brush w0 (w.setCell ⟨B, 3, none⟩ (.int .i64 c)) B g vc { s with cur := c } a := by
  have hg := gsetCell w B 3 (.int .i64 c)
  refine ⟨heap_setCell_same _ B 3 _ _ _ h.box, h.own.away hg (by intro e; injection e with e; exact h.ne e), h.ne, h.le, below_grown h.kept hg h.le⟩
/-- A cell of the screen is stored. -/
theorem Brush.set {w0 w : World} {B g vc a : Nat} {s : S} (h : Brush w0 w B g vc s a) {i : Nat} (hi : i < s.cs.length) (o : C) :
    Brush w0 ((((((w.setCell ⟨g, i * 6, none⟩ (.bool o.f)).setCell ⟨g, i * 6 + 1, none⟩ (.bool o.p)).setCell ⟨g, i * 6 + 2, none⟩ (.bool o.n)).setCell ⟨g, i * 6 + 3, none⟩ (.int .i64 o.s)).setCell ⟨g, i * 6 + 4, none⟩ (.bool o.m)).setCell ⟨g, i * 6 + 5, none⟩ (.int .u8 (o.c : Int))) B g vc { s with cs := s.cs.set i o } a := by
  obtain ⟨h1, h2⟩ := h.own.set hi o
  refine ⟨?_, by simpa using h1, h.ne, h.le, below_grown h.kept h2 h.ge⟩
  have := blk_g h.box h2 (by intro e; injection e with e; exact h.ne e.symm)
  simpa [bcells] using this
/-- Where a cell of the screen lies. -/
theorem Brush.spot {w0 w : World} {B g vc a : Nat} {s : S} (h : Brush w0 w B g vc s a) {i : Nat} (hi : i < s.cs.length) {f p m' n' : Bool} {q : Int} {ch : Nat} (ho : s.cs.getD i noC = ⟨f, p, n', q, m', ch⟩) :
    (w.cell? ⟨g, i * 6, none⟩ = some (.bool f) ∧ w.cell? ⟨g, i * 6 + 1, none⟩ = some (.bool p) ∧ w.cell? ⟨g, i * 6 + 2, none⟩ = some (.bool n') ∧ w.cell? ⟨g, i * 6 + 3, none⟩ = some (.int .i64 q) ∧ w.cell? ⟨g, i * 6 + 4, none⟩ = some (.bool m') ∧ w.cell? ⟨g, i * 6 + 5, none⟩ = some (.int .u8 (ch : Int))) ∧
    (w.frozen? ⟨g, i * 6, none⟩ = false ∧ w.frozen? ⟨g, i * 6 + 1, none⟩ = false ∧ w.frozen? ⟨g, i * 6 + 2, none⟩ = false ∧ w.frozen? ⟨g, i * 6 + 3, none⟩ = false ∧ w.frozen? ⟨g, i * 6 + 4, none⟩ = false ∧ w.frozen? ⟨g, i * 6 + 5, none⟩ = false) := by
  obtain ⟨h1, h2⟩ := h.own.spot hi ho
  exact ⟨h1, h2 _, h2 _, h2 _, h2 _, h2 _, h2 _⟩
/-- A tab, by Next of the cell ahead. -/
theorem tab_next {cs : List C} {a : Nat} (ha : a < cs.length) : (next cs (on cs.length (a : Int) (-1)) ≤ (a : Int) → tabTo cs a = 0) ∧ (¬ next cs (on cs.length (a : Int) (-1)) ≤ (a : Int) → ((tabTo cs a : Nat) : Int) = next cs (on cs.length (a : Int) (-1))) := by
  have e0 : ∀ k : Int, on cs.length ((on cs.length (a : Int) (-1) : Nat) : Int) k = on cs.length (a : Int) (k - 1) := fun k => by
    rw [on_on (by omega)]; congr 1; omega
  have e1 : ∀ x, a ≤ x → x < cs.length → on cs.length (a : Int) ((x : Int) - a) = x := fun x h1 h2 => by
    rw [show (x : Int) - a = ((x - a : Nat) : Int) by omega, on_nat, show a + (x - a) = x by omega, Nat.mod_eq_of_lt h2]
  unfold next
  cases hk : firstK (fun k => opener cs (on cs.length ((on cs.length (a : Int) (-1) : Nat) : Int) (k : Int))) 1 cs.length with
  | none =>
    simp only
    refine ⟨fun _ => tabTo_no fun i h1 h2 => ?_, fun h => absurd (show (-1 : Int) ≤ (a : Int) by omega) h⟩
    have := firstK_none hk (i - a + 1) (by omega) (by omega)
    try simp only at this
    rw [e0, show (((i - a + 1 : Nat) : Int) - 1) = (i : Int) - a by omega, e1 i h1 h2] at this
    exact this
  | some k =>
    obtain ⟨h1, h2, h3, h4⟩ := firstK_some hk
    simp only at h3 h4 ⊢
    have hpast : ∀ i, a ≤ i → i + 1 < a + k → i < cs.length → opener cs i = false := fun i k1 k2 k3 => by
      have := h4 (i - a + 1) (by omega) (by omega)
      try simp only at this
      rw [e0, show (((i - a + 1 : Nat) : Int) - 1) = (i : Int) - a by omega, e1 i k1 k3] at this
      exact this
    rw [e0, show ((k : Int) + 1 - 1) = (k : Int) by omega, on_nat]
    by_cases hin : a + k - 1 < cs.length
    · have hop : opener cs (a + k - 1) = true := by
        rw [e0, show ((k : Int) - 1) = (((a + k - 1 : Nat) : Int) - a) by omega, e1 _ (by omega) hin] at h3
        exact h3
      have ht := tabTo_at (cs := cs) (a := a) (x := a + k - 1) (by omega) hin hop fun i k1 k2 => hpast i k1 (by omega) (by omega)
      have h5 : on cs.length ((a + k - 1 : Nat) : Int) 1 = (a + k) % cs.length := by
        rw [show (1 : Int) = ((1 : Nat) : Int) from rfl, on_nat]; congr 1; omega
      rw [ht, h5]
      by_cases hend : a + k = cs.length
      · rw [hend, Nat.mod_self]; exact ⟨fun _ => rfl, fun h => absurd (show ((0 : Nat) : Int) ≤ (a : Int) by omega) h⟩
      · rw [Nat.mod_eq_of_lt (by omega)]
        exact ⟨fun h => by omega, fun _ => rfl⟩
    · have ht : tabTo cs a = 0 := tabTo_no fun i k1 k2 => hpast i k1 (by omega) k2
      refine ⟨fun _ => ht, fun h => absurd ?_ h⟩
      have : (a + k) % cs.length = a + k - cs.length := by
        rw [Nat.mod_eq_sub_mod (by omega), Nat.mod_eq_of_lt (by omega)]
      rw [this]; omega
/-- A cell that begins no field has the attribute of the cell ahead. -/
theorem attr_next {cs : List C} {c : Nat} (hc : c < cs.length) (h : fat cs (on cs.length (c : Int) 1) = false) : attrOf cs (on cs.length (c : Int) 1) = attrOf cs c := by
  have hb : begin_ cs (on cs.length (c : Int) 1) = begin_ cs c := by
    have hl := on_lt (z := cs.length) (by omega) (c : Int) 1
    cases hf : fmt cs with
    | false => rw [begin_none hl hf, begin_none hc hf]
    | true =>
      obtain ⟨b, i, e1, e2, e3, e4, e5⟩ := cell_of_begin hl hf h
      have ec : on cs.length (b : Int) (i : Int) = c := by
        have := congrArg (fun x : Nat => on cs.length (x : Int) (-1)) e5
        try simp only at this
        rw [on_on (by omega), on_on (by omega), show (i : Int) + 1 + -1 = (i : Int) by omega, show (1 : Int) + -1 = 0 by omega, on_zero hc] at this
        exact this
      rw [e1]
      cases i with
      | zero =>
        rw [show ((0 : Nat) : Int) = 0 from rfl, on_zero e2] at ec
        rw [← ec, begin_self e2 e3]
      | succ i =>
        rw [← ec, show ((i + 1 : Nat) : Int) = (i : Int) + 1 by omega, begin_of_cell e2 e3 (by omega)]
  unfold attrOf
  rw [hb]
theorem attr_self {cs : List C} {c : Nat} (hc : c < cs.length) (h : fat cs c = true) : attrOf cs c = cs.getD c noC := by
  unfold attrOf
  rw [begin_self hc h, if_neg (by omega)]; rfl
/-- Of the first q cells of a span those that are open. -/
def opens (cs : List C) (a b : Nat) (q : Nat) : List Nat := ((span cs.length (a : Int) (b : Int)).take q).filter (open_ cs)
theorem opens_step {cs : List C} {a b q : Nat} (hq : q < spanLen cs.length (a : Int) (b : Int)) : opens cs a b (q + 1) = if open_ cs (on cs.length (a : Int) (q : Int)) then opens cs a b q ++ [on cs.length (a : Int) (q : Int)] else opens cs a b q := by
  have hl : q < (span cs.length (a : Int) (b : Int)).length := by rw [span_length]; exact hq
  unfold opens
  rw [List.take_add_one, List.getElem?_eq_getElem hl]
  have e : (span cs.length (a : Int) (b : Int))[q] = on cs.length (a : Int) (q : Int) := by
    have := span_getD hq
    rw [List.getD_eq_getElem?_getD, List.getElem?_eq_getElem hl] at this
    exact this
  rw [e, Option.toList_some, List.filter_append]
  cases ho : open_ cs (on cs.length (a : Int) (q : Int)) <;> simp [ho]
/-- Whether the field is protected, behind q cells. -/
def protAt (cs : List C) (a q : Nat) : Bool := (attrOf cs (on cs.length (a : Int) ((q - 1 : Nat) : Int))).p
theorem prot_zero {cs : List C} {a : Nat} (ha : a < cs.length) : protAt cs a 0 = (attrOf cs a).p := by
  unfold protAt
  rw [show ((0 - 1 : Nat) : Int) = 0 from rfl, on_zero ha]
theorem prot_field {cs : List C} {a q : Nat} (ha : a < cs.length) (h : fat cs (on cs.length (a : Int) (q : Int)) = true) : protAt cs a (q + 1) = (cs.getD (on cs.length (a : Int) (q : Int)) noC).p ∧ open_ cs (on cs.length (a : Int) (q : Int)) = false := by
  refine ⟨?_, by unfold open_; rw [h]; rfl⟩
  unfold protAt
  rw [show q + 1 - 1 = q by omega, attr_self (on_lt (by omega) _ _) h]
theorem prot_cell {cs : List C} {a q : Nat} (ha : a < cs.length) (h : fat cs (on cs.length (a : Int) (q : Int)) = false) : protAt cs a (q + 1) = protAt cs a q ∧ open_ cs (on cs.length (a : Int) (q : Int)) = !protAt cs a q := by
  have e : attrOf cs (on cs.length (a : Int) (q : Int)) = attrOf cs (on cs.length (a : Int) ((q - 1 : Nat) : Int)) := by
    cases q with
    | zero => rfl
    | succ q =>
      have e1 : on cs.length (a : Int) ((q + 1 : Nat) : Int) = on cs.length ((on cs.length (a : Int) (q : Int) : Nat) : Int) 1 := by
        rw [on_on (by omega)]; rfl
      rw [e1] at h ⊢
      exact attr_next (on_lt (by omega) _ _) h
  unfold protAt
  rw [show q + 1 - 1 = q by omega]
  refine ⟨by rw [e], ?_⟩
  unfold open_
  rw [h, e]; simp
/-- On a right screen an erase is zeros put at the open cells. -/
theorem wipes_reps {cs0 : List C} : ∀ (l : List Nat) (cs : List C), (∀ i, open_ cs0 i = true → { cs.getD i noC with c := 0 } = chr 0) → wipes cs0 cs l = reps cs 0 (l.filter (open_ cs0))
  | [], cs, _ => rfl
  | i :: l, cs, h => by
    show wipes cs0 (wipe1 cs0 cs i) l = _
    unfold wipe1
    cases ho : open_ cs0 i with
    | false =>
      rw [if_neg (by decide), List.filter_cons_of_neg (by rw [ho]; decide)]
      exact wipes_reps l cs h
    | true =>
      rw [if_pos rfl, List.filter_cons_of_pos ho, h i ho]
      show _ = reps (cs.set i (chr 0)) 0 _
      refine wipes_reps l _ fun j hj => ?_
      rw [getD_set]
      split
      · rfl
      · exact h j hj
theorem wipes_right {cs : List C} (h : AllR cs) (l : List Nat) : wipes cs cs l = reps cs 0 (l.filter (open_ cs)) := by
  refine wipes_reps l cs fun i hi => ?_
  have hf := open_fat hi
  rcases Nat.lt_or_ge i cs.length with hl | hl
  · have h1 := h _ (getD_mem hl)
    generalize cs.getD i noC = c at *
    obtain ⟨f, p, n, s, m, x⟩ := c
    simp only at hf
    subst hf
    simp only [cright, Bool.false_eq_true, if_false, Bool.and_eq_true, beq_iff_eq] at h1
    obtain ⟨⟨h1, h2, h3, h4⟩, _⟩ := h1
    subst h1 h2 h3 h4
    rfl
  · rw [List.getD_eq_getElem?_getD, List.getElem?_eq_none hl]; rfl
end Pnt
end Go.Proofs.YtpdlpmbjhopnnaaGreatDoor
/- Package paint: put, tab, take of a brush. -/
namespace Go.Proofs.YtpdlpmbjhopnnaaGreatDoor
open Go.RowKit Sha Six Apd Cut Err Att Grd Fld
set_option linter.unusedVariables false
namespace Pnt
set_option maxRecDepth 100000 in
set_option maxHeartbeats 8000000 in
theorem put_any (w0 : World) (B g vc : Nat) (s : S) (a : Nat) (o : C) (w : World) (h : Brush w0 w B g vc s a) (ha : a < s.cs.length) (hl : s.cs.length < 10000) :
    Calls Tryz.prog 90 #[.pointer (some ⟨B, 0, none⟩), .agg #[.bool o.f, .bool o.p, .bool o.n, .int .i64 o.s, .bool o.m, .int .u8 (o.c : Int)]] w fun e w' => e = .returned (.tuple #[]) ∧ Brush w0 w' B g vc { s with cs := s.cs.set a o } (on s.cs.length (a : Int) 1) := by
  obtain ⟨f, p, n, q, m, ch⟩ := o
  have HX := Lib.hid (heap_alloc_new w (.cells #[.bool f, .bool p, .bool n, .int .i64 q, .bool m, .int .u8 (ch : Int)] 64))
  have H1 := Lib.hid (h.below (al_any w (.cells #[.bool f, .bool p, .bool n, .int .i64 q, .bool m, .int .u8 (ch : Int)] 64)))
  have HS := Lib.hid fun W => size_any s.rows s.cols (some ⟨g, 0, none⟩) s.cs.length vc s.cur s.lk s.ins W
  have HN := Lib.hid fun W => on_any s.rows s.cols (some ⟨g, 0, none⟩) s.cs.length vc s.cur s.lk s.ins (a : Int) 1 W (by omega) (by omega) (IntWalk.i64_in _ (by omega)) (IntWalk.i64_in _ (by omega))
  have HA := Lib.hid ha
  have HL := Lib.hid hl
  have hz : ((s.cs.length : Int) == 0) = false := by simp; intro e; rw [e] at ha; simp at ha
  have hi0 : (0 : Int) ≤ (a : Int) := by omega
  have hi1 : (a : Int) < (s.cs.length : Int) := by omega
  have hw := h.lt
  clear h ha hl
  go_enter Tryz.func90, Tryz.ntmps90
  go_upto_region 1 with (fail)
  have hX := there_lt HX.out
  generalize w.heap.size = X at *
  generalize w.alloc _ = w1 at *
  obtain ⟨c0, c1, c2, c3, c4, c5, c6⟩ := H1.out.cells
  go_wp2_with fail
  with_reducible refine (HS.out _).mono ?_
  rintro e w2 ⟨rfl, hb⟩
  clear c0 c1 c2 c3 c4 c5 c6
  have H2 := Lib.hid (H1.out.below hb)
  have X2 := Lib.hid (blk HX.out hb)
  clear hb H1 HX HS
  obtain ⟨c0, c1, c2, c3, c4, c5, c6⟩ := H2.out.cells
  obtain ⟨x0, x1, x2, x3, x4, x5⟩ := cells6 X2.out
  obtain ⟨yf, yp, yn, ys, ym, yc, ey⟩ := c_eta (s.cs.getD a noC)
  obtain ⟨⟨p0, p1, p2, p3, p4, p5⟩, q0, q1, q2, q3, q4, q5⟩ := H2.out.spot HA.out ey
  have H3 := Lib.hid (H2.out.set HA.out ⟨f, p, n, q, m, ch⟩)
  have HNE := Lib.hid H2.out.ne
  have HLE := Lib.hid (show (s.cs.set a ⟨f, p, n, q, m, ch⟩).length = s.cs.length by simp)
  go_upto_region 2 with (fail)
  go_region
  clear ey c0 c1 c2 c3 c4 c5 c6 x0 x1 x2 x3 x4 x5 p0 p1 p2 p3 p4 p5 q0 q1 q2 q3 q4 q5 X2 H2
  generalize (((((w2.setCell _ _).setCell _ _).setCell _ _).setCell _ _).setCell _ _).setCell _ _ = w3 at *
  have H4 := Lib.hid (H3.out.below ((Below.refl w3.heap.size w3).drew))
  clear H3
  generalize w3.drew = w4 at *
  obtain ⟨c0, c1, c2, c3, c4, c5, c6⟩ := H4.out.cells
  simp only [HLE.out] at c2
  have f6 := H4.out.free 6
  go_upto_region 3 with (fail)
  have HD := Lib.hid fun (W : World) (hb : Below w4.drew.heap.size w4.drew W) => Brush.below (w := w4.drew) (H4.out.below ((Below.refl w4.heap.size w4).drew)) hb
  go_region_with (go_at_call 89; with_reducible refine (HN.out _).mono ?_; rintro e wn ⟨rfl, hb⟩; first | (have HW := Lib.hid (HD.out wn hb); obtain ⟨k0, k1, k2, k3, k4, k5, k6⟩ := HW.out.cells; have f6 := HW.out.free 6) | skip)
  all_goals
    have HR := Lib.hid (HW.out.at (on s.cs.length (a : Int) 1))
    clear HW
    go_end0
    exact ⟨rfl, HR.out⟩
set_option maxRecDepth 100000 in
set_option maxHeartbeats 8000000 in
theorem brush_held {w0 w1 w' : World} {B g vc a : Nat} {s : S} (h : Brush w0 w1 B g vc s a) (hb : Below w1.heap.size w1 w') :
    Below w1.heap.size w1 w' ∧ w'.cell? ⟨B, 0, none⟩ = some (.int .i64 s.rows) ∧ w'.cell? ⟨B, 1, none⟩ = some (.int .i64 s.cols) ∧ w'.cell? ⟨B, 2, none⟩ = some (.slice (some ⟨g, 0, none⟩) s.cs.length vc) ∧ w'.cell? ⟨B, 3, none⟩ = some (.int .i64 s.cur) ∧ w'.cell? ⟨B, 4, none⟩ = some (.bool s.lk) ∧ w'.cell? ⟨B, 5, none⟩ = some (.bool s.ins) ∧ w'.cell? ⟨B, 6, none⟩ = some (.int .i64 (a : Int)) := ⟨hb, (h.below hb).cells⟩
set_option maxRecDepth 100000 in
set_option maxHeartbeats 8000000 in
theorem tab_any (w0 : World) (B g vc : Nat) (s : S) (a : Nat) (w : World) (h : Brush w0 w B g vc s a) (ha : a < s.cs.length) (hl : s.cs.length < 10000) (h8 : Sound s.cs) :
    Calls Tryz.prog 91 #[.pointer (some ⟨B, 0, none⟩)] w fun e w' => e = .returned (.int .i64 ((tabTo s.cs a : Nat) : Int)) ∧ Below w.heap.size w w' := by
  have H1 := Lib.hid h
  have HN := Lib.hid fun W => on_any s.rows s.cols (some ⟨g, 0, none⟩) s.cs.length vc s.cur s.lk s.ins (a : Int) (-1) W (by omega) (by omega) (IntWalk.i64_in _ (by omega)) (IntWalk.i64_in _ (by omega))
  have HF := Lib.hid fun W (hb : Below w.heap.size w W) => fnext_any s (some ⟨g, 0, none⟩) vc (on s.cs.length (a : Int) (-1)) W (h.own.to.below hb) h8 (by omega) hl (on_lt (by omega) _ _)
  have HT := Lib.hid (tab_next ha)
  clear h ha hl h8
  generalize next s.cs (on s.cs.length (a : Int) (-1)) = N at *
  generalize on s.cs.length (a : Int) (-1) = p at *
  obtain ⟨c0, c1, c2, c3, c4, c5, c6⟩ := H1.out.cells
  go_enter Tryz.func91, Tryz.ntmps91
  go_upto_region 1 with (fail)
  go_region_held3 (fun w' => Below w.heap.size w w' ∧ w'.cell? ⟨B, 0, none⟩ = some (.int .i64 s.rows) ∧ w'.cell? ⟨B, 1, none⟩ = some (.int .i64 s.cols) ∧ w'.cell? ⟨B, 2, none⟩ = some (.slice (some ⟨g, 0, none⟩) s.cs.length vc) ∧ w'.cell? ⟨B, 3, none⟩ = some (.int .i64 s.cur) ∧ w'.cell? ⟨B, 4, none⟩ = some (.bool s.lk) ∧ w'.cell? ⟨B, 5, none⟩ = some (.bool s.ins) ∧ w'.cell? ⟨B, 6, none⟩ = some (.int .i64 (a : Int)))
    (first | exact brush_held H1.out (Below.refl _ _).drew | exact brush_held H1.out (Below.refl _ _) | exact brush_held H1.out (kept_trans (And.left (by assumption)) hb))
    (first
      | (go_at_call 89; refine (HN.out _).mono ?_; rintro e wa ⟨rfl, hb⟩)
      | (go_at_call 119; refine (HF.out _ (And.left (by assumption))).mono ?_; rintro e wb ⟨rfl, hb⟩))
  have HB := Lib.hid (by assumption : Below w.heap.size w wb ∧ _).1
  obtain ⟨d0, d1, d2, d3, d4, d5, d6⟩ := (H1.out.below HB.out).cells
  by_cases hle : N ≤ (a : Int)
  · have HR := Lib.hid (HT.out.1 hle)
    clear hb HT HN HF H1
    go_wp2_with fail
    go_ret
    exact ⟨by rw [HR.out]; rfl, HB.out⟩
  · have HR := Lib.hid (HT.out.2 (by omega))
    clear hb HT HN HF H1
    go_wp2_with fail
    go_ret
    exact ⟨by rw [HR.out]; rfl, HB.out⟩
set_option maxRecDepth 100000 in
set_option maxHeartbeats 8000000 in
theorem take_any (s : S) (ad : Option Addr) (k a : Nat) (w : World) (h : CelsIn w (.slice ad s.cs.length k) s.cs) (ha : a < s.cs.length) (hl : s.cs.length < 10000) :
    Calls Tryz.prog 46 #[.agg #[.int .i64 s.rows, .int .i64 s.cols, .slice ad s.cs.length k, .int .i64 s.cur, .bool s.lk, .bool s.ins], .int .i64 (a : Int)] w fun e w' => ∃ B g vc, e = .returned (.pointer (some ⟨B, 0, none⟩)) ∧ Brush w w' B g vc s a := by
  have HX := Lib.hid (heap_alloc_new w (.cells #[.int .i64 s.rows, .int .i64 s.cols, .slice ad s.cs.length k, .int .i64 s.cur, .bool s.lk, .bool s.ins] 24))
  have HB := Lib.hid (al_any w (.cells #[.int .i64 s.rows, .int .i64 s.cols, .slice ad s.cs.length k, .int .i64 s.cur, .bool s.lk, .bool s.ins] 24))
  have HC := Lib.hid fun W hb => copy_any s ad k W (h.below hb) (by omega)
  have HN := Lib.hid fun W => on_any s.rows s.cols ad s.cs.length k s.cur s.lk s.ins (a : Int) 0 W (by omega) (by omega) (IntWalk.i64_in _ (by omega)) (IntWalk.i64_in _ (by omega))
  rw [on_zero ha] at HN
  have HA := Lib.hid ha
  have HPX := Lib.hid (there_lt HX.out)
  clear h ha hl
  go_enter Tryz.func46, Tryz.ntmps46
  go_upto_region 1 with (fail)
  generalize w.alloc _ = w1 at *
  obtain ⟨c0, c1, c2, c3, c4, c5⟩ := cells6 HX.out
  go_region_held3 (fun w' => Below w1.heap.size w1 w' ∧ w'.cell? ⟨w.heap.size, 0, none⟩ = some (.int .i64 s.rows) ∧ w'.cell? ⟨w.heap.size, 1, none⟩ = some (.int .i64 s.cols) ∧ w'.cell? ⟨w.heap.size, 2, none⟩ = some (.slice ad s.cs.length k) ∧ w'.cell? ⟨w.heap.size, 3, none⟩ = some (.int .i64 s.cur) ∧ w'.cell? ⟨w.heap.size, 4, none⟩ = some (.bool s.lk) ∧ w'.cell? ⟨w.heap.size, 5, none⟩ = some (.bool s.ins))
    (first | exact below6 HX.out _ (Below.refl _ _).drew | exact below6 HX.out _ (Below.refl _ _) | exact below6 HX.out _ (kept_trans (And.left (by assumption)) hb) | exact below6 HX.out _ (kept_trans (And.left (by assumption)) (al_any _ _)))
    (first
      | (go_at_call 89; have hT := And.left (by assumption : Below w1.heap.size w1 _ ∧ _); refine (HN.out _).mono ?_; rintro e wa ⟨rfl, hb⟩; have hkn := kept_trans hT hb)
      | (go_at_call 88; have hS := And.left (by assumption : Below w1.heap.size w1 _ ∧ _); refine (HC.out _ (kept_trans HB.out hS)).mono ?_; rintro e wc ⟨va, vc, rfl, ho, hb⟩; have hkc := kept_trans hS hb))
  all_goals
    have hO := ho.mono (Nat.le_trans HB.out.size hS.size)
    first
      | (have O2 := Lib.hid (OwnCels.below hO hb); have S2 := Lib.hid hkn; clear hkn hkc hO ho hb; generalize wa = wz at *)
      | (have O2 := Lib.hid hO; have S2 := Lib.hid hkc; clear hkn hkc hO ho hb; generalize wc = wz at *)
    obtain ⟨g, vd, e1, hg1, hg2, _⟩ := OwnCels.at O2.out (Nat.lt_of_le_of_lt (Nat.zero_le _) HA.out)
    injection e1 with e1 e2 e3
    subst e1
    subst e3
    clear e2
    have HR := Lib.hid (show Brush w (wz.alloc (.cells #[.int .i64 s.rows, .int .i64 s.cols, .slice (some ⟨g, 0, none⟩) s.cs.length vc, .int .i64 s.cur, .bool s.lk, .bool s.ins, .int .i64 (a : Int)] 97)) wz.heap.size g vc s a from
      ⟨heap_alloc_new _ _, O2.out.below (al_any _ _), Nat.ne_of_lt hg2, Nat.le_trans HB.out.size S2.out.size, kept_trans HB.out (kept_trans S2.out (al_any _ _))⟩)
    clear hg1 hg2 O2 S2 HB HX HC HN HA
    go_wp2_with fail
    go_ret
    exact ⟨_, _, _, rfl, HR.out⟩
end Pnt
end Go.Proofs.YtpdlpmbjhopnnaaGreatDoor
/- Package paint: filled of a brush. -/
namespace Go.Proofs.YtpdlpmbjhopnnaaGreatDoor
open Go.RowKit Sha Six Apd Cut Err Att Grd Fld
set_option linter.unusedVariables false
namespace Pnt
theorem field_p (f n : Bool) (q : Int) (m : Bool) (w : World) : (Instr.field 62 (.agg #[.bool f, .bool n, .int .i64 q, .bool m]) 0).run Tryz.prog w = .ok (.bool f) w := by kernel_rfl
/-- What is kept of a brush, and of an order's block, as the walk asks for it. -/
theorem brush_box {w0 w1 w' : World} {B g vc a X : Nat} {s : S} {o0 o1 o2 o3 o4 o5 o6 o7 : Value} (h : Brush w0 w1 B g vc s a) (hx : w1.heap[X]? = some (.cells #[o0, o1, o2, o3, o4, o5, o6, o7] 76 (0, 0))) (hb : Below w1.heap.size w1 w') :
    Below w1.heap.size w1 w' ∧ w'.cell? ⟨B, 0, none⟩ = some (.int .i64 s.rows) ∧ w'.cell? ⟨B, 1, none⟩ = some (.int .i64 s.cols) ∧ w'.cell? ⟨B, 2, none⟩ = some (.slice (some ⟨g, 0, none⟩) s.cs.length vc) ∧ w'.cell? ⟨B, 3, none⟩ = some (.int .i64 s.cur) ∧ w'.cell? ⟨B, 4, none⟩ = some (.bool s.lk) ∧ w'.cell? ⟨B, 5, none⟩ = some (.bool s.ins) ∧ w'.cell? ⟨B, 6, none⟩ = some (.int .i64 (a : Int)) ∧ w'.cell? ⟨X, 6, none⟩ = some o6 := by
  obtain ⟨h0, h1, h2, h3, h4, h5, h6⟩ := (h.below hb).cells
  obtain ⟨_, _, _, _, _, _, k6, _⟩ := cells8 (blk hx hb)
  exact ⟨hb, h0, h1, h2, h3, h4, h5, h6, k6⟩
theorem Brush.grown {w0 w w' : World} {B g vc a : Nat} {s : S} {r : Option Nat} (h : Brush w0 w B g vc s a) (hg : w.grownBy w' r) (hr : ∀ k, r = some k → k ≠ B ∧ k ≠ g ∧ w0.heap.size ≤ k) : Brush w0 w' B g vc s a :=
  ⟨blk_g h.box hg (fun e => (hr B e.symm).1 rfl), World.ownsRow.kept h.own hg (.inr fun e => (hr g e.symm).2.1 rfl), h.ne, h.le, h.kept.grown hg h.kept.size fun k hk => (hr k hk).2.2⟩
set_option maxRecDepth 100000 in
set_option maxHeartbeats 8000000 in
theorem fil_6 (w0 : World) (B g vc : Nat) (s : S) (a b : Nat) (ta : Option Addr) (tn tc : Nat) (p n : Bool) (q : Int) (m : Bool) (ch : Nat) (w : World) (h : Brush w0 w B g vc s a) (ha : a < s.cs.length) (hb : b < s.cs.length) (hl : s.cs.length < 10000) :
    Calls Tryz.prog 92 #[.pointer (some ⟨B, 0, none⟩), .agg #[.int .i64 6, .slice ta tn tc, .bool p, .bool n, .int .i64 q, .bool m, .int .i64 (b : Int), .int .u8 (ch : Int)]] w fun e w' => ∃ v, e = .returned v ∧ OwnInts w' w.heap.size v (span s.cs.length (a : Int) (b : Int)) ∧ Below w.heap.size w w' := by
  have HX := Lib.hid (heap_alloc_new w (.cells #[.int .i64 6, .slice ta tn tc, .bool p, .bool n, .int .i64 q, .bool m, .int .i64 (b : Int), .int .u8 (ch : Int)] 76))
  have HB := Lib.hid (al_any w (.cells #[.int .i64 6, .slice ta tn tc, .bool p, .bool n, .int .i64 q, .bool m, .int .i64 (b : Int), .int .u8 (ch : Int)] 76))
  have H1 := Lib.hid (h.below HB.out)
  have HS := Lib.hid fun W => span_any s.rows s.cols (some ⟨g, 0, none⟩) s.cs.length vc s.cur s.lk s.ins a b W ha hb (by omega)
  clear h ha hb hl
  go_enter Tryz.func92, Tryz.ntmps92
  go_upto_region 1 with (fail)
  generalize w.alloc _ = w1 at *
  obtain ⟨c0, c1, c2, c3, c4, c5, c6⟩ := H1.out.cells
  obtain ⟨x0, x1, x2, x3, x4, x5, x6, x7⟩ := cells8 HX.out
  go_region_held3 (fun w' => Below w1.heap.size w1 w' ∧ w'.cell? ⟨B, 0, none⟩ = some (.int .i64 s.rows) ∧ w'.cell? ⟨B, 1, none⟩ = some (.int .i64 s.cols) ∧ w'.cell? ⟨B, 2, none⟩ = some (.slice (some ⟨g, 0, none⟩) s.cs.length vc) ∧ w'.cell? ⟨B, 3, none⟩ = some (.int .i64 s.cur) ∧ w'.cell? ⟨B, 4, none⟩ = some (.bool s.lk) ∧ w'.cell? ⟨B, 5, none⟩ = some (.bool s.ins) ∧ w'.cell? ⟨B, 6, none⟩ = some (.int .i64 (a : Int)) ∧ w'.cell? ⟨w.heap.size, 6, none⟩ = some (.int .i64 (b : Int)))
    (first | exact brush_box H1.out HX.out (Below.refl _ _).drew | exact brush_box H1.out HX.out (Below.refl _ _) | exact brush_box H1.out HX.out (kept_trans (And.left (by assumption)) hb))
    ((go_at_call 120; have hS := And.left (by assumption : Below w1.heap.size w1 _ ∧ _); refine (HS.out _).mono ?_; rintro e we ⟨v, rfl, ho, hb⟩))
  have hS2 := (by assumption : Below w1.heap.size w1 we ∧ _).1
  have O2 := Lib.hid (ho.mono (Nat.le_trans HB.out.size hS.size))
  have K2 := kept_hid HB hS2
  have X2 := Lib.hid (blk HX.out hS2)
  have S2 := (by assumption : Below w1.heap.size w1 we ∧ _)
  obtain ⟨va, k, rfl⟩ := ho.form
  clear hS2 S2 ho hb hS HB HX H1 HS x0 x1 x2 x3 x4 x5 x6 x7 c0 c1 c2 c3 c4 c5 c6
  obtain ⟨x0, x1, x2, x3, x4, x5, x6, x7⟩ := cells8 X2.out
  go_wp2_with fail
  go_ret
  exact ⟨_, rfl, O2.out, K2.out⟩
set_option maxRecDepth 100000 in
set_option maxHeartbeats 8000000 in
theorem fil_7 (w0 : World) (B g vc : Nat) (s : S) (a b : Nat) (ta : Option Addr) (tn tc : Nat) (p n : Bool) (q : Int) (m : Bool) (ch : Nat) (w : World) (h : Brush w0 w B g vc s a) (ha : a < s.cs.length) (hb : b < s.cs.length) (hl : s.cs.length < 10000) (h8 : Sound s.cs) :
    Calls Tryz.prog 92 #[.pointer (some ⟨B, 0, none⟩), .agg #[.int .i64 7, .slice ta tn tc, .bool p, .bool n, .int .i64 q, .bool m, .int .i64 (b : Int), .int .u8 (ch : Int)]] w fun e w' => ∃ v, e = .returned v ∧ OwnInts w' w.heap.size v ((span s.cs.length (a : Int) (b : Int)).filter (open_ s.cs)) ∧ Below w.heap.size w w' := by
  have HX := Lib.hid (heap_alloc_new w (.cells #[.int .i64 7, .slice ta tn tc, .bool p, .bool n, .int .i64 q, .bool m, .int .i64 (b : Int), .int .u8 (ch : Int)] 76))
  have HB := Lib.hid (al_any w (.cells #[.int .i64 7, .slice ta tn tc, .bool p, .bool n, .int .i64 q, .bool m, .int .i64 (b : Int), .int .u8 (ch : Int)] 76))
  have H1 := Lib.hid (h.below HB.out)
  have HS := Lib.hid fun W => span_any s.rows s.cols (some ⟨g, 0, none⟩) s.cs.length vc s.cur s.lk s.ins a b W ha hb (by omega)
  have HF := Lib.hid fun W (hb : Below w.heap.size w W) => fof_any s (some ⟨g, 0, none⟩) vc a W (h.own.to.below hb) h8 (by omega) hl ha
  have HA := Lib.hid ha
  have HL := Lib.hid hl
  have HSL := Lib.hid (spanLen_pos (z := s.cs.length) (by omega) (a : Int) (b : Int))
  have HSN := Lib.hid (span_length s.cs.length (a : Int) (b : Int))
  have HSG := Lib.hid (fun i (h : i < spanLen s.cs.length (a : Int) (b : Int)) => span_getD h)
  have HST := Lib.hid (fun i (h : i < spanLen s.cs.length (a : Int) (b : Int)) => opens_step (cs := s.cs) h)
  have HOE := Lib.hid (show opens s.cs a b (spanLen s.cs.length (a : Int) (b : Int)) = (span s.cs.length (a : Int) (b : Int)).filter (open_ s.cs) from by
    unfold opens
    rw [List.take_of_length_le (by rw [span_length]; exact Nat.le_refl _)])
  have HP0 := Lib.hid (prot_zero (cs := s.cs) ha)
  have H3B := Lib.hid h.lt
  clear h ha hb hl h8
  go_enter Tryz.func92, Tryz.ntmps92
  go_upto_region 1 with (fail)
  generalize w.alloc _ = w1 at *
  obtain ⟨c0, c1, c2, c3, c4, c5, c6⟩ := H1.out.cells
  obtain ⟨x0, x1, x2, x3, x4, x5, x6, x7⟩ := cells8 HX.out
  go_region_held3 (fun w' => Below w1.heap.size w1 w' ∧ w'.cell? ⟨B, 0, none⟩ = some (.int .i64 s.rows) ∧ w'.cell? ⟨B, 1, none⟩ = some (.int .i64 s.cols) ∧ w'.cell? ⟨B, 2, none⟩ = some (.slice (some ⟨g, 0, none⟩) s.cs.length vc) ∧ w'.cell? ⟨B, 3, none⟩ = some (.int .i64 s.cur) ∧ w'.cell? ⟨B, 4, none⟩ = some (.bool s.lk) ∧ w'.cell? ⟨B, 5, none⟩ = some (.bool s.ins) ∧ w'.cell? ⟨B, 6, none⟩ = some (.int .i64 (a : Int)) ∧ w'.cell? ⟨w.heap.size, 6, none⟩ = some (.int .i64 (b : Int)))
    (first | exact brush_box H1.out HX.out (Below.refl _ _).drew | exact brush_box H1.out HX.out (Below.refl _ _) | exact brush_box H1.out HX.out (kept_trans (And.left (by assumption)) hb))
    ((go_at_call 120; have hS := And.left (by assumption : Below w1.heap.size w1 _ ∧ _); refine (HS.out _).mono ?_; rintro e we ⟨v, rfl, ho, hb⟩))
  have hS2 := (by assumption : Below w1.heap.size w1 we ∧ _).1
  have O2 := Lib.hid (ho.mono (Nat.le_trans HB.out.size hS.size))
  have K2 := kept_hid HB hS2
  have X2 := Lib.hid (blk HX.out hS2)
  have H2 := Lib.hid (H1.out.below hS2)
  have S2 := (by assumption : Below w1.heap.size w1 we ∧ _)
  obtain ⟨va, k, rfl⟩ := ho.form
  clear hS2 S2 ho hb hS HB HX H1 HS x0 x1 x2 x3 x4 x5 x6 x7 c0 c1 c2 c3 c4 c5 c6
  obtain ⟨x0, x1, x2, x3, x4, x5, x6, x7⟩ := cells8 X2.out
  obtain ⟨c0, c1, c2, c3, c4, c5, c6⟩ := H2.out.cells
  have hfp := field_p (attrOf s.cs a).p (attrOf s.cs a).n (attrOf s.cs a).s (attrOf s.cs a).m
  go_upto_region 5 with (fail)
  go_region_held3 (fun w' => Below we.heap.size we w' ∧ w'.cell? ⟨B, 0, none⟩ = some (.int .i64 s.rows) ∧ w'.cell? ⟨B, 1, none⟩ = some (.int .i64 s.cols) ∧ w'.cell? ⟨B, 2, none⟩ = some (.slice (some ⟨g, 0, none⟩) s.cs.length vc) ∧ w'.cell? ⟨B, 3, none⟩ = some (.int .i64 s.cur) ∧ w'.cell? ⟨B, 4, none⟩ = some (.bool s.lk) ∧ w'.cell? ⟨B, 5, none⟩ = some (.bool s.ins) ∧ w'.cell? ⟨B, 6, none⟩ = some (.int .i64 (a : Int)) ∧ w'.cell? ⟨w.heap.size, 6, none⟩ = some (.int .i64 (b : Int)))
    (first | exact brush_box H2.out X2.out (Below.refl _ _).drew | exact brush_box H2.out X2.out (Below.refl _ _) | exact brush_box H2.out X2.out (kept_trans (And.left (by assumption)) hb))
    ((go_at_call 121; have hS := And.left (by assumption : Below we.heap.size we _ ∧ _); refine (HF.out _ (kept_trans K2.out hS)).mono ?_; rintro e wf ⟨rfl, hb⟩))
  have hS3 := (by assumption : Below we.heap.size we wf ∧ _).1
  have S3 := (by assumption : Below we.heap.size we wf ∧ _)
  have O3 := Lib.hid (O2.out.below hS3)
  have K3 := kept_hid K2 hS3
  have H3 := Lib.hid (H2.out.below hS3)
  clear hS3 S3 hb hS O2 K2 X2 H2 HF x0 x1 x2 x3 x4 x5 x6 x7 c0 c1 c2 c3 c4 c5 c6 hfp
  have HVB := Lib.hid (own_blocks O3.out)
  have HWL := Lib.hid K3.out.size
  have H3L := Lib.hid (show B < wf.heap.size ∧ g < wf.heap.size from ⟨H3.out.lt, (own_blocks H3.out.own _ rfl).2⟩)
  have HB0 := Lib.hid (show w0.heap.size ≤ w.heap.size from Nat.le_of_lt (Nat.lt_of_le_of_lt H3.out.le H3B.out))
  generalize hsp : span s.cs.length (a : Int) (b : Int) = sp at O3 HVB HSN HSG
  generalize hN : spanLen s.cs.length (a : Int) (b : Int) = N at HSL HSN HSG HST HOE
  clear hN
  replace hsp := Lib.hid hsp
  generalize hP : (attrOf s.cs a).p = P0 at *
  have hHP : P0 = protAt s.cs a 0 := by rw [HP0.out]
  subst hHP
  clear hP HP0
  have O0 := Lib.hid (show OwnInts wf wf.heap.size (.slice none 0 0) (opens s.cs a b 0) from World.ownsRow_nil _ _ _ _)
  go_wp2_with fail
  go_loopg [6, 7, 38] (N + 1) (fun mm v pp i wr => ∃ q : Nat, q ≤ N ∧ mm = N + 1 - q ∧ i = .int .i64 q ∧ pp = .bool (protAt s.cs a q) ∧ Hid (OwnInts wr wf.heap.size v (opens s.cs a b q)) ∧ Hid (Brush w0 wr B g vc s a) ∧ Hid (OwnInts wr w.heap.size (.slice va sp.length k) sp) ∧ Hid (Below w.heap.size w wr) ∧ Hid (wf.heap.size ≤ wr.heap.size))
  case atStart => exact ⟨0, Nat.zero_le _, rfl, rfl, rfl, O0, H3, O3, K3, Nat.le_refl _⟩
  case round =>
    obtain ⟨q, hq, rfl, rfl, rfl, O4, H4, R4, K4, L4⟩ := hrel
    clear O0 H3 O3 K3
    have ew : IntKind.i64.wrap ((q : Int) + 1) = (q : Int) + 1 := by
      have := HSL.out
      have := HL.out
      rw [IntWalk.i64_in] <;> omega
    obtain ⟨vo, ko, rfl⟩ := O4.out.form
    by_cases hlt : q < N
    · have hi0 : (0 : Int) ≤ (q : Int) := by omega
      have hi1 : (q : Int) < (sp.length : Int) := by rw [HSN.out]; omega
      have HXL := Lib.hid (on_lt (z := s.cs.length) (by have := HA.out; omega) (a : Int) (q : Int))
      have HGD := Lib.hid (HSG.out q hlt)
      have HSTq := Lib.hid (HST.out q hlt)
      have HPF := Lib.hid (prot_field (cs := s.cs) (q := q) HA.out)
      have HPC := Lib.hid (prot_cell (cs := s.cs) (q := q) HA.out)
      generalize on s.cs.length (a : Int) (q : Int) = x at *
      obtain ⟨g', hg', _, hgl, hcell, _⟩ := R4.out.cell (i := q) (by rw [HSN.out]; exact hlt)
      rw [Nat.zero_add, HGD.out] at hcell
      subst hg'
      have hj0 : (0 : Int) ≤ (x : Int) := by omega
      have hj1 : (x : Int) < (s.cs.length : Int) := by have := HXL.out; omega
      obtain ⟨yf, yp, yn, ys, ym, yc, ey⟩ := c_eta (s.cs.getD x noC)
      obtain ⟨⟨p0, p1, p2, p3, p4, p5⟩, _⟩ := H4.out.spot HXL.out ey
      obtain ⟨c0, c1, c2, c3, c4, c5, c6⟩ := H4.out.cells
      have EY := Lib.hid ey
      have HAL := al_any wr (.cells #[.bool yf, .bool yp, .bool yn, .int .i64 ys, .bool ym, .int .u8 (yc : Int)] 64)
      have Y5 := Lib.hid (heap_alloc_new wr (.cells #[.bool yf, .bool yp, .bool yn, .int .i64 ys, .bool ym, .int .u8 (yc : Int)] 64))
      have O5 := Lib.hid (O4.out.below HAL)
      have H5 := Lib.hid (H4.out.below HAL)
      have R5 := Lib.hid (R4.out.below HAL)
      have K5 := kept_hid K4 HAL
      have L5 := Lib.hid (Nat.le_trans L4.out HAL.size)
      have hY : wr.heap.size < (wr.alloc (.cells #[.bool yf, .bool yp, .bool yn, .int .i64 ys, .bool ym, .int .u8 (yc : Int)] 64)).heap.size := there_lt Y5.out
      clear HAL ey
      go_upto_region 10 with (fail)
      clear hcell c0 c1 c2 c3 c4 c5 c6 p0 p1 p2 p3 p4 p5 O4 H4 R4 K4 L4 hgl
      generalize wr.alloc _ = w5 at *
      generalize wr.heap.size = Y at *
      obtain ⟨c0, c1, c2, c3, c4, c5⟩ := cells6 Y5.out
      cases yf with
      | true =>
        obtain ⟨hp1, hp2⟩ := HPF.out (by unfold fat; rw [EY.out])
        rw [EY.out] at hp1
        simp only at hp1
        have HE := Lib.hid (show opens s.cs a b (q + 1) = opens s.cs a b q by rw [HSTq.out, hp2]; rfl)
        have HPE := Lib.hid hp1
        clear hp1 hp2 HPF HPC HSTq EY
        go_wp2_with fail
        go_roundg (N + 1 - (q + 1))
        case measure => omega
        case rel => exact ⟨q + 1, by omega, rfl, rfl, by rw [HPE.out], by rw [HE.out]; exact O5, H5, R5, K5, L5⟩
      | false =>
        obtain ⟨hp1, hp2⟩ := HPC.out (by unfold fat; rw [EY.out])
        have HPE := Lib.hid hp1
        cases hpr : protAt s.cs a q with
        | true =>
          have HE := Lib.hid (show opens s.cs a b (q + 1) = opens s.cs a b q by rw [HSTq.out, hp2, hpr]; rfl)
          replace hpr := Lib.hid hpr
          clear hp1 hp2 HPF HPC HSTq EY
          go_wp2_with fail
          go_roundg (N + 1 - (q + 1))
          case measure => omega
          case rel => exact ⟨q + 1, by omega, rfl, rfl, by rw [HPE.out, hpr.out], by rw [HE.out]; exact O5, H5, R5, K5, L5⟩
        | false =>
          have HE := Lib.hid (show opens s.cs a b (q + 1) = opens s.cs a b q ++ [x] by rw [HSTq.out, hp2, hpr]; rfl)
          have HOL := Lib.hid (show (opens s.cs a b q).length ≤ N by
            have h1 := List.length_filter_le (open_ s.cs) ((span s.cs.length (a : Int) (b : Int)).take q)
            rw [List.length_take, hsp.out, HSN.out] at h1
            unfold opens
            rw [hsp.out]
            omega)
          replace hpr := Lib.hid hpr
          have HAL := al_any w5 (.cells #[.int .i64 (x : Int)] 3)
          have O6 := Lib.hid (O5.out.below HAL)
          have H6 := Lib.hid (H5.out.below HAL)
          have R6 := Lib.hid (R5.out.below HAL)
          have K6 := kept_hid K5 HAL
          have L6 := Lib.hid (Nat.le_trans L5.out HAL.size)
          have X6 := Lib.hid (heap_alloc_new w5 (.cells #[.int .i64 (x : Int)] 3))
          have HOG := Lib.hid (show ∀ g, (Value.slice vo (opens s.cs a b q).length ko).ownBlock = some g → wf.heap.size ≤ g from own_ge O6.out)
          have HBL := Lib.hid H3L.out
          clear hp1 hp2 HPF HPC HSTq EY HAL O5 H5 R5 K5 L5
          go_wp2_with (at_builtin; refine wpList_mark ?_)
          refine Lib.hid ?_
          refine append_int rfl (.tmp 59) (.tmp 61) rfl wf.heap.size (.slice vo (opens s.cs a b q).length ko) (opens s.cs a b q) rfl O6.out w5.heap.size x rfl X6.out (by have := HOL.out; have := HSL.out; have := HL.out; omega) L6.out ?_
          intro v' w7 hown hgr
          rw [← HE.out] at hown
          have O7 := Lib.hid hown
          have H7 := Lib.hid (H6.out.grown hgr (fun k hk => by have h1 := HOG.out _ hk; have h2 := HBL.out; have h3 := HWL.out; have h4 := HB0.out; exact ⟨by omega, by omega, by omega⟩))
          have R7 := Lib.hid (World.ownsRow.kept R6.out hgr (.inr (fun e => by have h1 : wf.heap.size ≤ g' := HOG.out _ e.symm; have h2 : g' < wf.heap.size := (HVB.out _ rfl).2; omega)))
          have K7 := Lib.hid (K6.out.grown hgr K6.out.size (fun g hg => by have h1 := HOG.out _ hg; have h3 := HWL.out; omega))
          have L7 := Lib.hid (Nat.le_trans L6.out hgr.size)
          obtain ⟨v7, k7, rfl⟩ := O7.out.form
          clear hown hgr O6 H6 R6 K6 L6 X6 HOG
          go_wp2_with fail
          go_roundg (N + 1 - (q + 1))
          case measure => omega
          case rel => exact ⟨q + 1, by omega, rfl, rfl, by rw [HPE.out, hpr.out], O7, H7, R7, K7, L7⟩
    · obtain rfl : q = N := by omega
      have hn0 : ¬ (q : Int) < (sp.length : Int) := by rw [HSN.out]; omega
      have W6 := Lib.hid (show OwnInts wr w.heap.size (.slice vo (opens s.cs a b q).length ko) ((span s.cs.length (a : Int) (b : Int)).filter (open_ s.cs)) by
        have := O4.out.mono HWL.out
        rw [← HOE.out]
        exact this)
      clear hlt O4
      go_wp2_with fail
      go_ret
      exact ⟨_, rfl, W6.out, K4.out⟩
end Pnt
end Go.Proofs.YtpdlpmbjhopnnaaGreatDoor
/- Package paint: do of a brush, kind by kind (written by tools/gen_pnt_do.py). -/
namespace Go.Proofs.YtpdlpmbjhopnnaaGreatDoor
open Go.RowKit Sha Six Apd Cut Err Att Grd Fld
set_option linter.unusedVariables false
namespace Pnt
theorem mem_span {z : Nat} (hz : 0 < z) {a b : Int} {x : Nat} (h : x ∈ span z a b) : x < z := by
  unfold span at h
  rw [List.mem_map] at h
  obtain ⟨i, _, rfl⟩ := h
  exact on_lt hz _ _
set_option maxRecDepth 100000 in
set_option maxHeartbeats 8000000 in
theorem do_1 (w0 : World) (B g vc : Nat) (s : S) (a : Nat) (ta : Option Addr) (tn tc : Nat) (t : List Nat) (p n : Bool) (q : Int) (m : Bool) (b : Int) (ch : Nat) (w : World) (h : Brush w0 w B g vc s a) (ha : a < s.cs.length) (hl : s.cs.length < 10000) (hB : BytesIn w0 (.slice ta tn tc) t) (htl : t.length < 1000000) (h0 : t ≠ []) :
    Calls Tryz.prog 47 #[.pointer (some ⟨B, 0, none⟩), .agg #[.int .i64 1, .slice ta tn tc, .bool p, .bool n, .int .i64 q, .bool m, .int .i64 (b : Int), .int .u8 (ch : Int)]] w fun e w' => e = .returned (.tuple #[]) ∧ Brush w0 w' B g vc (pone s a ⟨1, t, p, n, q, m, b, ch⟩).1 (pone s a ⟨1, t, p, n, q, m, b, ch⟩).2 := by
  obtain ⟨ta1, tc1, hv, hcap, h1⟩ := hB
  injection hv with e1 e2 e3
  subst e1 e2 e3
  rcases h1 with h1 | ⟨gt, ot, rfl, hct⟩
  · exact absurd h1 h0
  have HT := Lib.hid (show BytesIn w0 (.slice (some ⟨gt, ot, none⟩) t.length tc) t from ⟨_, _, rfl, hcap, .inr ⟨gt, ot, rfl, hct⟩⟩)
  have HTL := Lib.hid htl
  have HX := Lib.hid (heap_alloc_new w (.cells #[.int .i64 1, .slice (some ⟨gt, ot, none⟩) t.length tc, .bool p, .bool n, .int .i64 q, .bool m, .int .i64 (b : Int), .int .u8 (ch : Int)] 76))
  have H1 := Lib.hid (h.below (al_any w (.cells #[.int .i64 1, .slice (some ⟨gt, ot, none⟩) t.length tc, .bool p, .bool n, .int .i64 q, .bool m, .int .i64 (b : Int), .int .u8 (ch : Int)] 76)))
  have HL := Lib.hid hl
  have HA := Lib.hid ha
  have HXB := Lib.hid (show B < w.heap.size ∧ g < w.heap.size from ⟨h.lt, (own_blocks h.own _ rfl).2⟩)
  clear hct hcap h0 htl h ha hl
  go_enter Tryz.func47, Tryz.ntmps47
  go_upto_region 1 with (fail)
  generalize w.alloc _ = w1 at *
  have hX := there_lt HX.out
  generalize w.heap.size = X at *
  obtain ⟨x0, x1, x2, x3, x4, x5, x6, x7⟩ := cells8 HX.out
  go_wp2_with fail
  go_loopg [26] (t.length + 1) (fun mm ii wr => ∃ x : Nat, x ≤ t.length ∧ mm = t.length + 1 - x ∧ ii = .int .i64 x ∧ Hid (Brush w0 wr B g vc { s with cs := (ptext (s.cs, a) (t.take x)).1 } (ptext (s.cs, a) (t.take x)).2))
  case atStart => exact ⟨0, Nat.zero_le _, rfl, rfl, H1⟩
  case round =>
    obtain ⟨x, hx, rfl, rfl, H4⟩ := hrel
    clear H1 HX x0 x1 x2 x3 x4 x5 x6 x7
    have ew : IntKind.i64.wrap ((x : Int) + 1) = (x : Int) + 1 := by
      have := HTL.out
      rw [IntWalk.i64_in] <;> omega
    by_cases hlt : x < t.length
    · have HS := Lib.hid (ptext_take (s.cs, a) t hlt)
      have HN1 := Lib.hid (ptext_length (s.cs, a) (t.take x))
      have HN2 := Lib.hid (ptext_lt (s.cs, a) HA.out (t.take x))
      have c9 := bytes_at (bytes_below HT.out H4.out.kept) hlt
      generalize ptext (s.cs, a) (t.take x) = st at *
      obtain ⟨ds, pl⟩ := st
      simp only at HN1 HN2 H4
      generalize t.getD x 0 = y at *
      have HP := Lib.hid (put_any w0 B g vc { s with cs := ds } pl (chr y) wr H4.out (by simp only; rw [HN1.out]; exact HN2.out) (by simp only; rw [HN1.out]; exact HL.out))
      simp only [chr] at HP
      have hi0 : (0 : Int) ≤ (x : Int) := by omega
      have hi1 : (x : Int) < (t.length : Int) := by omega
      clear H4
      go_wp2_with fail
      with_reducible refine HP.out.mono ?_
      rintro e we ⟨rfl, H5⟩
      replace H5 := Lib.hid H5
      clear HP c9
      go_wp2_with fail
      go_roundg (t.length + 1 - (x + 1))
      case measure => omega
      case rel => exact ⟨x + 1, by omega, rfl, rfl, by rw [HS.out]; exact H5⟩
    · obtain rfl : x = t.length := by omega
      have hn0 : ¬ (t.length : Int) < (t.length : Int) := by omega
      rw [List.take_length] at *
      clear hlt
      go_wp2_with fail
      go_end0
      exact ⟨rfl, by simpa [pone] using H4.out⟩
set_option maxRecDepth 100000 in
set_option maxHeartbeats 8000000 in
theorem do_2 (w0 : World) (B g vc : Nat) (s : S) (a : Nat) (ta : Option Addr) (tn tc : Nat) (t : List Nat) (p n : Bool) (q : Int) (m : Bool) (b : Int) (ch : Nat) (w : World) (h : Brush w0 w B g vc s a) (ha : a < s.cs.length) (hl : s.cs.length < 10000) :
    Calls Tryz.prog 47 #[.pointer (some ⟨B, 0, none⟩), .agg #[.int .i64 2, .slice ta tn tc, .bool p, .bool n, .int .i64 q, .bool m, .int .i64 (b : Int), .int .u8 (ch : Int)]] w fun e w' => e = .returned (.tuple #[]) ∧ Brush w0 w' B g vc (pone s a ⟨2, t, p, n, q, m, b, ch⟩).1 (pone s a ⟨2, t, p, n, q, m, b, ch⟩).2 := by
  have HX := Lib.hid (heap_alloc_new w (.cells #[.int .i64 2, .slice ta tn tc, .bool p, .bool n, .int .i64 q, .bool m, .int .i64 (b : Int), .int .u8 (ch : Int)] 76))
  have H1 := Lib.hid (h.below (al_any w (.cells #[.int .i64 2, .slice ta tn tc, .bool p, .bool n, .int .i64 q, .bool m, .int .i64 (b : Int), .int .u8 (ch : Int)] 76)))
  have HL := Lib.hid hl
  have HA := Lib.hid ha
  have HXB := Lib.hid (show B < w.heap.size ∧ g < w.heap.size from ⟨h.lt, (own_blocks h.own _ rfl).2⟩)
  clear h ha hl
  go_enter Tryz.func47, Tryz.ntmps47
  go_upto_region 1 with (fail)
  generalize w.alloc _ = w1 at *
  have hX := there_lt HX.out
  generalize w.heap.size = X at *
  obtain ⟨x0, x1, x2, x3, x4, x5, x6, x7⟩ := cells8 HX.out
  have HP := Lib.hid (put_any w0 B g vc s a ⟨true, p, n, q, m, 0⟩ w1 H1.out HA.out HL.out)
  simp only [Int.natCast_zero] at HP
  go_wp2_with fail
  with_reducible refine HP.out.mono ?_
  rintro e we ⟨rfl, H5⟩
  replace H5 := Lib.hid H5
  clear HP H1 HX x0 x1 x2 x3 x4 x5 x6 x7
  go_wp2_with fail
  go_end0
  exact ⟨rfl, by simpa [pone] using H5.out⟩
set_option maxRecDepth 100000 in
set_option maxHeartbeats 8000000 in
theorem do_3 (w0 : World) (B g vc : Nat) (s : S) (a : Nat) (ta : Option Addr) (tn tc : Nat) (t : List Nat) (p n : Bool) (q : Int) (m : Bool) (b : Nat) (ch : Nat) (w : World) (h : Brush w0 w B g vc s a) (ha : a < s.cs.length) (hl : s.cs.length < 10000) :
    Calls Tryz.prog 47 #[.pointer (some ⟨B, 0, none⟩), .agg #[.int .i64 3, .slice ta tn tc, .bool p, .bool n, .int .i64 q, .bool m, .int .i64 (b : Int), .int .u8 (ch : Int)]] w fun e w' => e = .returned (.tuple #[]) ∧ Brush w0 w' B g vc (pone s a ⟨3, t, p, n, q, m, b, ch⟩).1 (pone s a ⟨3, t, p, n, q, m, b, ch⟩).2 := by
  have HX := Lib.hid (heap_alloc_new w (.cells #[.int .i64 3, .slice ta tn tc, .bool p, .bool n, .int .i64 q, .bool m, .int .i64 (b : Int), .int .u8 (ch : Int)] 76))
  have H1 := Lib.hid (h.below (al_any w (.cells #[.int .i64 3, .slice ta tn tc, .bool p, .bool n, .int .i64 q, .bool m, .int .i64 (b : Int), .int .u8 (ch : Int)] 76)))
  have HL := Lib.hid hl
  have HA := Lib.hid ha
  have HXB := Lib.hid (show B < w.heap.size ∧ g < w.heap.size from ⟨h.lt, (own_blocks h.own _ rfl).2⟩)
  clear h ha hl
  go_enter Tryz.func47, Tryz.ntmps47
  go_upto_region 1 with (fail)
  generalize w.alloc _ = w1 at *
  have hX := there_lt HX.out
  generalize w.heap.size = X at *
  obtain ⟨x0, x1, x2, x3, x4, x5, x6, x7⟩ := cells8 HX.out
  obtain ⟨c0, c1, c2, c3, c4, c5, c6⟩ := H1.out.cells
  have f6 := H1.out.free 6
  have HR := Lib.hid (H1.out.at b)
  clear H1
  go_wp2_with fail
  go_end0
  exact ⟨rfl, by simpa [pone] using HR.out⟩
set_option maxRecDepth 100000 in
set_option maxHeartbeats 8000000 in
theorem do_4 (w0 : World) (B g vc : Nat) (s : S) (a : Nat) (ta : Option Addr) (tn tc : Nat) (t : List Nat) (p n : Bool) (q : Int) (m : Bool) (b : Int) (ch : Nat) (w : World) (h : Brush w0 w B g vc s a) (ha : a < s.cs.length) (hl : s.cs.length < 10000) :
    Calls Tryz.prog 47 #[.pointer (some ⟨B, 0, none⟩), .agg #[.int .i64 4, .slice ta tn tc, .bool p, .bool n, .int .i64 q, .bool m, .int .i64 (b : Int), .int .u8 (ch : Int)]] w fun e w' => e = .returned (.tuple #[]) ∧ Brush w0 w' B g vc (pone s a ⟨4, t, p, n, q, m, b, ch⟩).1 (pone s a ⟨4, t, p, n, q, m, b, ch⟩).2 := by
  have HX := Lib.hid (heap_alloc_new w (.cells #[.int .i64 4, .slice ta tn tc, .bool p, .bool n, .int .i64 q, .bool m, .int .i64 (b : Int), .int .u8 (ch : Int)] 76))
  have H1 := Lib.hid (h.below (al_any w (.cells #[.int .i64 4, .slice ta tn tc, .bool p, .bool n, .int .i64 q, .bool m, .int .i64 (b : Int), .int .u8 (ch : Int)] 76)))
  have HL := Lib.hid hl
  have HA := Lib.hid ha
  have HXB := Lib.hid (show B < w.heap.size ∧ g < w.heap.size from ⟨h.lt, (own_blocks h.own _ rfl).2⟩)
  clear h ha hl
  go_enter Tryz.func47, Tryz.ntmps47
  go_upto_region 1 with (fail)
  generalize w.alloc _ = w1 at *
  have hX := there_lt HX.out
  generalize w.heap.size = X at *
  obtain ⟨x0, x1, x2, x3, x4, x5, x6, x7⟩ := cells8 HX.out
  obtain ⟨c0, c1, c2, c3, c4, c5, c6⟩ := H1.out.cells
  have f3 := H1.out.free 3
  have HR := Lib.hid (H1.out.cur (a : Int))
  clear H1
  go_wp2_with fail
  go_end0
  exact ⟨rfl, by simpa [pone] using HR.out⟩
set_option maxRecDepth 100000 in
set_option maxHeartbeats 8000000 in
theorem do_5 (w0 : World) (B g vc : Nat) (s : S) (a : Nat) (ta : Option Addr) (tn tc : Nat) (t : List Nat) (p n : Bool) (q : Int) (m : Bool) (b : Int) (ch : Nat) (w : World) (h : Brush w0 w B g vc s a) (ha : a < s.cs.length) (hl : s.cs.length < 10000) (h8 : Sound s.cs) :
    Calls Tryz.prog 47 #[.pointer (some ⟨B, 0, none⟩), .agg #[.int .i64 5, .slice ta tn tc, .bool p, .bool n, .int .i64 q, .bool m, .int .i64 (b : Int), .int .u8 (ch : Int)]] w fun e w' => e = .returned (.tuple #[]) ∧ Brush w0 w' B g vc (pone s a ⟨5, t, p, n, q, m, b, ch⟩).1 (pone s a ⟨5, t, p, n, q, m, b, ch⟩).2 := by
  have HX := Lib.hid (heap_alloc_new w (.cells #[.int .i64 5, .slice ta tn tc, .bool p, .bool n, .int .i64 q, .bool m, .int .i64 (b : Int), .int .u8 (ch : Int)] 76))
  have H1 := Lib.hid (h.below (al_any w (.cells #[.int .i64 5, .slice ta tn tc, .bool p, .bool n, .int .i64 q, .bool m, .int .i64 (b : Int), .int .u8 (ch : Int)] 76)))
  have HL := Lib.hid hl
  have HA := Lib.hid ha
  have HXB := Lib.hid (show B < w.heap.size ∧ g < w.heap.size from ⟨h.lt, (own_blocks h.own _ rfl).2⟩)
  clear h ha hl
  go_enter Tryz.func47, Tryz.ntmps47
  go_upto_region 1 with (fail)
  generalize w.alloc _ = w1 at *
  have hX := there_lt HX.out
  generalize w.heap.size = X at *
  obtain ⟨x0, x1, x2, x3, x4, x5, x6, x7⟩ := cells8 HX.out
  have HP := Lib.hid (tab_any w0 B g vc s a w1 H1.out HA.out HL.out h8)
  go_wp2_with fail
  with_reducible refine HP.out.mono ?_
  rintro e we ⟨rfl, hb⟩
  have H5 := Lib.hid (H1.out.below hb)
  clear HP hb H1 HX x0 x1 x2 x3 x4 x5 x6 x7
  obtain ⟨c0, c1, c2, c3, c4, c5, c6⟩ := H5.out.cells
  have f6 := H5.out.free 6
  have HR := Lib.hid (H5.out.at (tabTo s.cs a))
  clear H5
  go_wp2_with fail
  go_end0
  exact ⟨rfl, by simpa [pone] using HR.out⟩
set_option maxRecDepth 100000 in
set_option maxHeartbeats 8000000 in
theorem do_6 (w0 : World) (B g vc : Nat) (s : S) (a : Nat) (ta : Option Addr) (tn tc : Nat) (t : List Nat) (p n : Bool) (q : Int) (m : Bool) (b : Nat) (ch : Nat) (w : World) (h : Brush w0 w B g vc s a) (ha : a < s.cs.length) (hl : s.cs.length < 10000) (hb : b < s.cs.length) :
    Calls Tryz.prog 47 #[.pointer (some ⟨B, 0, none⟩), .agg #[.int .i64 6, .slice ta tn tc, .bool p, .bool n, .int .i64 q, .bool m, .int .i64 (b : Int), .int .u8 (ch : Int)]] w fun e w' => e = .returned (.tuple #[]) ∧ Brush w0 w' B g vc (pone s a ⟨6, t, p, n, q, m, b, ch⟩).1 (pone s a ⟨6, t, p, n, q, m, b, ch⟩).2 := by
  have HLt := Lib.hid (fun x (hx : x ∈ span s.cs.length (a : Int) (b : Int)) => mem_span (z := s.cs.length) (by omega) hx)
  have HLl := Lib.hid (show (span s.cs.length (a : Int) (b : Int)).length < 10000 by rw [span_length]; have := spanLen_pos (z := s.cs.length) (by omega) (a : Int) (b : Int); omega)
  have HF := Lib.hid fun W (H : Brush w0 W B g vc s a) => fil_6 w0 B g vc s a b ta tn tc p n q m ch W H ha hb hl
  have HE := Lib.hid (show pone s a ⟨6, t, p, n, q, m, b, ch⟩ = ({ s with cs := reps s.cs ch (span s.cs.length (a : Int) (b : Int)) }, b) by simp [pone])
  generalize span s.cs.length (a : Int) (b : Int) = L at *
  have HX := Lib.hid (heap_alloc_new w (.cells #[.int .i64 6, .slice ta tn tc, .bool p, .bool n, .int .i64 q, .bool m, .int .i64 (b : Int), .int .u8 (ch : Int)] 76))
  have H1 := Lib.hid (h.below (al_any w (.cells #[.int .i64 6, .slice ta tn tc, .bool p, .bool n, .int .i64 q, .bool m, .int .i64 (b : Int), .int .u8 (ch : Int)] 76)))
  have HL := Lib.hid hl
  have HA := Lib.hid ha
  have HXB := Lib.hid (show B < w.heap.size ∧ g < w.heap.size from ⟨h.lt, (own_blocks h.own _ rfl).2⟩)
  clear h ha hl hb
  go_enter Tryz.func47, Tryz.ntmps47
  go_upto_region 1 with (fail)
  generalize w.alloc _ = w1 at *
  have hX := there_lt HX.out
  generalize w.heap.size = X at *
  obtain ⟨x0, x1, x2, x3, x4, x5, x6, x7⟩ := cells8 HX.out
  go_wp2_with fail
  with_reducible refine (HF.out _ H1.out).mono ?_
  rintro e we ⟨v, rfl, ho, hb⟩
  obtain ⟨va, k, rfl⟩ := ho.form
  have R2 := Lib.hid (ho.mono (Nat.le_refl w1.heap.size))
  have H2 := Lib.hid (H1.out.below hb)
  have X2 := Lib.hid (blk HX.out hb)
  have HVB := Lib.hid (fun y (hy : va = some y) => ((own_blocks ho) y hy).1)
  clear ho hb H1 HX HF x0 x1 x2 x3 x4 x5 x6 x7
  have HW1 := Lib.hid (show B < w1.heap.size ∧ g < w1.heap.size ∧ X < w1.heap.size from ⟨Nat.lt_trans HXB.out.1 hX, Nat.lt_trans HXB.out.2 hX, hX⟩)
  go_wp2_with fail
  go_loopg [57] (L.length + 1) (fun mm ii wr => ∃ x : Nat, x ≤ L.length ∧ mm = L.length + 1 - x ∧ ii = .int .i64 x ∧ Hid (Brush w0 wr B g vc { s with cs := reps s.cs ch (L.take x) } a) ∧ Hid (wr.heap[X]? = some (.cells #[.int .i64 6, .slice ta tn tc, .bool p, .bool n, .int .i64 q, .bool m, .int .i64 (b : Int), .int .u8 (ch : Int)] 76 (0, 0))) ∧ Hid (OwnInts wr w1.heap.size (.slice va L.length k) L))
  case atStart => exact ⟨0, Nat.zero_le _, rfl, rfl, H2, X2, R2⟩
  case round =>
    obtain ⟨x, hx, rfl, rfl, H4, X4, R4⟩ := hrel
    clear H2 X2 R2
    have ew : IntKind.i64.wrap ((x : Int) + 1) = (x : Int) + 1 := by
      have := HLl.out
      rw [IntWalk.i64_in] <;> omega
    by_cases hlt : x < L.length
    · have HS := Lib.hid (reps_take s.cs ch L hlt)
      have HN1 := Lib.hid (reps_length s.cs ch (L.take x))
      have HLx := Lib.hid (HLt.out _ (show L.getD x 0 ∈ L by rw [List.getD_eq_getElem?_getD, List.getElem?_eq_getElem hlt]; exact List.getElem_mem hlt))
      generalize reps s.cs ch (L.take x) = ds at *
      obtain ⟨g', hg', _, hgl, hcell, _⟩ := R4.out.cell hlt
      rw [Nat.zero_add] at hcell
      subst hg'
      generalize L.getD x 0 = y at *
      have HY := Lib.hid (show y < ds.length by rw [HN1.out]; exact HLx.out)
      have hi0 : (0 : Int) ≤ (x : Int) := by omega
      have hi1 : (x : Int) < (L.length : Int) := by omega
      have hj0 : (0 : Int) ≤ (y : Int) := by omega
      have hj1 : (y : Int) < (ds.length : Int) := by have := HY.out; omega
      obtain ⟨c0, c1, c2, c3, c4, c5, c6⟩ := H4.out.cells
      simp only at c2
      obtain ⟨yf, yp, yn, ys, ym, yc, ey⟩ := c_eta (ds.getD y noC)
      obtain ⟨⟨p0, p1, p2, p3, p4, p5⟩, q0, q1, q2, q3, q4, q5⟩ := H4.out.spot HY.out ey
      obtain ⟨x0, x1, x2, x3, x4, x5, x6, x7⟩ := cells8 X4.out
      have SO := H4.out.own.set HY.out (chr ch)
      have H5 := Lib.hid (H4.out.set HY.out (chr ch))
      have X5 := Lib.hid (blk_g X4.out SO.2 (by intro e; injection e with e; have := HXB.out.2; omega))
      have R5 := Lib.hid (show OwnInts _ w1.heap.size (.slice (some ⟨g', 0, none⟩) L.length k) L from World.ownsRow.kept R4.out SO.2 (.inr (fun e => by have h1 : w1.heap.size ≤ g' := HVB.out _ rfl; have h2 : g' = g := Option.some.inj e; have := HW1.out.2.1; omega)))
      simp only [chr] at H5 X5 R5
      clear SO ey
      go_upto_region 20 with (fail)
      go_region
      clear c0 c1 c2 c3 c4 c5 c6 p0 p1 p2 p3 p4 p5 q0 q1 q2 q3 q4 q5 x0 x1 x2 x3 x4 x5 x6 x7 H4 X4 R4 hcell hgl
      generalize (((((wr.setCell _ _).setCell _ _).setCell _ _).setCell _ _).setCell _ _).setCell _ _ = wt at *
      have HD := (Below.refl wt.heap.size wt).drew
      have H6 := Lib.hid (H5.out.below HD)
      have X6 := Lib.hid (blk X5.out HD)
      have R6 := Lib.hid (R5.out.below HD)
      clear HD H5 X5 R5
      generalize wt.drew = wd at *
      go_wp2_with fail
      go_roundg (L.length + 1 - (x + 1))
      case measure => omega
      case rel => exact ⟨x + 1, by omega, rfl, rfl, by rw [HS.out]; exact H6, X6, R6⟩
    · obtain rfl : x = L.length := by omega
      have hn0 : ¬ (L.length : Int) < (L.length : Int) := by omega
      rw [List.take_length] at *
      obtain ⟨c0, c1, c2, c3, c4, c5, c6⟩ := H4.out.cells
      obtain ⟨x0, x1, x2, x3, x4, x5, x6, x7⟩ := cells8 X4.out
      have f6 := H4.out.free 6
      have HR := Lib.hid (H4.out.at b)
      clear hlt H4 X4 R4
      go_wp2_with fail
      go_end0
      exact ⟨rfl, by rw [HE.out]; exact HR.out⟩
set_option maxRecDepth 100000 in
set_option maxHeartbeats 8000000 in
theorem do_7 (w0 : World) (B g vc : Nat) (s : S) (a : Nat) (ta : Option Addr) (tn tc : Nat) (t : List Nat) (p n : Bool) (q : Int) (m : Bool) (b : Nat) (ch : Nat) (w : World) (h : Brush w0 w B g vc s a) (ha : a < s.cs.length) (hl : s.cs.length < 10000) (hb : b < s.cs.length) (h8 : Sound s.cs) (hr : AllR s.cs) (hc0 : ch = 0) :
    Calls Tryz.prog 47 #[.pointer (some ⟨B, 0, none⟩), .agg #[.int .i64 7, .slice ta tn tc, .bool p, .bool n, .int .i64 q, .bool m, .int .i64 (b : Int), .int .u8 (ch : Int)]] w fun e w' => e = .returned (.tuple #[]) ∧ Brush w0 w' B g vc (pone s a ⟨7, t, p, n, q, m, b, ch⟩).1 (pone s a ⟨7, t, p, n, q, m, b, ch⟩).2 := by
  have HLt := Lib.hid (fun x (hx : x ∈ (span s.cs.length (a : Int) (b : Int)).filter (open_ s.cs)) => mem_span (z := s.cs.length) (by omega) (List.mem_filter.1 hx).1)
  have HLl := Lib.hid (show ((span s.cs.length (a : Int) (b : Int)).filter (open_ s.cs)).length < 10000 by
    have h1 := List.length_filter_le (open_ s.cs) (span s.cs.length (a : Int) (b : Int))
    rw [span_length] at h1
    have := spanLen_pos (z := s.cs.length) (by omega) (a : Int) (b : Int)
    omega)
  have HF := Lib.hid fun W (H : Brush w0 W B g vc s a) => fil_7 w0 B g vc s a b ta tn tc p n q m ch W H ha hb hl h8
  have HE := Lib.hid (show pone s a ⟨7, t, p, n, q, m, b, ch⟩ = ({ s with cs := reps s.cs ch ((span s.cs.length (a : Int) (b : Int)).filter (open_ s.cs)) }, b) by subst hc0; simp [pone, wipes_right hr])
  clear hr hc0
  generalize (span s.cs.length (a : Int) (b : Int)).filter (open_ s.cs) = L at *
  have HX := Lib.hid (heap_alloc_new w (.cells #[.int .i64 7, .slice ta tn tc, .bool p, .bool n, .int .i64 q, .bool m, .int .i64 (b : Int), .int .u8 (ch : Int)] 76))
  have H1 := Lib.hid (h.below (al_any w (.cells #[.int .i64 7, .slice ta tn tc, .bool p, .bool n, .int .i64 q, .bool m, .int .i64 (b : Int), .int .u8 (ch : Int)] 76)))
  have HL := Lib.hid hl
  have HA := Lib.hid ha
  have HXB := Lib.hid (show B < w.heap.size ∧ g < w.heap.size from ⟨h.lt, (own_blocks h.own _ rfl).2⟩)
  clear h ha hl hb
  go_enter Tryz.func47, Tryz.ntmps47
  go_upto_region 1 with (fail)
  generalize w.alloc _ = w1 at *
  have hX := there_lt HX.out
  generalize w.heap.size = X at *
  obtain ⟨x0, x1, x2, x3, x4, x5, x6, x7⟩ := cells8 HX.out
  go_wp2_with fail
  with_reducible refine (HF.out _ H1.out).mono ?_
  rintro e we ⟨v, rfl, ho, hb⟩
  obtain ⟨va, k, rfl⟩ := ho.form
  have R2 := Lib.hid (ho.mono (Nat.le_refl w1.heap.size))
  have H2 := Lib.hid (H1.out.below hb)
  have X2 := Lib.hid (blk HX.out hb)
  have HVB := Lib.hid (fun y (hy : va = some y) => ((own_blocks ho) y hy).1)
  clear ho hb H1 HX HF x0 x1 x2 x3 x4 x5 x6 x7
  have HW1 := Lib.hid (show B < w1.heap.size ∧ g < w1.heap.size ∧ X < w1.heap.size from ⟨Nat.lt_trans HXB.out.1 hX, Nat.lt_trans HXB.out.2 hX, hX⟩)
  go_wp2_with fail
  go_loopg [57] (L.length + 1) (fun mm ii wr => ∃ x : Nat, x ≤ L.length ∧ mm = L.length + 1 - x ∧ ii = .int .i64 x ∧ Hid (Brush w0 wr B g vc { s with cs := reps s.cs ch (L.take x) } a) ∧ Hid (wr.heap[X]? = some (.cells #[.int .i64 7, .slice ta tn tc, .bool p, .bool n, .int .i64 q, .bool m, .int .i64 (b : Int), .int .u8 (ch : Int)] 76 (0, 0))) ∧ Hid (OwnInts wr w1.heap.size (.slice va L.length k) L))
  case atStart => exact ⟨0, Nat.zero_le _, rfl, rfl, H2, X2, R2⟩
  case round =>
    obtain ⟨x, hx, rfl, rfl, H4, X4, R4⟩ := hrel
    clear H2 X2 R2
    have ew : IntKind.i64.wrap ((x : Int) + 1) = (x : Int) + 1 := by
      have := HLl.out
      rw [IntWalk.i64_in] <;> omega
    by_cases hlt : x < L.length
    · have HS := Lib.hid (reps_take s.cs ch L hlt)
      have HN1 := Lib.hid (reps_length s.cs ch (L.take x))
      have HLx := Lib.hid (HLt.out _ (show L.getD x 0 ∈ L by rw [List.getD_eq_getElem?_getD, List.getElem?_eq_getElem hlt]; exact List.getElem_mem hlt))
      generalize reps s.cs ch (L.take x) = ds at *
      obtain ⟨g', hg', _, hgl, hcell, _⟩ := R4.out.cell hlt
      rw [Nat.zero_add] at hcell
      subst hg'
      generalize L.getD x 0 = y at *
      have HY := Lib.hid (show y < ds.length by rw [HN1.out]; exact HLx.out)
      have hi0 : (0 : Int) ≤ (x : Int) := by omega
      have hi1 : (x : Int) < (L.length : Int) := by omega
      have hj0 : (0 : Int) ≤ (y : Int) := by omega
      have hj1 : (y : Int) < (ds.length : Int) := by have := HY.out; omega
      obtain ⟨c0, c1, c2, c3, c4, c5, c6⟩ := H4.out.cells
      simp only at c2
      obtain ⟨yf, yp, yn, ys, ym, yc, ey⟩ := c_eta (ds.getD y noC)
      obtain ⟨⟨p0, p1, p2, p3, p4, p5⟩, q0, q1, q2, q3, q4, q5⟩ := H4.out.spot HY.out ey
      obtain ⟨x0, x1, x2, x3, x4, x5, x6, x7⟩ := cells8 X4.out
      have SO := H4.out.own.set HY.out (chr ch)
      have H5 := Lib.hid (H4.out.set HY.out (chr ch))
      have X5 := Lib.hid (blk_g X4.out SO.2 (by intro e; injection e with e; have := HXB.out.2; omega))
      have R5 := Lib.hid (show OwnInts _ w1.heap.size (.slice (some ⟨g', 0, none⟩) L.length k) L from World.ownsRow.kept R4.out SO.2 (.inr (fun e => by have h1 : w1.heap.size ≤ g' := HVB.out _ rfl; have h2 : g' = g := Option.some.inj e; have := HW1.out.2.1; omega)))
      simp only [chr] at H5 X5 R5
      clear SO ey
      go_upto_region 20 with (fail)
      go_region
      clear c0 c1 c2 c3 c4 c5 c6 p0 p1 p2 p3 p4 p5 q0 q1 q2 q3 q4 q5 x0 x1 x2 x3 x4 x5 x6 x7 H4 X4 R4 hcell hgl
      generalize (((((wr.setCell _ _).setCell _ _).setCell _ _).setCell _ _).setCell _ _).setCell _ _ = wt at *
      have HD := (Below.refl wt.heap.size wt).drew
      have H6 := Lib.hid (H5.out.below HD)
      have X6 := Lib.hid (blk X5.out HD)
      have R6 := Lib.hid (R5.out.below HD)
      clear HD H5 X5 R5
      generalize wt.drew = wd at *
      go_wp2_with fail
      go_roundg (L.length + 1 - (x + 1))
      case measure => omega
      case rel => exact ⟨x + 1, by omega, rfl, rfl, by rw [HS.out]; exact H6, X6, R6⟩
    · obtain rfl : x = L.length := by omega
      have hn0 : ¬ (L.length : Int) < (L.length : Int) := by omega
      rw [List.take_length] at *
      obtain ⟨c0, c1, c2, c3, c4, c5, c6⟩ := H4.out.cells
      obtain ⟨x0, x1, x2, x3, x4, x5, x6, x7⟩ := cells8 X4.out
      have f6 := H4.out.free 6
      have HR := Lib.hid (H4.out.at b)
      clear hlt H4 X4 R4
      go_wp2_with fail
      go_end0
      exact ⟨rfl, by rw [HE.out]; exact HR.out⟩
/-- A right order done. -/
theorem do_any (w0 : World) (B g vc : Nat) (s : S) (a : Nat) (o : Go.Proofs.YtpdlpmbjhopnnaaGreatDoor.Ord.O) (ta : Option Addr) (tn tc : Nat) (w : World) (h : Brush w0 w B g vc s a) (ha : a < s.cs.length) (hl : s.cs.length < 10000) (h8 : Sound s.cs) (hr : AllR s.cs) (hw : Go.Proofs.YtpdlpmbjhopnnaaGreatDoor.Ord.wrong o s.cs.length = 0) (hB : BytesIn w0 (.slice ta tn tc) o.t) (htl : o.t.length < 1000000) :
    Calls Tryz.prog 47 #[.pointer (some ⟨B, 0, none⟩), .agg #[.int .i64 o.k, .slice ta tn tc, .bool o.p, .bool o.n, .int .i64 o.s, .bool o.m, .int .i64 o.a, .int .u8 (o.c : Int)]] w fun e w' => e = .returned (.tuple #[]) ∧ Brush w0 w' B g vc (pone s a o).1 (pone s a o).2 := by
  rcases Go.Proofs.YtpdlpmbjhopnnaaGreatDoor.Ord.right_cases hw with ⟨t, rfl, h0, _⟩ | ⟨p, n, m, q, rfl, _⟩ | ⟨b, rfl, hb⟩ | rfl | rfl | ⟨b, c, rfl, hb, _⟩ | ⟨b, rfl, hb⟩
  · exact do_1 w0 B g vc s a ta tn tc t false false 0 false 0 0 w h ha hl hB htl h0
  · exact do_2 w0 B g vc s a ta tn tc [] p n q m 0 0 w h ha hl
  · exact do_3 w0 B g vc s a ta tn tc [] false false 0 false b 0 w h ha hl
  · exact do_4 w0 B g vc s a ta tn tc [] false false 0 false 0 0 w h ha hl
  · exact do_5 w0 B g vc s a ta tn tc [] false false 0 false 0 0 w h ha hl h8
  · exact do_6 w0 B g vc s a ta tn tc [] false false 0 false b c w h ha hl hb
  · exact do_7 w0 B g vc s a ta tn tc [] false false 0 false b 0 w h ha hl hb h8 hr rfl
end Pnt
end Go.Proofs.YtpdlpmbjhopnnaaGreatDoor
/- Shared by One and All of package paint. -/
namespace Go.Proofs.YtpdlpmbjhopnnaaGreatDoor
open Go.RowKit Sha Six Apd Cut Err Att Grd Fld
set_option linter.unusedVariables false
namespace Pnt
theorem results_cell_2 {fn : Func} {p u1 u2 : Tmp} {ty : TypeId} (h : fn.results = #[.cell p ty, .tmp u1, .tmp u2]) (tmps : Array Value) (P : Program) (w : World) (g : Nat) (cs : Array Value)
    (hp : tmps.getD p undef = .pointer (some ⟨g, 0, none⟩)) (hl : (loadVar ty ⟨g, 0, none⟩).run P w = .ok (.agg cs) w) (x1 x2 : Value) (h1 : tmps.getD u1 undef = x1) (h2 : tmps.getD u2 undef = x2) :
    (results fn tmps).run P w = .ok (.tuple #[.agg cs, x1, x2]) w := by
  subst h1 h2
  have hp' : tmps[p]?.getD undef = .pointer (some ⟨g, 0, none⟩) := by simpa using hp
  simp [results, h]
  simp [hp', asAddr, hl]
theorem errv_ne {c : Nat} (h : c ≠ 0) : Go.Proofs.YtpdlpmbjhopnnaaGreatDoor.Ord.errv c = .iface 71 (.int .i64 (c : Int)) := if_neg h
theorem held14 {w1 w' : World} {X Y : Nat} {t u : TypeId} {a0 a1 a2 a3 a4 a5 b0 b1 b2 b3 b4 b5 b6 b7 : Value} (h : w1.heap[X]? = some (.cells #[a0, a1, a2, a3, a4, a5] t (0, 0))) (k : w1.heap[Y]? = some (.cells #[b0, b1, b2, b3, b4, b5, b6, b7] u (0, 0))) (hb : Below w1.heap.size w1 w') :
    Below w1.heap.size w1 w' ∧ w'.cell? ⟨X, 0, none⟩ = some (a0) ∧ w'.cell? ⟨X, 1, none⟩ = some (a1) ∧ w'.cell? ⟨X, 2, none⟩ = some (a2) ∧ w'.cell? ⟨X, 3, none⟩ = some (a3) ∧ w'.cell? ⟨X, 4, none⟩ = some (a4) ∧ w'.cell? ⟨X, 5, none⟩ = some (a5) ∧ w'.cell? ⟨Y, 0, none⟩ = some (b0) ∧ w'.cell? ⟨Y, 1, none⟩ = some (b1) ∧ w'.cell? ⟨Y, 2, none⟩ = some (b2) ∧ w'.cell? ⟨Y, 3, none⟩ = some (b3) ∧ w'.cell? ⟨Y, 4, none⟩ = some (b4) ∧ w'.cell? ⟨Y, 5, none⟩ = some (b5) ∧ w'.cell? ⟨Y, 6, none⟩ = some (b6) ∧ w'.cell? ⟨Y, 7, none⟩ = some (b7) := by
  obtain ⟨h0, h1, h2, h3, h4, h5⟩ := cells6 (blk h hb)
  obtain ⟨k0, k1, k2, k3, k4, k5, k6, k7⟩ := cells8 (blk k hb)
  exact ⟨hb, h0, h1, h2, h3, h4, h5, k0, k1, k2, k3, k4, k5, k6, k7⟩
theorem some_sized {s : S} (h : sright s = true) : 1 ≤ s.cs.length ∧ s.cs.length ≤ 16383 := by
  obtain ⟨h1, h2, h3, h4, _⟩ := sright_parts h
  have := sized_le h1
  omega
/-- Where the cells of a screen that isn't empty lie. -/
theorem celsIn_lt {w : World} {ad : Option Addr} {k a : Nat} {cs : List C} (h : CelsIn w (.slice ad cs.length k) cs) (ha : a < cs.length) : ∀ y, ad = some y → y.block < w.heap.size := fun y hy => by
  obtain ⟨f, p, n, q, m, ch, ec⟩ := c_eta (cs.getD a noC)
  obtain ⟨b1, o1, e1, g0, _⟩ := h.cells ha ec
  rw [hy] at e1
  injection e1 with e1
  rw [e1]
  exact Str.cell_lt g0
end Pnt
end Go.Proofs.YtpdlpmbjhopnnaaGreatDoor
/- Package paint's All: all_ok, all_no (written by tools/gen_pnt_code.py). -/
namespace Go.Proofs.YtpdlpmbjhopnnaaGreatDoor
open Go.RowKit Sha Six Apd Cut Err Att Grd Fld
set_option linter.unusedVariables false
namespace Pnt
set_option maxRecDepth 100000 in
set_option maxHeartbeats 8000000 in
theorem all_ok (s : S) (ad : Option Addr) (k a : Nat) (al : Option Addr) (nl cl : Nat) (os : List Go.Proofs.YtpdlpmbjhopnnaaGreatDoor.Ord.O) (w : World) (h : CelsIn w (.slice ad s.cs.length k) s.cs) (hr : sright s = true) (h8 : Sound s.cs) (hl : s.cs.length < 10000) (ha : a < s.cs.length) (hO : Str.OrdsIn w 0 (.slice al nl cl) os) (ho8 : Str.Sound os) (hol : os.length < 10000) (hw : pwrong s.cs.length os = none) :
    Calls Tryz.prog 18 #[.agg #[.int .i64 s.rows, .int .i64 s.cols, .slice ad s.cs.length k, .int .i64 s.cur, .bool s.lk, .bool s.ins], .int .i64 (a : Int), .slice al nl cl] w fun e w' => Gave w w' (pall (s, a) os) e := by
  obtain rfl := hO.len
  have HB := Lib.hid (kept_trans (al_any w (.cells #[.int .i64 s.rows, .int .i64 s.cols, .slice ad s.cs.length k, .int .i64 s.cur, .bool s.lk, .bool s.ins] 24)) (al_any _ (.cells #[.int .i64 0, .int .i64 0, .slice none 0 0, .int .i64 0, .bool false, .bool false] 24)))
  have HX := Lib.hid (heap_alloc2_old w (.cells #[.int .i64 s.rows, .int .i64 s.cols, .slice ad s.cs.length k, .int .i64 s.cur, .bool s.lk, .bool s.ins] 24) (.cells #[.int .i64 0, .int .i64 0, .slice none 0 0, .int .i64 0, .bool false, .bool false] 24))
  have HZ := Lib.hid (heap_alloc2_new w (.cells #[.int .i64 s.rows, .int .i64 s.cols, .slice ad s.cs.length k, .int .i64 s.cur, .bool s.lk, .bool s.ins] 24) (.cells #[.int .i64 0, .int .i64 0, .slice none 0 0, .int .i64 0, .bool false, .bool false] 24))
  have HI := Lib.hid h
  have HO := Lib.hid hO
  have HO8 := Lib.hid ho8
  have HOL := Lib.hid hol
  have HZZ := Lib.hid (some_sized hr)
  have HNE := Lib.hid (celsIn_lt h ha)
  have HS := Lib.hid fun W => size_any s.rows s.cols ad s.cs.length k s.cur s.lk s.ins W
  have HTK := Lib.hid fun W (hb : Below w.heap.size w W) => take_any s ad k a W (h.below hb) ha hl
  have HW := Lib.hid (pwrong_none hw)
  have HR0 := Lib.hid hr
  have H8 := Lib.hid h8
  have HL := Lib.hid hl
  have HA := Lib.hid ha
  clear h hr h8 hl ha hO ho8 hol hw
  go_enter Tryz.func18, Tryz.ntmps18
  go_upto_region 1 with (fail)
  generalize (w.alloc _).alloc _ = w1 at *
  go_wp2_with fail
  go_loopg [17] (os.length + 1) (fun mm ii wr => ∃ x : Nat, x ≤ os.length ∧ mm = os.length + 1 - x ∧ ii = .int .i64 x ∧ Hid (wr.heap[w.heap.size]? = some (.cells #[.int .i64 s.rows, .int .i64 s.cols, .slice ad s.cs.length k, .int .i64 s.cur, .bool s.lk, .bool s.ins] 24 (0, 0))) ∧ Hid (wr.heap[w.heap.size + 1]? = some (.cells #[.int .i64 0, .int .i64 0, .slice none 0 0, .int .i64 0, .bool false, .bool false] 24 (0, 0))) ∧ Hid (Below w.heap.size w wr))
  case atStart => exact ⟨0, Nat.zero_le _, rfl, rfl, HX, HZ, HB⟩
  case round =>
    obtain ⟨x, hx, rfl, rfl, X4, Z4, K4⟩ := hrel
    clear HX HZ HB
    have ew : IntKind.i64.wrap ((x : Int) + 1) = (x : Int) + 1 := by
      have := HOL.out
      rw [IntWalk.i64_in] <;> omega
    by_cases hlt : x < os.length
    · have hwo : Go.Proofs.YtpdlpmbjhopnnaaGreatDoor.Ord.wrong (os.getD x Go.Proofs.YtpdlpmbjhopnnaaGreatDoor.Ord.none_) s.cs.length = 0 := by
        rw [List.getD_eq_getElem?_getD, List.getElem?_eq_getElem hlt]; exact HW.out _ (List.getElem_mem hlt)
      obtain ⟨h8t, htl, hc8⟩ := Str.sound_at HO8.out x
      obtain ⟨kk, tt, op, on_, oq, om, oa, oc, eo⟩ := Str.o_eta (os.getD x Go.Proofs.YtpdlpmbjhopnnaaGreatDoor.Ord.none_)
      obtain ⟨bo, oo, ta, tn, tc, rfl, o0, o1, o2, o3, o4, o5, o6, o7, hBt, hnt⟩ := (HO.out.below K4.out).cells hlt eo
      rw [eo] at hwo h8t htl hc8
      simp only at h8t htl hc8
      have hi0 : (0 : Int) ≤ (x : Int) := by omega
      have hi1 : (x : Int) < (os.length : Int) := by omega
      have HR := Lib.hid fun W (hb : Below wr.heap.size wr W) => Go.Proofs.YtpdlpmbjhopnnaaGreatDoor.Ord.right_any ⟨kk, tt, op, on_, oq, om, oa, oc⟩ ta tn tc s.cs.length W (bytes_below hBt hb) h8t htl hc8 HZZ.out.1 HZZ.out.2
      rw [hwo, Go.Proofs.YtpdlpmbjhopnnaaGreatDoor.Ord.errv_0] at HR
      simp only at HR
      have EO := Lib.hid eo
      have HAL := al_any wr (.cells #[.int .i64 kk, .slice ta tn tc, .bool op, .bool on_, .int .i64 oq, .bool om, .int .i64 oa, .int .u8 (oc : Int)] 76)
      have Y5 := Lib.hid (heap_alloc_new wr (.cells #[.int .i64 kk, .slice ta tn tc, .bool op, .bool on_, .int .i64 oq, .bool om, .int .i64 oa, .int .u8 (oc : Int)] 76))
      have X5 := Lib.hid (blk X4.out HAL)
      have Z5 := Lib.hid (blk Z4.out HAL)
      have K5 := kept_hid K4 HAL
      have HL5 := Lib.hid HAL
      clear HAL eo hwo hBt hnt h8t htl hc8
      go_upto_region 4 with (fail)
      clear o0 o1 o2 o3 o4 o5 o6 o7 X4 Z4 K4
      generalize wr.alloc _ = w5 at *
      generalize hY : wr.heap.size = Y at *
      replace hY := Lib.hid hY
      obtain ⟨c0, c1, c2, c3, c4, c5⟩ := cells6 X5.out
      obtain ⟨d0, d1, d2, d3, d4, d5, d6, d7⟩ := cells8 Y5.out
      go_region_held3 (fun w' => Below w5.heap.size w5 w' ∧ w'.cell? ⟨w.heap.size, 0, none⟩ = some (.int .i64 s.rows) ∧ w'.cell? ⟨w.heap.size, 1, none⟩ = some (.int .i64 s.cols) ∧ w'.cell? ⟨w.heap.size, 2, none⟩ = some (.slice ad s.cs.length k) ∧ w'.cell? ⟨w.heap.size, 3, none⟩ = some (.int .i64 s.cur) ∧ w'.cell? ⟨w.heap.size, 4, none⟩ = some (.bool s.lk) ∧ w'.cell? ⟨w.heap.size, 5, none⟩ = some (.bool s.ins) ∧ w'.cell? ⟨Y, 0, none⟩ = some (.int .i64 kk) ∧ w'.cell? ⟨Y, 1, none⟩ = some (.slice ta tn tc) ∧ w'.cell? ⟨Y, 2, none⟩ = some (.bool op) ∧ w'.cell? ⟨Y, 3, none⟩ = some (.bool on_) ∧ w'.cell? ⟨Y, 4, none⟩ = some (.int .i64 oq) ∧ w'.cell? ⟨Y, 5, none⟩ = some (.bool om) ∧ w'.cell? ⟨Y, 6, none⟩ = some (.int .i64 oa) ∧ w'.cell? ⟨Y, 7, none⟩ = some (.int .u8 (oc : Int)))
        (first | exact held14 X5.out Y5.out (Below.refl _ _).drew | exact held14 X5.out Y5.out (Below.refl _ _) | exact held14 X5.out Y5.out (kept_trans (And.left (by assumption)) hb))
        (first
          | (go_at_call 28; refine (HS.out _).mono ?_; rintro e wa ⟨rfl, hb⟩)
          | (go_at_call 45; have hT := And.left (by assumption : Below w5.heap.size w5 _ ∧ _); refine (HR.out _ (HL5.out.trans (hT.mono (Nat.le_of_lt (there_lt Y5.out))))).mono ?_; rintro e w6 ⟨rfl, hb⟩))
      have hS := (by assumption : Below w5.heap.size w5 w6 ∧ _).1
      have K6 := kept_hid K5 hS
      have X6 := Lib.hid (blk X5.out hS)
      have Z6 := Lib.hid (blk Z5.out hS)
      have S2 := (by assumption : Below w5.heap.size w5 w6 ∧ _)
      clear S2 hS hT hb HL5 X5 Y5 Z5 K5 HR c0 c1 c2 c3 c4 c5 d0 d1 d2 d3 d4 d5 d6 d7
      go_wp2_with fail
      go_roundg (os.length + 1 - (x + 1))
      case measure => omega
      case rel => exact ⟨x + 1, by omega, rfl, rfl, X6, Z6, K6⟩
    · obtain rfl : x = os.length := by omega
      have hn0 : ¬ (os.length : Int) < (os.length : Int) := by omega
      obtain ⟨c0, c1, c2, c3, c4, c5⟩ := cells6 X4.out
      clear hlt
      go_wp2_with fail
      with_reducible refine (HTK.out _ K4.out).mono ?_
      rintro e w3 ⟨B, g, vc, rfl, hBr⟩
      have H3 := Lib.hid hBr
      have HZ4 := Lib.hid (there_lt Z4.out)
      clear hBr HTK X4 HS c0 c1 c2 c3 c4 c5
      obtain ⟨wo, rfl⟩ : ∃ wo : World, wo = wr := ⟨_, rfl⟩
      go_wp2_with fail
      go_loopg [41] (os.length + 1) (fun mm ii wr => ∃ x : Nat, x ≤ os.length ∧ mm = os.length + 1 - x ∧ ii = .int .i64 x ∧ Hid (Brush wo wr B g vc (pall (s, a) (os.take x)).1 (pall (s, a) (os.take x)).2))
      case atStart => exact ⟨0, Nat.zero_le _, rfl, rfl, H3⟩
      case round =>
        obtain ⟨x, hx, rfl, rfl, H5⟩ := hrel
        clear H3
        have ew : IntKind.i64.wrap ((x : Int) + 1) = (x : Int) + 1 := by
          have := HOL.out
          rw [IntWalk.i64_in] <;> omega
        by_cases hlt : x < os.length
        · have HST := Lib.hid (pall_take (s, a) os hlt)
          have HWT := Lib.hid (show ∀ o ∈ os.take x, Go.Proofs.YtpdlpmbjhopnnaaGreatDoor.Ord.wrong o s.cs.length = 0 from fun o ho => HW.out o (List.mem_of_mem_take ho))
          have HLN := Lib.hid (pall_length (s, a) (os.take x))
          have HLT := Lib.hid (pall_lt (os.take x) (s, a) HA.out HWT.out)
          have HRT := Lib.hid (pall_right (os.take x) (s, a) HR0.out HA.out HWT.out)
          have HSD := Lib.hid (pall_sound (os.take x) (s, a) H8.out fun o ho => ⟨(HO8.out o (List.mem_of_mem_take ho)).1, (HO8.out o (List.mem_of_mem_take ho)).2.2⟩)
          have hwo : Go.Proofs.YtpdlpmbjhopnnaaGreatDoor.Ord.wrong (os.getD x Go.Proofs.YtpdlpmbjhopnnaaGreatDoor.Ord.none_) s.cs.length = 0 := by
            rw [List.getD_eq_getElem?_getD, List.getElem?_eq_getElem hlt]; exact HW.out _ (List.getElem_mem hlt)
          obtain ⟨h8t, htl, hc8⟩ := Str.sound_at HO8.out x
          generalize pall (s, a) (os.take x) = st at *
          obtain ⟨s', a'⟩ := st
          simp only at H5 HLN HLT HRT HSD HST
          obtain ⟨kk, tt, op, on_, oq, om, oa, oc, eo⟩ := Str.o_eta (os.getD x Go.Proofs.YtpdlpmbjhopnnaaGreatDoor.Ord.none_)
          obtain ⟨bo, oo, ta, tn, tc, rfl, o0, o1, o2, o3, o4, o5, o6, o7, hBt, hnt⟩ := (HO.out.below K4.out).cells hlt eo
          have hB0 := hBt
          have hlow := H5.out.kept
          have q0 := (hlow.cell (p := ⟨bo, oo + x * 8, none⟩) (Str.cell_lt o0)).trans o0
          have q1 := (hlow.cell (p := ⟨bo, oo + x * 8 + 1, none⟩) (Str.cell_lt o1)).trans o1
          have q2 := (hlow.cell (p := ⟨bo, oo + x * 8 + 2, none⟩) (Str.cell_lt o2)).trans o2
          have q3 := (hlow.cell (p := ⟨bo, oo + x * 8 + 3, none⟩) (Str.cell_lt o3)).trans o3
          have q4 := (hlow.cell (p := ⟨bo, oo + x * 8 + 4, none⟩) (Str.cell_lt o4)).trans o4
          have q5 := (hlow.cell (p := ⟨bo, oo + x * 8 + 5, none⟩) (Str.cell_lt o5)).trans o5
          have q6 := (hlow.cell (p := ⟨bo, oo + x * 8 + 6, none⟩) (Str.cell_lt o6)).trans o6
          have q7 := (hlow.cell (p := ⟨bo, oo + x * 8 + 7, none⟩) (Str.cell_lt o7)).trans o7
          rw [eo] at hwo h8t htl hc8 HST
          simp only at h8t htl hc8
          have hi0 : (0 : Int) ≤ (x : Int) := by omega
          have hi1 : (x : Int) < (os.length : Int) := by omega
          have HDO := Lib.hid fun (W : World) (H : Brush wo W B g vc s' a') => do_any wo B g vc s' a' ⟨kk, tt, op, on_, oq, om, oa, oc⟩ ta tn tc W H (by rw [HLN.out]; exact HLT.out) (by rw [HLN.out]; exact HL.out) HSD.out (sright_parts HRT.out).2.2.2.2 (by rw [HLN.out]; exact hwo) hB0 htl
          simp only at HDO
          have H6 := Lib.hid (H5.out.below (al_any wr (.cells #[.int .i64 kk, .slice ta tn tc, .bool op, .bool on_, .int .i64 oq, .bool om, .int .i64 oa, .int .u8 (oc : Int)] 76)))
          have Y6 := Lib.hid (heap_alloc_new wr (.cells #[.int .i64 kk, .slice ta tn tc, .bool op, .bool on_, .int .i64 oq, .bool om, .int .i64 oa, .int .u8 (oc : Int)] 76))
          clear hB0 hlow hBt hnt o0 o1 o2 o3 o4 o5 o6 o7 eo hwo h8t htl hc8 H5
          go_upto_region 12 with (fail)
          clear q0 q1 q2 q3 q4 q5 q6 q7
          generalize wr.alloc _ = w6 at *
          generalize wr.heap.size = Y at *
          obtain ⟨d0, d1, d2, d3, d4, d5, d6, d7⟩ := cells8 Y6.out
          go_wp2_with fail
          with_reducible refine (HDO.out _ H6.out).mono ?_
          rintro e w7 ⟨rfl, hBr⟩
          replace hBr := Lib.hid hBr
          clear HDO H6 Y6 d0 d1 d2 d3 d4 d5 d6 d7
          go_wp2_with fail
          go_roundg (os.length + 1 - (x + 1))
          case measure => omega
          case rel => exact ⟨x + 1, by omega, rfl, rfl, by rw [HST.out]; exact hBr⟩
        · obtain rfl : x = os.length := by omega
          have hn0 : ¬ (os.length : Int) < (os.length : Int) := by omega
          rw [List.take_length] at *
          clear hlt
          generalize hpr : pall (s, a) os = r at H5
          replace hpr := Lib.hid hpr
          obtain ⟨s', a'⟩ := r
          simp only at H5
          have K5 := kept_hid K4 H5.out.kept
          have Z5 := Lib.hid (blk Z4.out H5.out.kept)
          have HGE := Lib.hid H5.out.ge
          obtain ⟨c0, c1, c2, c3, c4, c5, c6⟩ := H5.out.cells
          obtain ⟨z0, z1, z2, z3, z4, z5⟩ := cells6 Z5.out
          obtain ⟨f0, f1, f2, f3, f4, f5⟩ := free6 Z5.out
          have SF := Lib.hid (over6 wr (w.heap.size + 1) _ _ _ _ _ _ _ (.int .i64 s'.rows) (.int .i64 s'.cols) (.slice (some ⟨g, 0, none⟩) s'.cs.length vc) (.int .i64 s'.cur) (.bool s'.lk) (.bool s'.ins) Z5.out)
          go_upto_region 14 with (fail)
          go_region
          have O9 := Lib.hid (OwnCels.away H5.out.own SF.out.2 (by have h1 := HGE.out; have h2 := HZ4.out; intro e; have h3 : g = w.heap.size + 1 := Option.some.inj e; omega))
          have O10 := Lib.hid (O9.out.mono K4.out.size)
          have K9 := Lib.hid (below_grown K5.out SF.out.2 (by omega))
          have Z9 := Lib.hid SF.out.1
          clear O9 SF H5 K5 Z5 K4 z0 z1 z2 z3 z4 z5 c0 c1 c2 c3 c4 c5 c6 f0 f1 f2 f3 f4 f5
          generalize (((((wr.setCell _ _).setCell _ _).setCell _ _).setCell _ _).setCell _ _).setCell _ _ = w9 at *
          have HDR := (Below.refl w9.heap.size w9).drew
          have O11 := Lib.hid (O10.out.below HDR)
          have K11 := kept_hid K9 HDR
          have Z11 := Lib.hid (blk Z9.out HDR)
          clear HDR O10 K9 Z9
          generalize w9.drew = wz at *
          go_wp2_with fail
          exact bodyPost_ret (v := .tuple #[.agg #[.int .i64 s'.rows, .int .i64 s'.cols, .slice (some ⟨g, 0, none⟩) s'.cs.length vc, .int .i64 s'.cur, .bool s'.lk, .bool s'.ins], .int .i64 (a' : Int), .nilIface]) (results_cell_2 rfl _ _ _ (w.heap.size + 1) _ rfl (run_loadVar_row _ (w.heap.size + 1) 24 24 _ (0, 0) _ Z11.out Tryz.underlying24 rfl (by kernel_rfl)) (.int .i64 (a' : Int)) .nilIface rfl rfl) rfl ⟨some ⟨g, 0, none⟩, vc, by rw [hpr.out], by rw [hpr.out]; exact O11.out, K11.out⟩
set_option maxRecDepth 100000 in
set_option maxHeartbeats 8000000 in
theorem all_no (s : S) (ad : Option Addr) (k a : Nat) (al : Option Addr) (nl cl : Nat) (os : List Go.Proofs.YtpdlpmbjhopnnaaGreatDoor.Ord.O) (i : Nat) (w : World) (h : CelsIn w (.slice ad s.cs.length k) s.cs) (hr : sright s = true) (h8 : Sound s.cs) (hl : s.cs.length < 10000) (ha : a < s.cs.length) (hO : Str.OrdsIn w 0 (.slice al nl cl) os) (ho8 : Str.Sound os) (hol : os.length < 10000) (hw : pwrong s.cs.length os = some i) :
    Calls Tryz.prog 18 #[.agg #[.int .i64 s.rows, .int .i64 s.cols, .slice ad s.cs.length k, .int .i64 s.cur, .bool s.lk, .bool s.ins], .int .i64 (a : Int), .slice al nl cl] w fun e w' => Refused w w' s a ((Go.Proofs.YtpdlpmbjhopnnaaGreatDoor.Ord.wrong (os.getD i Go.Proofs.YtpdlpmbjhopnnaaGreatDoor.Ord.none_) s.cs.length : Nat) : Int) (i : Int) e := by
  obtain rfl := hO.len
  have HB := Lib.hid (kept_trans (al_any w (.cells #[.int .i64 s.rows, .int .i64 s.cols, .slice ad s.cs.length k, .int .i64 s.cur, .bool s.lk, .bool s.ins] 24)) (al_any _ (.cells #[.int .i64 0, .int .i64 0, .slice none 0 0, .int .i64 0, .bool false, .bool false] 24)))
  have HX := Lib.hid (heap_alloc2_old w (.cells #[.int .i64 s.rows, .int .i64 s.cols, .slice ad s.cs.length k, .int .i64 s.cur, .bool s.lk, .bool s.ins] 24) (.cells #[.int .i64 0, .int .i64 0, .slice none 0 0, .int .i64 0, .bool false, .bool false] 24))
  have HZ := Lib.hid (heap_alloc2_new w (.cells #[.int .i64 s.rows, .int .i64 s.cols, .slice ad s.cs.length k, .int .i64 s.cur, .bool s.lk, .bool s.ins] 24) (.cells #[.int .i64 0, .int .i64 0, .slice none 0 0, .int .i64 0, .bool false, .bool false] 24))
  have HI := Lib.hid h
  have HO := Lib.hid hO
  have HO8 := Lib.hid ho8
  have HOL := Lib.hid hol
  have HZZ := Lib.hid (some_sized hr)
  have HNE := Lib.hid (celsIn_lt h ha)
  have HS := Lib.hid fun W => size_any s.rows s.cols ad s.cs.length k s.cur s.lk s.ins W
  have HW := Lib.hid (pwrong_some hw)
  clear h hr h8 hl ha hO ho8 hol hw
  go_enter Tryz.func18, Tryz.ntmps18
  go_upto_region 1 with (fail)
  generalize (w.alloc _).alloc _ = w1 at *
  go_wp2_with fail
  go_loopg [17] (os.length + 1) (fun mm ii wr => ∃ x : Nat, x ≤ i ∧ mm = os.length + 1 - x ∧ ii = .int .i64 x ∧ Hid (wr.heap[w.heap.size]? = some (.cells #[.int .i64 s.rows, .int .i64 s.cols, .slice ad s.cs.length k, .int .i64 s.cur, .bool s.lk, .bool s.ins] 24 (0, 0))) ∧ Hid (wr.heap[w.heap.size + 1]? = some (.cells #[.int .i64 0, .int .i64 0, .slice none 0 0, .int .i64 0, .bool false, .bool false] 24 (0, 0))) ∧ Hid (Below w.heap.size w wr))
  case atStart => exact ⟨0, Nat.zero_le _, rfl, rfl, HX, HZ, HB⟩
  case round =>
    obtain ⟨x, hx, rfl, rfl, X4, Z4, K4⟩ := hrel
    clear HX HZ HB
    have ew : IntKind.i64.wrap ((x : Int) + 1) = (x : Int) + 1 := by
      have := HOL.out; have := HW.out.1
      rw [IntWalk.i64_in] <;> omega
    have hlt : x < os.length := Nat.lt_of_le_of_lt hx HW.out.1
    by_cases hxi : x < i
    · have hwo : Go.Proofs.YtpdlpmbjhopnnaaGreatDoor.Ord.wrong (os.getD x Go.Proofs.YtpdlpmbjhopnnaaGreatDoor.Ord.none_) s.cs.length = 0 := HW.out.2.2 x hxi
      obtain ⟨h8t, htl, hc8⟩ := Str.sound_at HO8.out x
      obtain ⟨kk, tt, op, on_, oq, om, oa, oc, eo⟩ := Str.o_eta (os.getD x Go.Proofs.YtpdlpmbjhopnnaaGreatDoor.Ord.none_)
      obtain ⟨bo, oo, ta, tn, tc, rfl, o0, o1, o2, o3, o4, o5, o6, o7, hBt, hnt⟩ := (HO.out.below K4.out).cells hlt eo
      rw [eo] at hwo h8t htl hc8
      simp only at h8t htl hc8
      have hi0 : (0 : Int) ≤ (x : Int) := by omega
      have hi1 : (x : Int) < (os.length : Int) := by omega
      have HR := Lib.hid fun W (hb : Below wr.heap.size wr W) => Go.Proofs.YtpdlpmbjhopnnaaGreatDoor.Ord.right_any ⟨kk, tt, op, on_, oq, om, oa, oc⟩ ta tn tc s.cs.length W (bytes_below hBt hb) h8t htl hc8 HZZ.out.1 HZZ.out.2
      rw [hwo, Go.Proofs.YtpdlpmbjhopnnaaGreatDoor.Ord.errv_0] at HR
      simp only at HR
      have EO := Lib.hid eo
      have HAL := al_any wr (.cells #[.int .i64 kk, .slice ta tn tc, .bool op, .bool on_, .int .i64 oq, .bool om, .int .i64 oa, .int .u8 (oc : Int)] 76)
      have Y5 := Lib.hid (heap_alloc_new wr (.cells #[.int .i64 kk, .slice ta tn tc, .bool op, .bool on_, .int .i64 oq, .bool om, .int .i64 oa, .int .u8 (oc : Int)] 76))
      have X5 := Lib.hid (blk X4.out HAL)
      have Z5 := Lib.hid (blk Z4.out HAL)
      have K5 := kept_hid K4 HAL
      have HL5 := Lib.hid HAL
      clear HAL eo hwo hBt hnt h8t htl hc8
      go_upto_region 4 with (fail)
      clear o0 o1 o2 o3 o4 o5 o6 o7 X4 Z4 K4
      generalize wr.alloc _ = w5 at *
      generalize hY : wr.heap.size = Y at *
      replace hY := Lib.hid hY
      obtain ⟨c0, c1, c2, c3, c4, c5⟩ := cells6 X5.out
      obtain ⟨d0, d1, d2, d3, d4, d5, d6, d7⟩ := cells8 Y5.out
      go_region_held3 (fun w' => Below w5.heap.size w5 w' ∧ w'.cell? ⟨w.heap.size, 0, none⟩ = some (.int .i64 s.rows) ∧ w'.cell? ⟨w.heap.size, 1, none⟩ = some (.int .i64 s.cols) ∧ w'.cell? ⟨w.heap.size, 2, none⟩ = some (.slice ad s.cs.length k) ∧ w'.cell? ⟨w.heap.size, 3, none⟩ = some (.int .i64 s.cur) ∧ w'.cell? ⟨w.heap.size, 4, none⟩ = some (.bool s.lk) ∧ w'.cell? ⟨w.heap.size, 5, none⟩ = some (.bool s.ins) ∧ w'.cell? ⟨Y, 0, none⟩ = some (.int .i64 kk) ∧ w'.cell? ⟨Y, 1, none⟩ = some (.slice ta tn tc) ∧ w'.cell? ⟨Y, 2, none⟩ = some (.bool op) ∧ w'.cell? ⟨Y, 3, none⟩ = some (.bool on_) ∧ w'.cell? ⟨Y, 4, none⟩ = some (.int .i64 oq) ∧ w'.cell? ⟨Y, 5, none⟩ = some (.bool om) ∧ w'.cell? ⟨Y, 6, none⟩ = some (.int .i64 oa) ∧ w'.cell? ⟨Y, 7, none⟩ = some (.int .u8 (oc : Int)))
        (first | exact held14 X5.out Y5.out (Below.refl _ _).drew | exact held14 X5.out Y5.out (Below.refl _ _) | exact held14 X5.out Y5.out (kept_trans (And.left (by assumption)) hb))
        (first
          | (go_at_call 28; refine (HS.out _).mono ?_; rintro e wa ⟨rfl, hb⟩)
          | (go_at_call 45; have hT := And.left (by assumption : Below w5.heap.size w5 _ ∧ _); refine (HR.out _ (HL5.out.trans (hT.mono (Nat.le_of_lt (there_lt Y5.out))))).mono ?_; rintro e w6 ⟨rfl, hb⟩))
      have hS := (by assumption : Below w5.heap.size w5 w6 ∧ _).1
      have K6 := kept_hid K5 hS
      have X6 := Lib.hid (blk X5.out hS)
      have Z6 := Lib.hid (blk Z5.out hS)
      have S2 := (by assumption : Below w5.heap.size w5 w6 ∧ _)
      clear S2 hS hT hb HL5 X5 Y5 Z5 K5 HR c0 c1 c2 c3 c4 c5 d0 d1 d2 d3 d4 d5 d6 d7
      go_wp2_with fail
      go_roundg (os.length + 1 - (x + 1))
      case measure => omega
      case rel => exact ⟨x + 1, by omega, rfl, rfl, X6, Z6, K6⟩
    · obtain rfl : x = i := by omega
      have hwo : Go.Proofs.YtpdlpmbjhopnnaaGreatDoor.Ord.wrong (os.getD x Go.Proofs.YtpdlpmbjhopnnaaGreatDoor.Ord.none_) s.cs.length ≠ 0 := HW.out.2.1
      obtain ⟨h8t, htl, hc8⟩ := Str.sound_at HO8.out x
      obtain ⟨kk, tt, op, on_, oq, om, oa, oc, eo⟩ := Str.o_eta (os.getD x Go.Proofs.YtpdlpmbjhopnnaaGreatDoor.Ord.none_)
      obtain ⟨bo, oo, ta, tn, tc, rfl, o0, o1, o2, o3, o4, o5, o6, o7, hBt, hnt⟩ := (HO.out.below K4.out).cells hlt eo
      rw [eo] at hwo h8t htl hc8
      simp only at h8t htl hc8
      have hi0 : (0 : Int) ≤ (x : Int) := by omega
      have hi1 : (x : Int) < (os.length : Int) := by omega
      have HR := Lib.hid fun W (hb : Below wr.heap.size wr W) => Go.Proofs.YtpdlpmbjhopnnaaGreatDoor.Ord.right_any ⟨kk, tt, op, on_, oq, om, oa, oc⟩ ta tn tc s.cs.length W (bytes_below hBt hb) h8t htl hc8 HZZ.out.1 HZZ.out.2
      rw [errv_ne hwo] at HR
      simp only at HR
      have EO := Lib.hid eo
      have HAL := al_any wr (.cells #[.int .i64 kk, .slice ta tn tc, .bool op, .bool on_, .int .i64 oq, .bool om, .int .i64 oa, .int .u8 (oc : Int)] 76)
      have Y5 := Lib.hid (heap_alloc_new wr (.cells #[.int .i64 kk, .slice ta tn tc, .bool op, .bool on_, .int .i64 oq, .bool om, .int .i64 oa, .int .u8 (oc : Int)] 76))
      have X5 := Lib.hid (blk X4.out HAL)
      have Z5 := Lib.hid (blk Z4.out HAL)
      have K5 := kept_hid K4 HAL
      have HL5 := Lib.hid HAL
      clear HAL eo hwo hBt hnt h8t htl hc8
      go_upto_region 4 with (fail)
      clear o0 o1 o2 o3 o4 o5 o6 o7 X4 Z4 K4
      generalize wr.alloc _ = w5 at *
      generalize hY : wr.heap.size = Y at *
      replace hY := Lib.hid hY
      obtain ⟨c0, c1, c2, c3, c4, c5⟩ := cells6 X5.out
      obtain ⟨d0, d1, d2, d3, d4, d5, d6, d7⟩ := cells8 Y5.out
      go_region_held3 (fun w' => Below w5.heap.size w5 w' ∧ w'.cell? ⟨w.heap.size, 0, none⟩ = some (.int .i64 s.rows) ∧ w'.cell? ⟨w.heap.size, 1, none⟩ = some (.int .i64 s.cols) ∧ w'.cell? ⟨w.heap.size, 2, none⟩ = some (.slice ad s.cs.length k) ∧ w'.cell? ⟨w.heap.size, 3, none⟩ = some (.int .i64 s.cur) ∧ w'.cell? ⟨w.heap.size, 4, none⟩ = some (.bool s.lk) ∧ w'.cell? ⟨w.heap.size, 5, none⟩ = some (.bool s.ins) ∧ w'.cell? ⟨Y, 0, none⟩ = some (.int .i64 kk) ∧ w'.cell? ⟨Y, 1, none⟩ = some (.slice ta tn tc) ∧ w'.cell? ⟨Y, 2, none⟩ = some (.bool op) ∧ w'.cell? ⟨Y, 3, none⟩ = some (.bool on_) ∧ w'.cell? ⟨Y, 4, none⟩ = some (.int .i64 oq) ∧ w'.cell? ⟨Y, 5, none⟩ = some (.bool om) ∧ w'.cell? ⟨Y, 6, none⟩ = some (.int .i64 oa) ∧ w'.cell? ⟨Y, 7, none⟩ = some (.int .u8 (oc : Int)))
        (first | exact held14 X5.out Y5.out (Below.refl _ _).drew | exact held14 X5.out Y5.out (Below.refl _ _) | exact held14 X5.out Y5.out (kept_trans (And.left (by assumption)) hb))
        (first
          | (go_at_call 28; refine (HS.out _).mono ?_; rintro e wa ⟨rfl, hb⟩)
          | (go_at_call 45; have hT := And.left (by assumption : Below w5.heap.size w5 _ ∧ _); refine (HR.out _ (HL5.out.trans (hT.mono (Nat.le_of_lt (there_lt Y5.out))))).mono ?_; rintro e w6 ⟨rfl, hb⟩))
      have hS := (by assumption : Below w5.heap.size w5 w6 ∧ _).1
      have K6 := kept_hid K5 hS
      have X6 := Lib.hid (blk X5.out hS)
      have Z6 := Lib.hid (blk Z5.out hS)
      have S2 := (by assumption : Below w5.heap.size w5 w6 ∧ _)
      clear S2 hS hT hb HL5 X5 Y5 Z5 K5 HR c0 c1 c2 c3 c4 c5 d0 d1 d2 d3 d4 d5 d6 d7
      have EW := Lib.hid (show Go.Proofs.YtpdlpmbjhopnnaaGreatDoor.Ord.wrong (os.getD x Go.Proofs.YtpdlpmbjhopnnaaGreatDoor.Ord.none_) s.cs.length = Go.Proofs.YtpdlpmbjhopnnaaGreatDoor.Ord.wrong ⟨kk, tt, op, on_, oq, om, oa, oc⟩ s.cs.length by rw [EO.out])
      clear HW EO
      generalize Go.Proofs.YtpdlpmbjhopnnaaGreatDoor.Ord.wrong ⟨kk, tt, op, on_, oq, om, oa, oc⟩ s.cs.length = wc at *
      have SF := over6 w6 (w.heap.size + 1) _ _ _ _ _ _ _ (.int .i64 s.rows) (.int .i64 s.cols) (.slice ad s.cs.length k) (.int .i64 s.cur) (.bool s.lk) (.bool s.ins) Z6.out
      have HSZ := Lib.hid (show ((((((w6.setCell ⟨w.heap.size + 1, 0, none⟩ (.int .i64 s.rows)).setCell ⟨w.heap.size + 1, 1, none⟩ (.int .i64 s.cols)).setCell ⟨w.heap.size + 1, 2, none⟩ (.slice ad s.cs.length k)).setCell ⟨w.heap.size + 1, 3, none⟩ (.int .i64 s.cur)).setCell ⟨w.heap.size + 1, 4, none⟩ (.bool s.lk)).setCell ⟨w.heap.size + 1, 5, none⟩ (.bool s.ins)).heap.size = w6.heap.size by simp only [World.size_setCell])
      have HI7 := Lib.hid (celsIn_away (HI.out.below K6.out) SF.2 (fun y hy => by have := HNE.out y hy; omega))
      have K7 := Lib.hid (below_grown K6.out SF.2 (by omega))
      have Z7 := Lib.hid SF.1
      obtain ⟨c0, c1, c2, c3, c4, c5⟩ := cells6 X6.out
      obtain ⟨z0, z1, z2, z3, z4, z5⟩ := cells6 Z6.out
      obtain ⟨f0, f1, f2, f3, f4, f5⟩ := free6 Z6.out
      have hz6 := there_lt Z6.out
      clear hY SF
      go_wp2_with fail
      clear hz6 c0 c1 c2 c3 c4 c5 z0 z1 z2 z3 z4 z5 f0 f1 f2 f3 f4 f5
      generalize (((((w6.setCell _ _).setCell _ _).setCell _ _).setCell _ _).setCell _ _).setCell _ _ = w7 at *
      have L8 := heap_alloc_new w7 (.cells #[.int .i64 (x : Int), .iface 71 (.int .i64 (wc : Int))] 86)
      rw [HSZ.out] at L8
      have HAL := al_any w7 (.cells #[.int .i64 (x : Int), .iface 71 (.int .i64 (wc : Int))] 86)
      exact bodyPost_ret (v := .tuple #[.agg #[.int .i64 s.rows, .int .i64 s.cols, .slice ad s.cs.length k, .int .i64 s.cur, .bool s.lk, .bool s.ins], .int .i64 (a : Int), .iface 84 (.pointer (some ⟨w6.heap.size, 0, none⟩))]) (results_cell_2 rfl _ _ _ (w.heap.size + 1) _ rfl (run_loadVar_row _ (w.heap.size + 1) 24 24 _ (0, 0) _ (blk Z7.out HAL) Tryz.underlying24 rfl (by kernel_rfl)) (.int .i64 (a : Int)) (.iface 84 (.pointer (some ⟨w6.heap.size, 0, none⟩))) rfl rfl) rfl ⟨ad, k, _, rfl, HI7.out.below HAL, by rw [EW.out]; exact .inr (.inr ⟨0, w6.heap.size, rfl, cell_of_row _ w6.heap.size 0 _ _ (0, 0) L8, _, _, _, rfl, cell_of_row _ w6.heap.size 0 _ _ (0, 0) L8, cell_of_row _ w6.heap.size 1 _ _ (0, 0) L8, rfl⟩), kept_trans K7.out HAL⟩
end Pnt
end Go.Proofs.YtpdlpmbjhopnnaaGreatDoor
