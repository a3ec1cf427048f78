/- Rows of numbers, of truths, of the call's own. -/
import Derived.Test.YtoacookbfpcncaaGrdBox
import Derived.Laws.OwnMore
import Derived.OwnWalk
namespace Go.Proofs.Ytoacookbfpcncaa
open Go.RowKit Sha Six Apd Cut Err Att
set_option linter.unusedVariables false
namespace Grd
/-- The cells of a row of numbers. -/
def i64s (l : List Nat) : List Value := l.map fun (x : Nat) => .int .i64 (x : Int)
theorem i64s_len (l : List Nat) : (i64s l).length = l.length := by simp [i64s]
theorem i64s_at {l : List Nat} {i : Nat} (h : i < l.length) : (i64s l)[i]? = some (.int .i64 ((l.getD i 0 : Nat) : Int)) := by
  simp [i64s, h]
theorem i64s_one (l : List Nat) : ∀ v ∈ i64s l, v.oneCell' = true := by intro v hv; simp [i64s] at hv; obtain ⟨x, _, rfl⟩ := hv; rfl
/-- v is a row of the call's own, of the numbers xs. -/
def OwnInts (w : World) (base : Nat) (v : Value) (xs : List Nat) : Prop := w.ownsRow base 3 1 v xs.length (i64s xs)
theorem OwnInts.below {w w' : World} {base : Nat} {v : Value} {xs : List Nat} (h : OwnInts w base v xs) (hb : Below w.heap.size w w') : OwnInts w' base v xs := own_below h hb
theorem OwnInts.mono {w : World} {b base : Nat} {v : Value} {xs : List Nat} (h : OwnInts w base v xs) (hb : b ≤ base) : OwnInts w b v xs := own_mono h hb
theorem OwnInts.form {w : World} {base : Nat} {v : Value} {xs : List Nat} (h : OwnInts w base v xs) : ∃ ad c, v = .slice ad xs.length c := own_form h
theorem OwnInts.cell {w : World} {base n c : Nat} {ad : Option Addr} {xs : List Nat} (h : OwnInts w base (.slice ad n c) xs) {i : Nat} (hi : i < xs.length) : ∃ g, ad = some ⟨g, 0, none⟩ ∧ base ≤ g ∧ g < w.heap.size ∧ w.cell? ⟨g, 0 + i, none⟩ = some (.int .i64 ((xs.getD i 0 : Nat) : Int)) ∧ w.frozen? ⟨g, 0 + i, none⟩ = false := by
  obtain ⟨hl, hv⟩ := h
  rcases hv with ⟨_, h0⟩ | ⟨g, cap, cur, hv, hg, hcur, h1, h2, h3, h4⟩
  · omega
  · injection hv with e1 e2 e3
    subst e1
    refine ⟨g, rfl, hg, there_lt hcur, ?_, frozen_of_row w g (0 + i) cur _ hcur⟩
    have k5 := i64s_at hi
    rw [← h4, List.getElem?_take_of_lt (by omega)] at k5
    rw [cell_of_row w g (0 + i) cur _ (0, 0) hcur, Nat.zero_add, ← Array.getElem?_toList]
    exact k5
theorem OwnInts.set {w : World} {base g n c : Nat} {xs : List Nat} (h : OwnInts w base (.slice (some ⟨g, 0, none⟩) n c) xs) (i x : Nat) :
    OwnInts (w.setCell ⟨g, i, none⟩ (.int .i64 (x : Int))) base (.slice (some ⟨g, 0, none⟩) n c) (xs.set i x) ∧ w.grownBy (w.setCell ⟨g, i, none⟩ (.int .i64 (x : Int))) (some g) := by
  have hn : n = xs.length := by
    obtain ⟨_, _, e⟩ := h.form
    injection e
  subst hn
  unfold OwnInts at h ⊢
  rw [show i64s (xs.set i x) = (i64s xs).set i (.int .i64 (x : Int)) by simp [i64s, List.map_set], List.length_set]
  exact World.ownsRow.stored h i (.int .i64 (x : Int))
theorem fill_set {sp : List Nat} {N q : Nat} (hl : sp.length = N) (hq : q < N) : (sp.take q ++ List.replicate (N - q) 0).set q (sp.getD q 0) = sp.take (q + 1) ++ List.replicate (N - (q + 1)) 0 := by
  have e : sp.getD q 0 = sp[q] := by simp [List.getD_eq_getElem?_getD, show q < sp.length by omega]
  rw [e, List.set_append_right _ _ (by simp; omega), show q - (sp.take q).length = 0 by simp; omega, show N - q = (N - (q + 1)) + 1 by omega, List.replicate_succ, List.set_cons_zero, List.take_succ_eq_append_getElem (show q < sp.length by omega), List.append_assoc]
  rfl
theorem fill_len {sp : List Nat} {N q : Nat} (hl : sp.length = N) (hq : q ≤ N) : (sp.take q ++ List.replicate (N - q) 0).length = N := by simp; omega
/-- The cells of a row of truths. -/
def bools (l : List Bool) : List Value := l.map fun x => .bool x
theorem bools_at {l : List Bool} {i : Nat} (h : i < l.length) : (bools l)[i]? = some (.bool (l.getD i false)) := by
  simp [bools, h]
def OwnBools (w : World) (base : Nat) (v : Value) (xs : List Bool) : Prop := w.ownsRow base 4 1 v xs.length (bools xs)
theorem OwnBools.below {w w' : World} {base : Nat} {v : Value} {xs : List Bool} (h : OwnBools w base v xs) (hb : Below w.heap.size w w') : OwnBools w' base v xs := own_below h hb
theorem OwnBools.cell {w : World} {base g n c : Nat} {xs : List Bool} (h : OwnBools w base (.slice (some ⟨g, 0, none⟩) n c) xs) {i : Nat} (hi : i < xs.length) : w.cell? ⟨g, i, none⟩ = some (.bool (xs.getD i false)) ∧ w.frozen? ⟨g, i, none⟩ = false := by
  obtain ⟨hl, hv⟩ := h
  rcases hv with ⟨_, h0⟩ | ⟨g', cap, cur, hv, hg, hcur, h1, h2, h3, h4⟩
  · omega
  · injection hv with e1 e2 e3
    injection e1 with e1
    injection e1 with e1
    subst e1
    refine ⟨?_, frozen_of_row w g i cur _ hcur⟩
    have k5 := bools_at hi
    rw [← h4, List.getElem?_take_of_lt (by omega)] at k5
    rw [cell_of_row w g i cur _ (0, 0) hcur, ← Array.getElem?_toList]
    exact k5
theorem OwnBools.set {w : World} {base g n c : Nat} {xs : List Bool} (h : OwnBools w base (.slice (some ⟨g, 0, none⟩) n c) xs) (i : Nat) (x : Bool) :
    OwnBools (w.setCell ⟨g, i, none⟩ (.bool x)) base (.slice (some ⟨g, 0, none⟩) n c) (xs.set i x) ∧ w.grownBy (w.setCell ⟨g, i, none⟩ (.bool x)) (some g) := by
  have hn : n = xs.length := by
    obtain ⟨_, _, e⟩ := own_form h
    injection e
  subst hn
  unfold OwnBools at h ⊢
  rw [show bools (xs.set i x) = (bools xs).set i (.bool x) by simp [bools, List.map_set], List.length_set]
  exact World.ownsRow.stored h i (.bool x)
theorem infoB : (Try.prog.info? 4).map (fun i => (i.zero, i.size, i.bytes)) = some (some (.bool false), 1, 1) := by kernel_rfl
theorem made_bools (N : Nat) : (madeCells (Value.cells (.bool false)) (N * 1)).toList = bools (List.replicate N false) := by
  rw [Nat.mul_one]; show (madeCells #[.bool false] N).toList = _; rw [toList_madeCells_one]; simp [bools]
theorem infoI : (Try.prog.info? 3).map (fun i => (i.zero, i.size, i.bytes)) = some (some (.int .i64 0), 1, 8) := by kernel_rfl
/-- append of one number whose cell lies in block L. -/
theorem append_int {ops : Array Oper} {rest : List Oper} {o : Oper} {a : Act} {Q : Exit → Act → World → Prop} {w : World} (hgd : o.guard = none) (s x : Operand)
    (ho : o.op = .call { callee := .builtin .append, args := #[s, x], argTypes := #[30, 30] }) (base : Nat) (v : Value) (xs : List Nat) (hs : a.eval s = v) (hown : OwnInts w base v xs)
    (L : Nat) (y : Nat) (hx : a.eval x = .slice (some ⟨L, 0, none⟩) 1 1) (hL : w.heap[L]? = some (.cells #[.int .i64 (y : Int)] 3 (0, 0)))
    (hn : xs.length < 1000000000) (hbase : base ≤ w.heap.size)
    (h : ∀ v' w', OwnInts w' base v' (xs ++ [y]) → w.grownBy w' v.ownBlock → wpList Try.prog ops Q rest (a.put o.dst v') w') : wpList Try.prog ops Q (o :: rest) a w := by
  obtain ⟨i0, hi, hz0, hz1, hz2⟩ := info_parts infoI
  refine wpList_append_own _ hgd s x 30 ho base 3 i0 _ 1 8 Try.underlying30 hi hz0 hz1 hz2 rfl (by decide) v xs.length (i64s xs) hs hown ⟨L, 0, none⟩ 1 1 [.int .i64 (y : Int)] hx rfl (fun j u hj => ?_) (by intro u hu; simp at hu; subst hu; rfl) (by unfold maxLen; omega) (by omega) hbase fun v' w' k1 k2 _ => h v' w' (by unfold OwnInts; rw [List.length_append, show i64s (xs ++ [y]) = i64s xs ++ [.int .i64 (y : Int)] by simp [i64s]]; exact k1) k2
  rw [Addr.add_mid, Nat.zero_add, cell_of_row w L j _ _ (0, 0) hL, List.getElem?_toArray]; exact hj
end Grd
end Go.Proofs.Ytoacookbfpcncaa
