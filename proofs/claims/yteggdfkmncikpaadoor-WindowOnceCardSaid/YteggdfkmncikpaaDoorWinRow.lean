/- Rows of numbers of the call's own. Written by tools/gen_win.py. -/
import Derived.Test.YteggdfkmncikpaaDoorWinArg
import Derived.Laws.OwnMore
import Derived.OwnWalk
import Derived.Deep.Cut
import Derived.Deep.LoopGhost
import Derived.Deep.RegionLaw
import Derived.Deep.RegionHeld3
import Derived.IntWalk
import Derived.Lib.SmallJoins
namespace Go.Proofs.YteggdfkmncikpaaDoor
open Go.RowKit Sha Six Apd Cut Err
set_option linter.unusedVariables false
set_option linter.unusedSimpArgs false
namespace Win
def ints (l : List Int) : List Value := l.map fun x => .int .i64 x
theorem ints_len (l : List Int) : (ints l).length = l.length := by simp [ints]
theorem ints_at {l : List Int} {i : Nat} (h : i < l.length) : (ints l)[i]? = some (.int .i64 (l.getD i 0)) := by
  simp [ints, h]
/-- v is a row of the call's own, of the numbers xs. -/
def OwnIs (w : World) (base : Nat) (v : Value) (xs : List Int) : Prop := w.ownsRow base 3 1 v xs.length (ints xs)
theorem OwnIs.below {w w' : World} {base : Nat} {v : Value} {xs : List Int} (h : OwnIs w base v xs) (hb : Below w.heap.size w w') : OwnIs w' base v xs := own_below h hb
theorem OwnIs.mono {w : World} {b base : Nat} {v : Value} {xs : List Int} (h : OwnIs w base v xs) (hb : b ≤ base) : OwnIs w b v xs := own_mono h hb
theorem OwnIs.form {w : World} {base : Nat} {v : Value} {xs : List Int} (h : OwnIs w base v xs) : ∃ ad c, v = .slice ad xs.length c := own_form h
theorem OwnIs.cell {w : World} {base n c : Nat} {ad : Option Addr} {xs : List Int} (h : OwnIs w base (.slice ad n c) xs) {i : Nat} (hi : i < xs.length) : ∃ g, ad = some ⟨g, 0, none⟩ ∧ base ≤ g ∧ g < w.heap.size ∧ w.cell? ⟨g, 0 + i, none⟩ = some (.int .i64 (xs.getD i 0)) ∧ w.frozen? ⟨g, 0 + i, none⟩ = false := by
  obtain ⟨hl, hv⟩ := h
  rcases hv with ⟨_, h0⟩ | ⟨g, cap, cur, hv, hg, hcur, h1, h2, h3, h4⟩
  · omega
  · injection hv with e1 e2 e3
    subst e1
    refine ⟨g, rfl, hg, there_lt hcur, ?_, frozen_of_row w g (0 + i) cur _ hcur⟩
    have k5 := ints_at hi
    rw [← h4, List.getElem?_take_of_lt (by omega)] at k5
    rw [cell_of_row w g (0 + i) cur _ (0, 0) hcur, Nat.zero_add, ← Array.getElem?_toList]
    exact k5
theorem own_nilI (w : World) (base : Nat) : OwnIs w base (.slice none 0 0) [] := World.ownsRow_nil _ _ _ _
theorem infoI : (Tryd.prog.info? 3).map (fun i => (i.zero, i.size, i.bytes)) = some (some (.int .i64 0), 1, 8) := by kernel_rfl
/-- append of one number whose cell lies in block L. -/
theorem append_i {ops : Array Oper} {rest : List Oper} {o : Oper} {a : Act} {Q : Exit → Act → World → Prop} {w : World} (hgd : o.guard = none) (s x : Operand)
    (ho : o.op = .call { callee := .builtin .append, args := #[s, x], argTypes := #[36, 36] }) (base : Nat) (v : Value) (xs : List Int) (hs : a.eval s = v) (hown : OwnIs w base v xs)
    (L : Nat) (y : Int) (hx : a.eval x = .slice (some ⟨L, 0, none⟩) 1 1) (hL : w.heap[L]? = some (.cells #[.int .i64 y] 3 (0, 0)))
    (hn : xs.length < 1000000000) (hbase : base ≤ w.heap.size)
    (h : ∀ v' w', OwnIs w' base v' (xs ++ [y]) → w.grownBy w' v.ownBlock → wpList Tryd.prog ops Q rest (a.put o.dst v') w') : wpList Tryd.prog ops Q (o :: rest) a w := by
  obtain ⟨i0, hi, hz0, hz1, hz2⟩ := info_parts infoI
  refine wpList_append_own _ hgd s x 36 ho base 3 i0 _ 1 8 Tryd.underlying36 hi hz0 hz1 hz2 rfl (by decide) v xs.length (ints xs) hs hown ⟨L, 0, none⟩ 1 1 [.int .i64 y] hx rfl (fun j u hj => ?_) (by intro u hu; simp at hu; subst hu; rfl) (by unfold maxLen; omega) (by omega) hbase fun v' w' k1 k2 _ => h v' w' (by unfold OwnIs; rw [List.length_append, show ints (xs ++ [y]) = ints xs ++ [.int .i64 y] by simp [ints]]; exact k1) k2
  rw [Addr.add_mid, Nat.zero_add, cell_of_row w L j _ _ (0, 0) hL, List.getElem?_toArray]; exact hj
set_option maxRecDepth 100000 in
/-- append of a whole row. -/
theorem append_is {ops : Array Oper} {rest : List Oper} {o : Oper} {a : Act} {Q : Exit → Act → World → Prop} {w : World} (hgd : o.guard = none) (s x : Operand)
    (ho : o.op = .call { callee := .builtin .append, args := #[s, x], argTypes := #[36, 36] }) (base : Nat) (v : Value) (xs : List Int) (hs : a.eval s = v) (hown : OwnIs w base v xs)
    (b2 : Nat) (ao : Option Addr) (c : Nat) (ys : List Int) (hx : a.eval x = .slice ao ys.length c) (hsrc : OwnIs w b2 (.slice ao ys.length c) ys) (hn : xs.length + ys.length < 1000000000) (hbase : base ≤ w.heap.size)
    (h : ∀ v' w', OwnIs w' base v' (xs ++ ys) → w.grownBy w' v.ownBlock → wpList Tryd.prog ops Q rest (a.put o.dst v') w') : wpList Tryd.prog ops Q (o :: rest) a w := by
  obtain ⟨i0, hi, hz0, hz1, hz2⟩ := info_parts infoI
  cases ys with
  | nil =>
    have hnil : ao = none ∧ c = 0 ∨ ∃ ad, ao = some ad := by
      rcases hsrc.2 with ⟨hv, _⟩ | ⟨g, cap, cur, hv, _⟩
      · injection hv with e1 e2 e3; exact .inl ⟨e1, e3⟩
      · injection hv with e1 e2 e3; exact .inr ⟨_, e1⟩
    rcases hnil with ⟨rfl, rfl⟩ | ⟨ad, rfl⟩
    · exact wpList_append_own_none hgd s x 36 ho base 3 i0 1 Tryd.underlying36 hi v xs.length (ints xs) hs hown hx (h v w (by simpa using hown) (grefl _ _))
    · refine wpList_append_own _ hgd s x 36 ho base 3 i0 _ 1 8 Tryd.underlying36 hi hz0 hz1 hz2 rfl (by decide) v xs.length (ints xs) hs hown ad 0 c [] hx rfl nofun nofun (by unfold maxLen; omega) (by omega) hbase fun v' w' k1 k2 _ => h v' w' (by simpa [OwnIs] using k1) k2
  | cons y r =>
    obtain ⟨g, rfl, _, _, _, _⟩ := hsrc.cell (i := 0) (by simp)
    refine wpList_append_own _ hgd s x 36 ho base 3 i0 _ 1 8 Tryd.underlying36 hi hz0 hz1 hz2 rfl (by decide) v xs.length (ints xs) hs hown ⟨g, 0, none⟩ (y :: r).length c (ints (y :: r)) hx (by rw [ints_len, Nat.mul_one]) (fun j u hj => ?_) (by intro u hu; simp [ints] at hu; rcases hu with rfl | ⟨z, _, rfl⟩ <;> rfl) (by unfold maxLen; omega) (by omega) hbase fun v' w' k1 k2 _ => h v' w' (by unfold OwnIs; rw [List.length_append, show ints (xs ++ y :: r) = ints xs ++ ints (y :: r) by simp [ints]]; exact k1) k2
    have hjl : j < (y :: r).length := by
      rcases Nat.lt_or_ge j (y :: r).length with h' | h'
      · exact h'
      · rw [List.getElem?_eq_none (by rw [ints_len]; exact h')] at hj; cases hj
    obtain ⟨g', hg, _, _, d, _⟩ := hsrc.cell hjl
    injection hg with hg
    injection hg with hg _ _
    subst hg
    rw [Addr.add_mid, d, ← hj, ints_at hjl]
theorem lit_is (w : World) (base : Nat) (y : Int) (hb : base ≤ w.heap.size) : OwnIs (w.alloc (.cells #[.int .i64 y] 3)) base (.slice (some ⟨w.heap.size, 0, none⟩) 1 1) [y] := World.ownsRow_lit (e := 3) (size := 1) w #[.int .i64 y] 1 hb (by decide) rfl
theorem own_top {w : World} {base : Nat} {v : Value} {xs : List Int} (h : OwnIs w base v xs) : ∀ k, v.ownBlock = some k → k < w.heap.size := by
  intro k hk
  rcases h.2 with ⟨rfl, _⟩ | ⟨g, cap, cur, rfl, hg, hcur, _⟩
  · simp [Value.ownBlock] at hk
  · simp [Value.ownBlock] at hk; rw [← hk]; exact there_lt hcur
theorem own_lt {w : World} {base n c g : Nat} {xs : List Int} (h : OwnIs w base (.slice (some ⟨g, 0, none⟩) n c) xs) : g < w.heap.size := by
  rcases h.2 with ⟨hv, _⟩ | ⟨g2, cap, cur, hv, hg, hcur, _⟩
  · injection hv with e; cases e
  · injection hv with e
    injection e with e
    injection e with e _ _
    rw [e]; exact there_lt hcur
end Win
end Go.Proofs.YteggdfkmncikpaaDoor
