/- A row of orders of the call's own whose last order's text may grow where it lies: no other text lies in its block. -/
import Derived.Test.YtpdlpmbjhopnnaaDoorRedOwn
namespace Go.Proofs.YtpdlpmbjhopnnaaDoor
open Go.RowKit Sha Six Apd Cut
set_option linter.unusedVariables false
namespace Red
open Str Go.Proofs.YtpdlpmbjhopnnaaDoor.Ord
/-- v is a row of the call's own of the orders os and, behind them, q, whose text is (ta, tn, tc), at block M or behind; the others' texts lie ahead of M. -/
def Last (w : World) (base M : Nat) (v : Value) (os : List O) (q : O) (ta : Option Addr) (tn tc : Nat) : Prop :=
  ∃ us, w.ownsRow base 51 8 v (os.length + 1) us ∧ (base ≤ M ∧ M ≤ w.heap.size) ∧
    (∀ i, i < os.length → ∃ ta tn tc, (∀ j u, (ocells (os.getD i none_) (.slice ta tn tc))[j]? = some u → us[i * 8 + j]? = some u) ∧ w.ownsRow base 5 1 (.slice ta tn tc) tn (u8s (os.getD i none_).t) ∧ ∀ a, ta = some a → a.block < M) ∧
    (∀ j u, (ocells q (.slice ta tn tc))[j]? = some u → us[os.length * 8 + j]? = some u) ∧ w.ownsRow M 5 1 (.slice ta tn tc) tn (u8s q.t)
theorem getD_app1 (os : List O) (q : O) {i : Nat} (hi : i < os.length) : (os ++ [q]).getD i none_ = os.getD i none_ := by simp [List.getD_eq_getElem?_getD, List.getElem?_append_left hi]
theorem getD_app2 (os : List O) (q : O) : (os ++ [q]).getD os.length none_ = q := by simp
theorem ocells_lt {o : O} {v u : Value} {j : Nat} (hj : (ocells o v)[j]? = some u) : j < 8 := by
  rcases Nat.lt_or_ge j 8 with h' | h'
  · exact h'
  · rw [List.getElem?_eq_none (by simp [ocells]; omega)] at hj; cases hj
theorem Last.to {w : World} {base M : Nat} {v : Value} {os : List O} {q : O} {ta : Option Addr} {tn tc : Nat} (h : Last w base M v os q ta tn tc) : OwnOrds w base v (os ++ [q]) := by
  obtain ⟨us, h1, hM, h2, h3, h4⟩ := h
  refine ⟨us, by rw [List.length_append]; exact h1, fun h0 => by simp at h0, fun i hi => ?_⟩
  by_cases hio : i < os.length
  · obtain ⟨ta1, tn1, tc1, k1, k2, _⟩ := h2 i hio
    rw [getD_app1 os q hio]
    exact ⟨ta1, tn1, tc1, k1, k2⟩
  · rw [List.length_append] at hi
    simp only [List.length_cons, List.length_nil] at hi
    obtain rfl : i = os.length := by omega
    rw [getD_app2]
    exact ⟨ta, tn, tc, h3, own_mono h4 hM.1⟩
theorem Last.below {w w' : World} {base M : Nat} {v : Value} {os : List O} {q : O} {ta : Option Addr} {tn tc : Nat} (h : Last w base M v os q ta tn tc) (hb : Below w.heap.size w w') : Last w' base M v os q ta tn tc := by
  obtain ⟨us, h1, hM, h2, h3, h4⟩ := h
  refine ⟨us, own_below h1 hb, ⟨hM.1, Nat.le_trans hM.2 hb.size⟩, fun i hi => ?_, h3, own_below h4 hb⟩
  obtain ⟨ta1, tn1, tc1, k1, k2, k3⟩ := h2 i hi
  exact ⟨ta1, tn1, tc1, k1, own_below k2 hb, k3⟩
theorem Last.ge {w : World} {base M n c : Nat} {ad : Option Addr} {os : List O} {q : O} {ta : Option Addr} {tn tc : Nat} (h : Last w base M (.slice ad n c) os q ta tn tc) : ∀ g, (Value.slice ad n c).ownBlock = some g → base ≤ g := by
  obtain ⟨us, h1, _⟩ := h
  exact own_ge h1
theorem Last.room {w : World} {base M : Nat} {v : Value} {os : List O} {q : O} {ta : Option Addr} {tn tc : Nat} (h : Last w base M v os q ta tn tc) : base ≤ M ∧ M ≤ w.heap.size ∧ (∀ y, ta = some y → y.block < w.heap.size) ∧ w.ownsRow M 5 1 (.slice ta tn tc) tn (u8s q.t) := by
  obtain ⟨us, h1, hM, h2, h3, h4⟩ := h
  exact ⟨hM.1, hM.2, fun y hy => (own_blocks h4 y hy).2, h4⟩
/-- The cells of the last order. -/
theorem Last.spot {w : World} {base M g n c : Nat} {os : List O} {q : O} {ta : Option Addr} {tn tc : Nat} (h : Last w base M (.slice (some ⟨g, 0, none⟩) n c) os q ta tn tc) : w.cell? ⟨g, os.length * 8, none⟩ = some (.int .i64 q.k) ∧ w.cell? ⟨g, os.length * 8 + 1, none⟩ = some (.slice ta tn tc) ∧ w.frozen? ⟨g, os.length * 8 + 1, none⟩ = false ∧ g < w.heap.size ∧ base ≤ g := by
  obtain ⟨us, h1, hM, h2, h3, h4⟩ := h
  have hlen : us.length = (os.length + 1) * 8 := h1.1
  have k0 := World.ownsRow.cells h1 (g := g) rfl (os.length * 8) _ (h3 0 _ rfl)
  have k1 := World.ownsRow.cells h1 (g := g) rfl (os.length * 8 + 1) _ (h3 1 _ rfl)
  rw [Addr.add_mid, Nat.zero_add] at k0 k1
  rcases h1.2 with ⟨hv, _⟩ | ⟨g2, cap, cur, hv, hg, hcur, _⟩
  · cases hv
  · injection hv with e1 e2 e3
    injection e1 with e1
    injection e1 with e1
    subst e1
    exact ⟨k0, k1, frozen_of_row w g _ cur _ hcur, there_lt hcur, hg⟩
theorem Last.form {w : World} {base M : Nat} {v : Value} {os : List O} {q : O} {ta : Option Addr} {tn tc : Nat} (h : Last w base M v os q ta tn tc) : ∃ g c, v = .slice (some ⟨g, 0, none⟩) (os.length + 1) c ∧ base ≤ g ∧ g < w.heap.size := by
  obtain ⟨us, h1, _⟩ := h
  rcases h1.2 with ⟨_, h0⟩ | ⟨g, cap, cur, hv, hg, hcur, _⟩
  · cases h0
  · exact ⟨g, cap, hv, hg, there_lt hcur⟩
/-- One literal order without a text. -/
theorem last_lit (w : World) (o : O) (ht : o.t = []) (base : Nat) (hb : base ≤ w.heap.size) : Last (w.alloc (.cells (ocells o (.slice none 0 0)).toArray 51)) base base (.slice (some ⟨w.heap.size, 0, none⟩) 1 1) [] o none 0 0 := by
  refine ⟨ocells o (.slice none 0 0), ?_, ⟨Nat.le_refl _, by simp; omega⟩, fun i hi => absurd hi (Nat.not_lt_zero _), fun j u hj => by simpa using hj, ?_⟩
  · have := World.ownsRow_lit (base := base) (e := 51) (size := 8) w (ocells o (.slice none 0 0)).toArray 1 hb (by unfold maxLen; omega) (by simp [ocells])
    simpa using this
  · rw [ht]
    exact own_no _ _
theorem own_keeps2 {w w' : World} {base K n c m : Nat} {v : Value} {us : List Value} {ad : Option Addr} {xs : List Value} (h1 : w.ownsRow base 51 8 v m us) (h2 : w.ownsRow K 5 1 (.slice ad n c) n xs) (hg : w.grownBy w' v.ownBlock) : w'.ownsRow K 5 1 (.slice ad n c) n xs := by
  cases hv : v.ownBlock with
  | none =>
    rw [hv] at hg
    exact own_below h2 (belowg hg)
  | some g =>
    rw [hv] at hg
    exact own_apart h2 hg (fun a ha => row_apart h1 h2 (by decide) a ha g hv)
theorem own_n {w : World} {base e size n c m : Nat} {a : Addr} {us : List Value} (h1 : w.ownsRow base e size (.slice (some a) n c) m us) : n = m := by
  rcases h1.2 with ⟨hv, _⟩ | ⟨_, _, _, hv, _⟩
  · injection hv with e1; cases e1
  · injection hv with _ e2
/-- append of one order, whose cells lie in block L and whose text lies behind all others'. -/
theorem append_last {ops : Array Oper} {rest : List Oper} {o : Oper} {a : Act} {Q : Exit → Act → World → Prop} {w : World} (hgd : o.guard = none) (s x : Operand)
    (ho : o.op = .call { callee := .builtin .append, args := #[s, x], argTypes := #[40, 40] }) (base M K : Nat) (v : Value) (os : List O) (q : O) (ta : Option Addr) (tn tc : Nat) (hs : a.eval s = v) (hown : Last w base M v os q ta tn tc)
    (hK1 : M ≤ K) (hK2 : ∀ y, ta = some y → y.block < K) (hK3 : K ≤ w.heap.size)
    (L : Nat) (p : O) (sa : Option Addr) (sn sc : Nat) (hx : a.eval x = .slice (some ⟨L, 0, none⟩) 1 1) (hL : w.heap[L]? = some (.cells (ocells p (.slice sa sn sc)).toArray 51 (0, 0))) (ht : w.ownsRow K 5 1 (.slice sa sn sc) sn (u8s p.t))
    (hn : os.length < 1000000) (hbase : base ≤ w.heap.size)
    (h : ∀ v' w', Last w' base K v' (os ++ [q]) p sa sn sc → w.grownBy w' v.ownBlock → wpList Tryd.prog ops Q rest (a.put o.dst v') w') : wpList Tryd.prog ops Q (o :: rest) a w := by
  obtain ⟨us, h1, hM, h2, h3, h4⟩ := hown
  obtain ⟨i0, hi, hz0, hz1, hz2⟩ := info_parts infoO
  refine wpList_append_own _ hgd s x 40 ho base 51 i0 _ 8 72 Tryd.underlying40 hi hz0 hz1 hz2 rfl (by decide) v (os.length + 1) us hs h1 ⟨L, 0, none⟩ 1 1 (ocells p (.slice sa sn sc)) hx rfl (fun j u hj => ?_) (ocells_one _ _ _ _) (by unfold maxLen; omega) (by omega) hbase fun v' w' k1 k2 _ => h v' w' ⟨_, by rw [List.length_append]; exact k1, ⟨Nat.le_trans hM.1 hK1, Nat.le_trans hK3 k2.size⟩, fun i hi => ?_, fun j u hj => ?_, own_keeps2 h1 ht k2⟩ k2
  · rw [Addr.add_mid, Nat.zero_add, cell_of_row w L j _ _ (0, 0) hL, List.getElem?_toArray]; exact hj
  · have hlen : us.length = (os.length + 1) * 8 := h1.1
    by_cases hio : i < os.length
    · obtain ⟨ta1, tn1, tc1, k3, k4, k5⟩ := h2 i hio
      rw [getD_app1 os q hio]
      refine ⟨ta1, tn1, tc1, fun j u hj => ?_, own_keeps h1 k4 k2, fun y hy => Nat.lt_of_lt_of_le (k5 y hy) hK1⟩
      have hj8 := ocells_lt hj
      rw [List.getElem?_append_left (by omega)]
      exact k3 j u hj
    · rw [List.length_append] at hi
      simp only [List.length_cons, List.length_nil] at hi
      obtain rfl : i = os.length := by omega
      rw [getD_app2]
      refine ⟨ta, tn, tc, fun j u hj => ?_, own_mono (own_keeps2 h1 h4 k2) hM.1, hK2⟩
      have hj8 := ocells_lt hj
      rw [List.getElem?_append_left (by omega)]
      exact h3 j u hj
  · have hlen : us.length = (os.length + 1) * 8 := h1.1
    rw [List.length_append, List.getElem?_append_right (by simp only [List.length_cons, List.length_nil]; omega)]
    rw [show (os.length + [q].length) * 8 + j - us.length = j by simp only [List.length_cons, List.length_nil]; omega]
    exact hj
/-- The last order's text has grown (its row, or a new one), and is stored. -/
theorem Last.text {w w' : World} {base M g n c : Nat} {os : List O} {q p : O} {ta : Option Addr} {tn tc : Nat} (h : Last w base M (.slice (some ⟨g, 0, none⟩) n c) os q ta tn tc) {sa : Option Addr} {sn sc : Nat}
    (hg : w.grownBy w' (Value.slice ta tn tc).ownBlock) (ht : w'.ownsRow M 5 1 (.slice sa sn sc) sn (u8s p.t))
    (hp : ∀ j u, j ≠ 1 → (ocells p (.slice sa sn sc))[j]? = some u → (ocells q (.slice ta tn tc))[j]? = some u) :
    Last (w'.setCell ⟨g, os.length * 8 + 1, none⟩ (.slice sa sn sc)) base M (.slice (some ⟨g, 0, none⟩) n c) os p sa sn sc ∧ Below base w (w'.setCell ⟨g, os.length * 8 + 1, none⟩ (.slice sa sn sc)) ∧ base ≤ g ∧ g < w.heap.size ∧ w'.cell? ⟨g, os.length * 8 + 1, none⟩ = some (.slice ta tn tc) ∧ w'.frozen? ⟨g, os.length * 8 + 1, none⟩ = false := by
  obtain ⟨us, h1, hM, h2, h3, h4⟩ := h
  have hgb : base ≤ g := own_ge h1 g rfl
  have hgl : g < w.heap.size := (own_blocks (own_n h1 ▸ h1) _ rfl).2
  have hb0 : ∀ y, ta = some y → base ≤ y.block := fun y hy => Nat.le_trans hM.1 (own_blocks h4 y hy).1
  have k1 : w'.ownsRow base 51 8 (.slice (some ⟨g, 0, none⟩) n c) (os.length + 1) us := by
    refine h1.kept hg (.inr fun e => ?_)
    cases ta with
    | none => cases e
    | some y =>
      simp only [Value.ownBlock, Option.some.injEq] at e
      exact row_apart h1 h4 (by decide) y rfl g rfl e.symm
  have hlen : us.length = (os.length + 1) * 8 := h1.1
  obtain ⟨s1, s2⟩ := World.ownsRow.stored (show w'.ownsRow base 51 8 (.slice (some ⟨g, 0, none⟩) n c) n us from own_n h1 ▸ k1) (os.length * 8 + 1) (.slice sa sn sc)
  have hne : n = os.length + 1 := own_n h1
  have hce : w'.cell? ⟨g, os.length * 8 + 1, none⟩ = some (.slice ta tn tc) := by
    have k0 := World.ownsRow.cells k1 (g := g) rfl (os.length * 8 + 1) _ (h3 1 _ rfl)
    rw [Addr.add_mid, Nat.zero_add] at k0
    exact k0
  refine ⟨⟨us.set (os.length * 8 + 1) (.slice sa sn sc), hne ▸ s1, ⟨hM.1, Nat.le_trans hM.2 (Nat.le_trans hg.size s2.size)⟩, fun i hi => ?_, fun j u hj => ?_, ?_⟩, ?_, hgb, hgl, hce, World.ownsRow.frozenAt (show w'.ownsRow base 51 8 (.slice (some ⟨g, 0, none⟩) n c) n us from own_n h1 ▸ k1) _⟩
  · obtain ⟨ta1, tn1, tc1, k3, k4, k5⟩ := h2 i hi
    refine ⟨ta1, tn1, tc1, fun j u hj => ?_, ?_, k5⟩
    · have hj8 := ocells_lt hj
      rw [List.getElem?_set_ne (by omega)]
      exact k3 j u hj
    · have k6 : w'.ownsRow base 5 1 (.slice ta1 tn1 tc1) tn1 (u8s (os.getD i none_).t) := by
        refine k4.kept hg ?_
        cases ta with
        | none => cases hv : (Value.slice ta1 tn1 tc1).ownBlock <;> simp [Value.ownBlock]
        | some y =>
          cases ta1 with
          | none => exact .inl rfl
          | some z =>
            refine .inr fun e => ?_
            simp only [Value.ownBlock, Option.some.injEq] at e
            have e1 := k5 z rfl
            have e2 := (own_blocks h4 y rfl).1
            omega
      exact own_apart k6 s2 fun y hy => row_apart k1 k6 (by decide) y hy g rfl
  · by_cases hj1 : j = 1
    · subst hj1
      rw [List.getElem?_set_self (by omega)]
      exact hj
    · rw [List.getElem?_set_ne (by omega)]
      exact h3 j u (hp j u hj1 hj)
  · exact own_apart ht s2 fun y hy => row_apart k1 ht (by decide) y hy g rfl
  · have hb1 : Below base w w' := ⟨hg.os, hg.tape, hg.output, hg.size, fun k hk => hg.block k (by omega) (fun e => by
      cases ta with
      | none => cases e
      | some y =>
        simp only [Value.ownBlock, Option.some.injEq] at e
        have := hb0 y rfl
        omega)⟩
    exact hb1.setCell (p := ⟨g, os.length * 8 + 1, none⟩) hgb _
/-- What lies ahead of base stays. -/
theorem blk_b {w w' : World} {B base : Nat} {x : Obj} (g : w.heap[B]? = some x) (hB : B < base) (hb : Below base w w') : w'.heap[B]? = some x := (hb.block B hB).trans g
theorem celsIn_b {w w' : World} {ad : Option Addr} {n c base : Nat} {cs : List Grd.C} (h : Grd.CelsIn w (.slice ad n c) cs) (hl : ∀ x, ad = some x → x.block < base) (hb : Below base w w') : Grd.CelsIn w' (.slice ad n c) cs := by
  obtain ⟨ad2, cap, hv, hcap, hn, hc⟩ := h
  injection hv with e1 e2 e3
  subst e1
  subst e3
  refine ⟨_, _, by rw [e2], hcap, hn, ?_⟩
  rcases hc with h0 | ⟨b, off, h1, h2⟩
  · exact .inl h0
  · exact .inr ⟨b, off, h1, fun i hi j u hj => (hb.cell (p := ⟨b, off + i * 6 + j, none⟩) (hl ⟨b, off, none⟩ h1)).trans (h2 i hi j u hj)⟩
end Red
end Go.Proofs.YtpdlpmbjhopnnaaDoor
