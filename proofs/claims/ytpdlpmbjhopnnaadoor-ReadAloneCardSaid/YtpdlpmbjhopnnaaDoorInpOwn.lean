/- A slice of fields of the call's own, made by appends: each text is a row of its own, too. -/
import Derived.Test.YtpdlpmbjhopnnaaDoorInpMem
import Derived.Test.YtpdlpmbjhopnnaaDoorBunBase
namespace Go.Proofs.YtpdlpmbjhopnnaaDoor
open Go.RowKit Sha Six Apd
namespace Inp
open Cut
/-- v is a row of the call's own, of the fields os; their texts are rows of its own. -/
def OwnFlds (w : World) (base : Nat) (v : Value) (os : List F) : Prop :=
  ∃ us, w.ownsRow base 53 2 v os.length us ∧ (os = [] → v = .slice none 0 0) ∧ ∀ i, i < os.length → ∃ ta tn tc, (∀ j u, (fcells (os.getD i noneF) (.slice ta tn tc))[j]? = some u → us[i * 2 + j]? = some u) ∧ w.ownsRow base 5 1 (.slice ta tn tc) tn (u8s (os.getD i noneF).t)
theorem ownFlds_nil (w : World) (base : Nat) : OwnFlds w base (.slice none 0 0) [] := ⟨[], World.ownsRow_nil _ _ _ _, fun _ => rfl, nofun⟩
theorem OwnFlds.other {w w' : World} {base C : Nat} {v : Value} {os : List F} (h : OwnFlds w base v os) (hg : w.grownBy w' (some C)) (hC : C < base) : OwnFlds w' base v os := by
  obtain ⟨us, h1, h0, h2⟩ := h
  refine ⟨us, own_other h1 hg hC, h0, fun i hi => ?_⟩
  obtain ⟨ta, tn, tc, k1, k2⟩ := h2 i hi
  exact ⟨ta, tn, tc, k1, own_other k2 hg hC⟩
theorem OwnFlds.below {w w' : World} {base : Nat} {v : Value} {os : List F} (h : OwnFlds w base v os) (hb : Below w.heap.size w w') : OwnFlds w' base v os := by
  obtain ⟨us, h1, h0, h2⟩ := h
  refine ⟨us, own_below h1 hb, h0, fun i hi => ?_⟩
  obtain ⟨ta, tn, tc, k1, k2⟩ := h2 i hi
  exact ⟨ta, tn, tc, k1, own_below k2 hb⟩
theorem OwnFlds.form {w : World} {base : Nat} {v : Value} {os : List F} (h : OwnFlds w base v os) : ∃ ad c, v = .slice ad os.length c := by
  obtain ⟨us, h1, _⟩ := h
  exact own_form h1
theorem OwnFlds.to {w : World} {base : Nat} {v : Value} {os : List F} (h : OwnFlds w base v os) : FldsIn w base v os := by
  obtain ⟨ad, c, rfl⟩ := h.form
  obtain ⟨us, h1, _, h2⟩ := h
  have hcap : os.length ≤ c := by
    rcases h1.2 with ⟨hv, h0⟩ | ⟨g, cap2, cur, hv, _, _, h4, _⟩
    · injection hv with _ _ e3; omega
    · injection hv with _ _ e3; omega
  refine fldsIn_own h1 rfl hcap fun i hi => ?_
  obtain ⟨ta, tn, tc, k1, k2⟩ := h2 i hi
  exact ⟨ta, tn, tc, k1, own_bytes k2, own_nil k2, fun x hx => (own_blocks k2 x hx).1⟩
/-- Rows of unlike elements lie in blocks of their own. -/
theorem row_apart {w : World} {b1 b2 s1 s2 n1 n2 n c : Nat} {v : Value} {t1 t2 : TypeId} {us xs : List Value} {ad : Option Addr} (h1 : w.ownsRow b1 t1 s1 v n1 us) (h2 : w.ownsRow b2 t2 s2 (.slice ad n c) n2 xs) (ht : t1 ≠ t2) : ∀ a, ad = some a → ∀ g, v.ownBlock = some g → a.block ≠ g := by
  intro a ha g hg e
  rcases h1.2 with ⟨rfl, _⟩ | ⟨g1, c1, cur1, rfl, _, k1, _⟩
  · cases hg
  · injection hg with hg
    rcases h2.2 with ⟨hv, _⟩ | ⟨g2, c2, cur2, hv, _, k2, _⟩
    · injection hv with e1; rw [ha] at e1; cases e1
    · injection hv with e1
      rw [ha] at e1; injection e1 with e1
      subst e1
      simp only at e hg
      subst hg; subst e
      rw [k1] at k2
      injection k2 with k2
      injection k2 with _ k3
      exact ht k3
theorem own_keeps {w w' : World} {base n c m : Nat} {v : Value} {us : List Value} {ad : Option Addr} {xs : List Value} (h1 : w.ownsRow base 53 2 v m us) (h2 : w.ownsRow base 5 1 (.slice ad n c) n xs) (hg : w.grownBy w' v.ownBlock) : w'.ownsRow base 5 1 (.slice ad n c) n xs := by
  cases hv : v.ownBlock with
  | none =>
    rw [hv] at hg
    exact own_below h2 (belowg hg)
  | some g =>
    rw [hv] at hg
    exact own_apart h2 hg (fun a ha => row_apart h1 h2 (by decide) a ha g hv)
theorem infoF : (Tryd.prog.info? 53).map (fun i => (i.zero, i.size, i.bytes)) = some (some (.agg #[.int .i64 0, .slice none 0 0]), 2, 32) := by kernel_rfl
theorem fcells_one (o : F) (ta : Option Addr) (tn tc : Nat) : ∀ u ∈ fcells o (.slice ta tn tc), u.oneCell' = true := by
  intro u hu
  simp only [fcells, List.mem_cons, List.not_mem_nil, or_false] at hu
  rcases hu with rfl | rfl <;> rfl
/-- append of one field whose cells lie in block L. -/
theorem append_fld {ops : Array Oper} {rest : List Oper} {o : Oper} {a : Act} {Q : Exit → Act → World → Prop} {w : World} (hgd : o.guard = none) (s x : Operand)
    (ho : o.op = .call { callee := .builtin .append, args := #[s, x], argTypes := #[27, 27] }) (base : Nat) (v : Value) (os : List F) (hs : a.eval s = v) (hown : OwnFlds w base v os)
    (L : Nat) (q : F) (ta : Option Addr) (tn tc : Nat) (hx : a.eval x = .slice (some ⟨L, 0, none⟩) 1 1) (hL : w.heap[L]? = some (.cells (fcells q (.slice ta tn tc)).toArray 53 (0, 0))) (ht : w.ownsRow base 5 1 (.slice ta tn tc) tn (u8s q.t))
    (hn : os.length < 1000000000) (hbase : base ≤ w.heap.size)
    (h : ∀ v' w', OwnFlds w' base v' (os ++ [q]) → w.grownBy w' v.ownBlock → wpList Tryd.prog ops Q rest (a.put o.dst v') w') : wpList Tryd.prog ops Q (o :: rest) a w := by
  obtain ⟨us, h1, _, h2⟩ := hown
  obtain ⟨i0, hi, hz0, hz1, hz2⟩ := info_parts infoF
  refine wpList_append_own _ hgd s x 27 ho base 53 i0 _ 2 32 Tryd.underlying27 hi hz0 hz1 hz2 rfl (by decide) v os.length us hs h1 ⟨L, 0, none⟩ 1 1 (fcells q (.slice ta tn tc)) hx rfl (fun j u hj => ?_) (fcells_one _ _ _ _) (by unfold maxLen; omega) (by omega) hbase fun v' w' k1 k2 _ => h v' w' ⟨_, by rw [List.length_append]; exact k1, fun h0 => by simp at h0, fun i hi => ?_⟩ k2
  · rw [Addr.add_mid, Nat.zero_add, cell_of_row w L j _ _ (0, 0) hL, List.getElem?_toArray]; exact hj
  · have hlen : us.length = os.length * 2 := h1.1
    by_cases hio : i < os.length
    · obtain ⟨ta1, tn1, tc1, k3, k4⟩ := h2 i hio
      have e : (os ++ [q]).getD i noneF = os.getD i noneF := by simp [List.getD_eq_getElem?_getD, List.getElem?_append_left hio]
      rw [e]
      refine ⟨ta1, tn1, tc1, fun j u hj => ?_, own_keeps h1 k4 k2⟩
      have hj8 : j < 2 := by
        rcases Nat.lt_or_ge j 2 with h' | h'
        · exact h'
        · rw [List.getElem?_eq_none (by simp [fcells]; omega)] at hj; cases hj
      rw [List.getElem?_append_left (by omega)]
      exact k3 j u hj
    · rw [List.length_append] at hi
      simp only [List.length_cons, List.length_nil] at hi
      obtain rfl : i = os.length := by omega
      have e : (os ++ [q]).getD os.length noneF = q := by simp
      rw [e]
      refine ⟨ta, tn, tc, fun j u hj => ?_, own_keeps h1 ht k2⟩
      rw [List.getElem?_append_right (by omega), hlen, Nat.add_sub_cancel_left]
      exact hj
end Inp
end Go.Proofs.YtpdlpmbjhopnnaaDoor
