/- Appends to rows of the call's own at a step of a region that draws its order: bytes (none of them, too), and one field. -/
import Derived.Test.YtpdlpmbjhopnnaaDoorInpOwn
import Derived.Deep.AppendLies
import Derived.Deep.RegionHeld3
namespace Go.Proofs.YtpdlpmbjhopnnaaDoor
open Go.RowKit Sha Six Apd
namespace Inp
open Cut
theorem step_app8 {ops : Array Oper} {o : Oper} {a : Act} {w : World} {K : Act → World → Prop} {Q : Exit → Act → World → Prop} {E : Prop} (hgd : o.guard = none) (s x : Operand)
    (ho : o.op = .call { callee := .builtin .append, args := #[s, x], argTypes := #[47, 47] }) (base : Nat) (n : Nat) (us : List Value) (v : Value) (hs : a.eval s = v) (hown : w.ownsRow base 5 1 v n us)
    (ad : Addr) (m c : Nat) (news : List Nat) (hx : a.eval x = .slice (some ad) m c) (hl : news.length = m) (hnews : BytesIn w (.slice (some ad) m c) news) (h63 : n + m < 1000000) (hbase : base ≤ w.heap.size)
    (h : ∀ v' w', w'.ownsRow base 5 1 v' (n + m) (us ++ u8s news) → w.grownBy w' v.ownBlock → K (a.put o.dst v') w') :
    if Region.wanted o (yielded ops a.tmps) = true then Oper.wp Tryd.prog o a w K Q else E := by
  obtain ⟨i0, hi, hz0, hz1, hz2⟩ := info_parts info8
  have hw : Region.wanted o (yielded ops a.tmps) = true := by simp [Region.wanted, hgd]
  rw [if_pos hw]
  obtain ⟨v', w', hr, h2, h3, _, _⟩ := run_append_own_at (P := Tryd.prog) w base 47 o.type 5 i0 (.int .u8 0) 1 1 Tryd.underlying47 hi hz0 hz1 hz2 rfl (by decide) v n us hown ad m c (u8s news) (by rw [u8s_length, hl, Nat.mul_one]) (bytes_src hnews ad rfl) (u8s_one _) (by unfold maxLen; omega) (by omega) hbase
  unfold Oper.wp execOp
  simp only [ho, resolve, invoke, builtin, Sem.run_bind, Sem.run_pure, Result.andThen_ok, List.map_toArray, List.map_cons, List.map_nil, hs, hx, hr]
  exact h v' w' h2 h3
/-- append of one field whose cells lie in block L. -/
theorem step_fld {ops : Array Oper} {o : Oper} {a : Act} {w : World} {K : Act → World → Prop} {Q : Exit → Act → World → Prop} {E : Prop} (hgd : o.guard = none) (s x : Operand)
    (ho : o.op = .call { callee := .builtin .append, args := #[s, x], argTypes := #[27, 27] }) (base : Nat) (v : Value) (os : List F) (hs : a.eval s = v) (hown : OwnFlds w base v os)
    (L : Nat) (q : F) (ta : Option Addr) (tn tc : Nat) (hx : a.eval x = .slice (some ⟨L, 0, none⟩) 1 1) (hL : w.heap[L]? = some (.cells (fcells q (.slice ta tn tc)).toArray 53 (0, 0))) (ht : w.ownsRow base 5 1 (.slice ta tn tc) tn (u8s q.t))
    (hn : os.length < 1000000000) (hbase : base ≤ w.heap.size)
    (h : ∀ v' w', OwnFlds w' base v' (os ++ [q]) → w.grownBy w' v.ownBlock → K (a.put o.dst v') w') :
    if Region.wanted o (yielded ops a.tmps) = true then Oper.wp Tryd.prog o a w K Q else E := by
  have hw : Region.wanted o (yielded ops a.tmps) = true := by simp [Region.wanted, hgd]
  rw [if_pos hw]
  obtain ⟨us, h1, _, h2⟩ := hown
  obtain ⟨i0, hi, hz0, hz1, hz2⟩ := info_parts infoF
  have hsrc : ∀ j u, (fcells q (.slice ta tn tc))[j]? = some u → w.cell? ((⟨L, 0, none⟩ : Addr).add j) = some u := fun j u hj => by
    rw [Addr.add_mid, Nat.zero_add, cell_of_row w L j _ _ (0, 0) hL, List.getElem?_toArray]; exact hj
  obtain ⟨v', w', hr, k1, k2, _, _⟩ := run_append_own_at (P := Tryd.prog) w base 27 o.type 53 i0 _ 2 32 Tryd.underlying27 hi hz0 hz1 hz2 rfl (by decide) v os.length us h1 ⟨L, 0, none⟩ 1 1 (fcells q (.slice ta tn tc)) rfl hsrc (fcells_one _ _ _ _) (by unfold maxLen; omega) (by omega) hbase
  unfold Oper.wp execOp
  simp only [ho, resolve, invoke, builtin, Sem.run_bind, Sem.run_pure, Result.andThen_ok, List.map_toArray, List.map_cons, List.map_nil, hs, hx, hr]
  refine h v' w' ⟨_, by rw [List.length_append]; exact k1, fun h0 => by simp at h0, fun i hi => ?_⟩ k2
  have hlen : us.length = os.length * 2 := h1.1
  by_cases hio : i < os.length
  · obtain ⟨ta1, tn1, tc1, k3, k4⟩ := h2 i hio
    have e : (os ++ [q]).getD i noneF = os.getD i noneF := by simp [List.getD_eq_getElem?_getD, List.getElem?_append_left hio]
    rw [e]
    refine ⟨ta1, tn1, tc1, fun j u hj => ?_, own_keeps h1 k4 k2⟩
    have hj8 : j < 2 := by
      rcases Nat.lt_or_ge j 2 with h' | h'
      · exact h'
      · rw [List.getElem?_eq_none (by simp [fcells]; omega)] at hj; cases hj
    rw [List.getElem?_append_left (by omega)]
    exact k3 j u hj
  · rw [List.length_append] at hi
    simp only [List.length_cons, List.length_nil] at hi
    obtain rfl : i = os.length := by omega
    have e : (os ++ [q]).getD os.length noneF = q := by simp
    rw [e]
    refine ⟨ta, tn, tc, fun j u hj => ?_, own_keeps h1 ht k2⟩
    rw [List.getElem?_append_right (by omega), hlen, Nat.add_sub_cancel_left]
    exact hj
end Inp
end Go.Proofs.YtpdlpmbjhopnnaaDoor
