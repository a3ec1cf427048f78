/- Six cells of a block: loaded, stored one behind the other; zero screens; append of cells. -/
import Derived.Test.YtoacookbfpcncaaGrdMem
import Derived.Laws.AppendOwnNone
import Derived.Laws.ResultCell
namespace Go.Proofs.Ytoacookbfpcncaa
open Go.RowKit Sha Six Apd Cut Err
namespace Grd
theorem free6 {w : World} {B : Nat} {t : TypeId} {cs : Array Value} (h : w.heap[B]? = some (.cells cs t (0, 0))) :
    w.frozen? ⟨B, 0, none⟩ = false ∧ w.frozen? ⟨B, 1, none⟩ = false ∧ w.frozen? ⟨B, 2, none⟩ = false ∧ w.frozen? ⟨B, 3, none⟩ = false ∧ w.frozen? ⟨B, 4, none⟩ = false ∧ w.frozen? ⟨B, 5, none⟩ = false :=
  ⟨frozen_of_row _ _ 0 _ _ h, frozen_of_row _ _ 1 _ _ h, frozen_of_row _ _ 2 _ _ h, frozen_of_row _ _ 3 _ _ h, frozen_of_row _ _ 4 _ _ h, frozen_of_row _ _ 5 _ _ h⟩
theorem cells6 {w : World} {B : Nat} {t : TypeId} {a0 a1 a2 a3 a4 a5 : Value} (h : w.heap[B]? = some (.cells #[a0, a1, a2, a3, a4, a5] t (0, 0))) :
    w.cell? ⟨B, 0, none⟩ = some a0 ∧ w.cell? ⟨B, 1, none⟩ = some a1 ∧ w.cell? ⟨B, 2, none⟩ = some a2 ∧ w.cell? ⟨B, 3, none⟩ = some a3 ∧ w.cell? ⟨B, 4, none⟩ = some a4 ∧ w.cell? ⟨B, 5, none⟩ = some a5 :=
  ⟨cell_of_row _ _ 0 _ _ _ h, cell_of_row _ _ 1 _ _ _ h, cell_of_row _ _ 2 _ _ _ h, cell_of_row _ _ 3 _ _ _ h, cell_of_row _ _ 4 _ _ _ h, cell_of_row _ _ 5 _ _ _ h⟩
theorem below6 {w1 : World} {B : Nat} {t : TypeId} {a0 a1 a2 a3 a4 a5 : Value} (k : w1.heap[B]? = some (.cells #[a0, a1, a2, a3, a4, a5] t (0, 0))) (w' : World) (h : Below w1.heap.size w1 w') :
    Below w1.heap.size w1 w' ∧ w'.cell? ⟨B, 0, none⟩ = some a0 ∧ w'.cell? ⟨B, 1, none⟩ = some a1 ∧ w'.cell? ⟨B, 2, none⟩ = some a2 ∧ w'.cell? ⟨B, 3, none⟩ = some a3 ∧ w'.cell? ⟨B, 4, none⟩ = some a4 ∧ w'.cell? ⟨B, 5, none⟩ = some a5 := ⟨h, cells6 (blk k h)⟩
/-- Six cells of a block, stored one behind the other. -/
theorem over6 (a : World) (B : Nat) (t : TypeId) (a0 a1 a2 a3 a4 a5 u0 u1 u2 u3 u4 u5 : Value) (h : a.heap[B]? = some (.cells #[a0, a1, a2, a3, a4, a5] t (0, 0))) :
    ((((((a.setCell ⟨B, 0, none⟩ u0).setCell ⟨B, 1, none⟩ u1).setCell ⟨B, 2, none⟩ u2).setCell ⟨B, 3, none⟩ u3).setCell ⟨B, 4, none⟩ u4).setCell ⟨B, 5, none⟩ u5).heap[B]? = some (.cells #[u0, u1, u2, u3, u4, u5] t (0, 0)) ∧
    a.grownBy ((((((a.setCell ⟨B, 0, none⟩ u0).setCell ⟨B, 1, none⟩ u1).setCell ⟨B, 2, none⟩ u2).setCell ⟨B, 3, none⟩ u3).setCell ⟨B, 4, none⟩ u4).setCell ⟨B, 5, none⟩ u5) (some B) := by
  have g0 := gsetCell a B 0 u0
  have h : (a.setCell ⟨B, 0, none⟩ u0).heap[B]? = some (.cells #[u0, a1, a2, a3, a4, a5] t (0, 0)) := heap_setCell_same _ B 0 _ t u0 h
  generalize a.setCell ⟨B, 0, none⟩ u0 = b0 at *
  have g1 := gsetCell b0 B 1 u1
  have h : (b0.setCell ⟨B, 1, none⟩ u1).heap[B]? = some (.cells #[u0, u1, a2, a3, a4, a5] t (0, 0)) := heap_setCell_same _ B 1 _ t u1 h
  generalize b0.setCell ⟨B, 1, none⟩ u1 = b1 at *
  have g2 := gsetCell b1 B 2 u2
  have h : (b1.setCell ⟨B, 2, none⟩ u2).heap[B]? = some (.cells #[u0, u1, u2, a3, a4, a5] t (0, 0)) := heap_setCell_same _ B 2 _ t u2 h
  generalize b1.setCell ⟨B, 2, none⟩ u2 = b2 at *
  have g3 := gsetCell b2 B 3 u3
  have h : (b2.setCell ⟨B, 3, none⟩ u3).heap[B]? = some (.cells #[u0, u1, u2, u3, a4, a5] t (0, 0)) := heap_setCell_same _ B 3 _ t u3 h
  generalize b2.setCell ⟨B, 3, none⟩ u3 = b3 at *
  have g4 := gsetCell b3 B 4 u4
  have h : (b3.setCell ⟨B, 4, none⟩ u4).heap[B]? = some (.cells #[u0, u1, u2, u3, u4, a5] t (0, 0)) := heap_setCell_same _ B 4 _ t u4 h
  generalize b3.setCell ⟨B, 4, none⟩ u4 = b4 at *
  have g5 := gsetCell b4 B 5 u5
  have h : (b4.setCell ⟨B, 5, none⟩ u5).heap[B]? = some (.cells #[u0, u1, u2, u3, u4, u5] t (0, 0)) := heap_setCell_same _ B 5 _ t u5 h
  generalize b4.setCell ⟨B, 5, none⟩ u5 = b5 at *
  exact ⟨h, gtrans g0 (gtrans g1 (gtrans g2 (gtrans g3 (gtrans g4 g5))))⟩
/-- A change of a block of the call's own is none below. -/
theorem below_grown {w a b : World} {g : Nat} (h : Below w.heap.size w a) (hg : a.grownBy b (some g)) (hw : w.heap.size ≤ g) : Below w.heap.size w b :=
  h.grown hg h.size (by intro k hk; injection hk with hk; omega)
theorem nil_eqC (w : World) : (binOp BinOp.eql 22 (.slice none 0 0) (.slice none 0 0)).run Try.prog w = .ok (.bool true) w := by kernel_rfl
theorem nil_neC (a : Addr) (n c : Nat) (w : World) : (binOp BinOp.eql 22 (.slice (some a) n c) (.slice none 0 0)).run Try.prog w = .ok (.bool false) w := by kernel_rfl
theorem infoC : (Try.prog.info? 39).map (fun i => (i.zero, i.size, i.bytes)) = some (some (.agg #[.bool false, .bool false, .bool false, .int .i64 0, .bool false, .int .u8 0]), 6, 40) := by kernel_rfl
theorem cels_src {w : World} {ao : Option Addr} {len cap : Nat} {cs : List C} (h : CelsIn w (.slice ao len cap) cs) : ∀ ad, ao = some ad → ∀ j u, (crow cs)[j]? = some u → w.cell? (ad.add j) = some u := by
  intro ad hA j u hj
  have hjl : j < cs.length * 6 := by
    rcases Nat.lt_or_ge j (cs.length * 6) with h' | h'
    · exact h'
    · rw [List.getElem?_eq_none (by rw [crow_len]; exact h')] at hj; cases hj
  obtain ⟨ad2, cap2, hv, _, _, hc⟩ := h
  injection hv with h1 h2 h3
  subst h1
  rcases hc with h0 | ⟨g, off, hg, hc⟩
  · rw [h0] at hjl; simp at hjl
  · rw [hA] at hg
    injection hg with hg
    have e : j = j / 6 * 6 + j % 6 := by omega
    have h6 : j % 6 < 6 := Nat.mod_lt _ (by decide)
    have hq : j / 6 < cs.length := by omega
    rw [e, crow_at cs _ _ hq h6] at hj
    have := hc (j / 6) hq (j % 6) u hj
    rw [hg, Addr.add_mid, show off + j = off + j / 6 * 6 + j % 6 by omega]
    exact this
theorem append_cels {ops : Array Oper} {rest : List Oper} {o : Oper} {a : Act} {Q : Exit → Act → World → Prop} {w : World} (hgd : o.guard = none) (s x : Operand)
    (ho : o.op = .call { callee := .builtin .append, args := #[s, x], argTypes := #[22, 22] }) (base : Nat) (v : Value) (n : Nat) (xs : List C) (hs : a.eval s = v) (hown : w.ownsRow base 39 6 v n (crow xs))
    (ao : Option Addr) (m c : Nat) (news : List C) (hx : a.eval x = .slice ao m c) (hsrc : CelsIn w (.slice ao m c) news) (h63 : n + m < 1000000000) (hbase : base ≤ w.heap.size)
    (h : ∀ v' w', w'.ownsRow base 39 6 v' (n + m) (crow (xs ++ news)) → w.grownBy w' v.ownBlock → wpList Try.prog ops Q rest (a.put o.dst v') w') : wpList Try.prog ops Q (o :: rest) a w := by
  obtain ⟨i0, hi, hz0, hz1, hz2⟩ := info_parts infoC
  have hl : m = news.length := hsrc.len
  have hcr := crow_append xs news
  have hnn : ao = none → m = 0 ∧ c = 0 := by
    obtain ⟨_, _, e, _, hn⟩ := hsrc.form
    injection e with e1 e2 e3
    subst e1 e2 e3
    exact hn
  cases ao with
  | none =>
    obtain ⟨rfl, rfl⟩ := hnn rfl
    have hn : news = [] := List.eq_nil_of_length_eq_zero hl.symm
    subst hn
    exact wpList_append_own_none hgd s x 22 ho base 39 i0 6 Try.underlying22 hi v n (crow xs) hs hown hx (h v w (by simpa using hown) (grefl _ _))
  | some ad =>
    exact wpList_append_own _ hgd s x 22 ho base 39 i0 _ 6 40 Try.underlying22 hi hz0 hz1 hz2 rfl (by decide) v n (crow xs) hs hown ad m c (crow news) hx (by rw [crow_len, hl]) (cels_src hsrc ad rfl) (crow_one _) (by unfold maxLen; omega) (by omega) hbase fun v' w' k1 k2 _ => h v' w' (by rw [hcr]; exact k1) k2
/-- The answer of a copy. -/
def Copied (w w' : World) (s : S) (e : Ending) : Prop := ∃ va vc, e = .returned (.agg #[.int .i64 s.rows, .int .i64 s.cols, .slice va s.cs.length vc, .int .i64 s.cur, .bool s.lk, .bool s.ins]) ∧ OwnCels w' w.heap.size (.slice va s.cs.length vc) s.cs ∧ Below w.heap.size w w'
end Grd
end Go.Proofs.Ytoacookbfpcncaa
