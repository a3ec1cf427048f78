/- append of bytes to a slice of the call's own. -/
import Derived.Test.YtllpmgddcpgegaaDoorBytes
import Derived.Test.YtllpmgddcpgegaaDoorProg
import Derived.Laws.AppendOwnNone
import Derived.OwnWalk
import Derived.Lib.Hide
namespace Go.Proofs.YtllpmgddcpgegaaDoor
open Go.RowKit
namespace Apd
open Sha
theorem info8 : (Tryd.prog.info? 5).map (fun i => (i.zero, i.size, i.bytes)) = some (some (.int .u8 0), 1, 1) := by kernel_rfl
theorem append_own {ops : Array Oper} {rest : List Oper} {o : Oper} {a : Act} {Q : Exit → Act → World → Prop} {w : World} (hgd : o.guard = none) (s x : Operand)
    (ho : o.op = .call { callee := .builtin .append, args := #[s, x], argTypes := #[22, 22] }) (base : Nat) (v : Value) (n : Nat) (xs : List Value) (hs : a.eval s = v) (hown : w.ownsRow base 5 1 v n xs)
    (ao : Option Addr) (m c : Nat) (news : List Nat) (hx : a.eval x = .slice ao m c) (hl : news.length = m) (hnone : ao = none → m = 0 ∧ c = 0)
    (hnews : ∀ ad, ao = some ad → ∀ j u, (u8s news)[j]? = some u → w.cell? (ad.add j) = some u) (h63 : n + m < 100000000000) (hbase : base ≤ w.heap.size)
    (h : ∀ v' w', w'.ownsRow base 5 1 v' (n + m) (xs ++ u8s news) → w.grownBy w' v.ownBlock → (v' = .slice none 0 0 ↔ v = .slice none 0 0 ∧ m = 0) → wpList Tryd.prog ops Q rest (a.put o.dst v') w') : wpList Tryd.prog ops Q (o :: rest) a w := by
  obtain ⟨i0, hi, hz0, hz1, hz2⟩ := info_parts info8
  cases ao with
  | none =>
    obtain ⟨rfl, rfl⟩ := hnone rfl
    have hn : news = [] := List.eq_nil_of_length_eq_zero hl
    subst hn
    exact wpList_append_own_none hgd s x 22 ho base 5 i0 1 Tryd.underlying22 hi v n xs hs hown hx (h v w (by simpa [u8s] using hown) (grefl _ _) (by simp))
  | some ad =>
    exact wpList_append_own _ hgd s x 22 ho base 5 i0 (.int .u8 0) 1 1 Tryd.underlying22 hi hz0 hz1 hz2 rfl (by decide) v n xs hs hown ad m c (u8s news) hx (by rw [u8s_length, hl, Nat.mul_one]) (hnews ad rfl) (u8s_one _) (by unfold maxLen; omega) (by omega) hbase h
/-- The walk stops here: the goal is hidden. -/
theorem wpList_mark {ops : Array Oper} {rest : List Oper} {o : Oper} {a : Act} {Q : Exit → Act → World → Prop} {w : World} (h : Hid (wpList Tryd.prog ops Q (o :: rest) a w)) : wpList Tryd.prog ops Q (o :: rest) a w := h.out
theorem bytes_src {w : World} {ao : Option Addr} {len cap : Nat} {xs : List Nat} (h : BytesIn w (.slice ao len cap) xs) : ∀ ad, ao = some ad → ∀ j u, (u8s xs)[j]? = some u → w.cell? (ad.add j) = some u := by
  intro ad hA j u hj
  have hjl : j < xs.length := by
    rcases Nat.lt_or_ge j xs.length with h' | h'
    · exact h'
    · rw [List.getElem?_eq_none (by rw [u8s_length]; exact h')] at hj; cases hj
  obtain ⟨ad2, cap2, hv, _, hc⟩ := h
  injection hv with h1 h2 h3
  subst h1
  rcases hc with h0 | ⟨g, off, hg, hc⟩
  · rw [h0] at hjl; simp at hjl
  · rw [hA] at hg
    injection hg with hg
    rw [hg, Addr.add_mid, hc j hjl, ← hj]
    have e := u8s_at hjl
    rw [List.getElem?_toArray] at e
    exact e.symm
theorem own_form {w : World} {base e size n : Nat} {v : Value} {xs : List Value} (h : w.ownsRow base e size v n xs) : ∃ ad c, v = .slice ad n c := by
  rcases h.2 with ⟨rfl, h0⟩ | ⟨g, cap, cur, rfl, _⟩
  · exact ⟨none, 0, by rw [h0]⟩
  · exact ⟨_, _, rfl⟩
end Apd
end Go.Proofs.YtllpmgddcpgegaaDoor
