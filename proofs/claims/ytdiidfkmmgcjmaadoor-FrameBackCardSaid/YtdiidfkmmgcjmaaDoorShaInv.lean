/- What a growing sum holds; plain lemmas on lists. -/
import Derived.Test.YtdiidfkmmgcjmaaDoorShaSpec
namespace Go.Proofs.YtdiidfkmmgcjmaaDoor
namespace Sha

theorem blocks_append (m l : List Nat) : ∀ k, 64 * k ≤ m.length → blocks (m ++ l) k = blocks m k
  | 0, _ => rfl
  | k + 1, h => by
    have e : ((m ++ l).drop (64 * k)).take 64 = (m.drop (64 * k)).take 64 := by
      rw [List.drop_append_of_le_length (by omega), List.take_append_of_le_length (by simp; omega)]
    simp only [blocks]
    rw [blocks_append m l k (by omega), e]
/-- The block waits for what is not yet a whole one. -/
structure Inv (m blk : List Nat) : Prop where
  len : blk.length = 64
  small : ∀ x ∈ blk, x < 256
  tail : blk.take (m.length % 64) = m.drop (64 * (m.length / 64))
/-- The block behind a copy. -/
def laid (m blk l : List Nat) : List Nat := blk.take (m.length % 64) ++ l ++ blk.drop (m.length % 64 + l.length)
theorem laid_length {m blk l : List Nat} (h : Inv m blk) (hl : m.length % 64 + l.length ≤ 64) : (laid m blk l).length = 64 := by
  have := h.len; simp [laid]; omega
theorem laid_small {m blk l : List Nat} (h : Inv m blk) (h8 : ∀ x ∈ l, x < 256) : ∀ x ∈ laid m blk l, x < 256 := by
  intro x hx
  simp only [laid, List.mem_append] at hx
  rcases hx with (hx | hx) | hx
  · exact h.small x (List.mem_of_mem_take hx)
  · exact h8 x hx
  · exact h.small x (List.mem_of_mem_drop hx)
theorem step_part {m blk l : List Nat} (h : Inv m blk) (h8 : ∀ x ∈ l, x < 256) (hl : m.length % 64 + l.length < 64) : stOf (m ++ l) = stOf m ∧ Inv (m ++ l) (laid m blk l) := by
  have hd : (m ++ l).length / 64 = m.length / 64 := by simp; omega
  have hm : (m ++ l).length % 64 = m.length % 64 + l.length := by simp; omega
  refine ⟨by rw [stOf, hd, blocks_append m l _ (by omega), stOf], laid_length h (by omega), laid_small h h8, ?_⟩
  have hlen := h.len
  have e1 : (blk.take (m.length % 64)).length = m.length % 64 := by simp; omega
  rw [hm, hd, laid, List.take_append_of_le_length (by simp; omega), List.take_of_length_le (by simp; omega), List.drop_append_of_le_length (by omega), h.tail]
theorem step_full {m blk l : List Nat} (h : Inv m blk) (h8 : ∀ x ∈ l, x < 256) (hl : m.length % 64 + l.length = 64) : stOf (m ++ l) = mix (stOf m) (words (laid m blk l)) ∧ Inv (m ++ l) (laid m blk l) := by
  have hd : (m ++ l).length / 64 = m.length / 64 + 1 := by simp; omega
  have hm : (m ++ l).length % 64 = 0 := by simp; omega
  have hlen := h.len
  refine ⟨?_, laid_length h (by omega), laid_small h h8, ?_⟩
  · have e : ((m ++ l).drop (64 * (m.length / 64))).take 64 = laid m blk l := by
      have e0 : blk.drop 64 = [] := List.drop_of_length_le (by omega)
      rw [List.drop_append_of_le_length (by omega), laid, h.tail, hl, e0, List.append_nil, List.take_of_length_le (by simp; omega)]
    rw [stOf, hd, blocks, e, blocks_append m l _ (by omega), stOf]
  · rw [hm, hd, List.take_zero, List.drop_of_length_le (by simp; omega)]
theorem inv_nil : Inv [] (List.replicate 64 0) := ⟨by simp, by intro x hx; simp at hx; omega, by simp⟩
theorem stOf_nil : stOf [] = st0 := rfl
theorem stOf_ok (m : List Nat) : (stOf m).Ok := blocks_ok m _
theorem fill_small (n : Nat) : ∀ x ∈ fill n, x < 256 := by
  intro x hx
  simp only [fill, lenBytes, List.mem_cons, List.mem_append, List.mem_replicate, List.not_mem_nil, or_false] at hx
  omega
theorem fill_length (n : Nat) : (fill n).length = zeros n + 9 := by simp [fill, lenBytes]
theorem zeros_lt (n : Nat) : zeros n < 64 := Nat.mod_lt _ (by decide)
end Sha
end Go.Proofs.YtdiidfkmmgcjmaaDoor
