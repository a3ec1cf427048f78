/- Plain facts for the document's answer: the words of a block, one after another. -/
import Derived.Test.YtdiidfkmmgcjmaaDoorRefFill
namespace Go.Proofs.YtdiidfkmmgcjmaaDoor
open Go.RowKit Cut Apd
namespace Sha
def i64s (l : List Nat) : List Value := l.map fun (x : Nat) => .int .i64 (x : Int)
theorem i64s_length (l : List Nat) : (i64s l).length = l.length := by simp [i64s]
theorem i64s_at {l : List Nat} {i : Nat} (h : i < l.length) : (i64s l)[i]? = some (.int .i64 ((l.getD i 0 : Nat) : Int)) := by simp [i64s, h]
theorem i64s_one (l : List Nat) : ∀ v ∈ i64s l, v.oneCell' = true := by intro v hv; simp [i64s] at hv; obtain ⟨x, _, rfl⟩ := hv; rfl
theorem i64s_cells (l : List Nat) : (i64s l).toArray.all (·.oneCell') = true := all_oneCell_toArray (i64s_one l)
theorem i64s_set (l : List Nat) (i v : Nat) : (i64s l).toArray.setIfInBounds i (.int .i64 (v : Int)) = (i64s (l.set i v)).toArray := by
  simp [i64s, List.map_set]
theorem or_add {a b n : Nat} (h : b < 2 ^ n) : (a * 2 ^ n) ||| b = a * 2 ^ n + b := by
  rw [← Nat.shiftLeft_eq]; exact (Nat.shiftLeft_add_eq_or_of_lt h a).symm
theorem or24 (a : Nat) {b : Nat} (h : b < 16777216) : a * 16777216 ||| b = a * 16777216 + b := or_add (n := 24) h
theorem or16 (a : Nat) {b : Nat} (h : b < 65536) : a * 65536 ||| b = a * 65536 + b := or_add (n := 16) h
theorem or8 (a : Nat) {b : Nat} (h : b < 256) : a * 256 ||| b = a * 256 + b := or_add (n := 8) h
theorem lt24 {x : Nat} (h : x < 256) : x * 65536 < 16777216 := by omega
theorem lt16 {x : Nat} (h : x < 256) : x * 256 < 65536 := by omega
theorem sh1 (a b : Nat) : a * 16777216 + b * 65536 = (a * 256 + b) * 65536 := by omega
theorem sh2 (a b : Nat) : a * 65536 + b * 256 = (a * 256 + b) * 256 := by omega
theorem sh3 (a b c d : Nat) : ((a * 256 + b) * 256 + c) * 256 + d = 16777216 * a + 65536 * b + 256 * c + d := by omega
theorem or_sum {a b c d : Nat} (hb : b < 256) (hc : c < 256) (hd : d < 256) : ((a * 16777216 ||| b * 65536) ||| c * 256) ||| d = 16777216 * a + 65536 * b + 256 * c + d := by
  rw [or24 a (lt24 hb), sh1, or16 _ (lt16 hc), sh2, or8 _ hd, sh3]
theorem be4_sum {b : List Nat} (h : ∀ x ∈ b, x < 256) (t : Nat) : be4 b t = 16777216 * b.getD (4 * t) 0 + 65536 * b.getD (4 * t + 1) 0 + 256 * b.getD (4 * t + 2) 0 + b.getD (4 * t + 3) 0 := by
  have b0 := getD_lt h (by decide) (4 * t)
  have b1 := getD_lt h (by decide) (4 * t + 1)
  have b2 := getD_lt h (by decide) (4 * t + 2)
  have b3 := getD_lt h (by decide) (4 * t + 3)
  unfold be4
  rw [Nat.mod_eq_of_lt (mul24_ b0), Nat.mod_eq_of_lt (mul16_ b1), Nat.mod_eq_of_lt (mul8_ b2)]
  exact or_sum b1 b2 b3
/-- The words, one after another. -/
def wl (b : List Nat) : Nat → List Nat
  | 0 => []
  | k + 1 => wl b k ++ [if k < 16 then be4 b k else wnext (wl b k)]
theorem wl_length (b : List Nat) (k : Nat) : (wl b k).length = k := by induction k with | zero => rfl | succ k ih => simp [wl, ih]
theorem wl_first (b : List Nat) : ∀ k, k ≤ 16 → wl b k = wfirst b k
  | 0, _ => rfl
  | k + 1, h => by rw [wl, wfirst, wl_first b k (by omega), if_pos (by omega)]
theorem wl_ext (b : List Nat) : ∀ j, wl b (16 + j) = wext (wfirst b 16) j
  | 0 => wl_first b 16 (Nat.le_refl _)
  | j + 1 => by rw [← Nat.add_assoc, wl, wext, wl_ext b j, if_neg (by omega)]
theorem wl_words (b : List Nat) : wl b 64 = words b := wl_ext b 48
theorem wl_lt {b : List Nat} (h : ∀ x ∈ b, x < 256) (k : Nat) : ∀ x ∈ wl b k, x < 4294967296 := by
  induction k with
  | zero => intro x hx; simp [wl] at hx
  | succ k ih =>
    intro x hx; simp only [wl, List.mem_append, List.mem_singleton] at hx
    rcases hx with hx | rfl
    · exact ih x hx
    · split
      · exact be4_lt h k
      · exact wnext_lt _
theorem info3 : (Tryd.prog.info? 3).map (fun i => (i.zero, i.size, i.bytes)) = some (some (.int .i64 0), 1, 8) := by kernel_rfl
theorem append_int {ops : Array Oper} {rest : List Oper} {o : Oper} {a : Act} {Q : Exit → Act → World → Prop} {w : World} (hgd : o.guard = none) (s x : Operand)
    (ho : o.op = .call { callee := .builtin .append, args := #[s, x], argTypes := #[109, 109] }) (base : Nat) (v : Value) (n : Nat) (xs : List Value) (hs : a.eval s = v) (hown : w.ownsRow base 3 1 v n xs)
    (g : Nat) (y : Nat) (hx : a.eval x = .slice (some ⟨g, 0, none⟩) 1 1) (hc : w.cell? ⟨g, 0, none⟩ = some (.int .i64 (y : Int))) (h63 : n < 10000000000) (hbase : base ≤ w.heap.size)
    (h : ∀ ad c w', w'.ownsRow base 3 1 (.slice ad (n + 1) c) (n + 1) (xs ++ i64s [y]) → w.grownBy w' v.ownBlock → wpList Tryd.prog ops Q rest (a.put o.dst (.slice ad (n + 1) c)) w') : wpList Tryd.prog ops Q (o :: rest) a w := by
  obtain ⟨i0, hi, hz0, hz1, hz2⟩ := info_parts info3
  refine wpList_append_own _ hgd s x 109 ho base 3 i0 (.int .i64 0) 1 8 Tryd.underlying109 hi hz0 hz1 hz2 rfl (by decide) v n xs hs hown ⟨g, 0, none⟩ 1 1 (i64s [y]) hx rfl ?_ (i64s_one _) (by unfold maxLen; omega) (by omega) hbase ?_
  · intro j u hj
    match j, hj with
    | 0, hj => simp [i64s] at hj; subst hj; exact hc
  · intro v' w' h1 h2 _
    obtain ⟨ad, c, rfl⟩ := row_form' h1
    exact h ad c w' h1 h2
theorem ssig0_val {x : Nat} (hx : x < 4294967296) : bits .xor .i64 (bits .xor .i64 ((rotr x 7 : Nat) : Int) ((rotr x 18 : Nat) : Int)) ((x : Int) / 8) = ((ssig0 x : Nat) : Int) := by
  have h1 := rotr_lt x 7 hx
  have h2 := rotr_lt x 18 hx
  have h3 := xor_lt h1 h2
  rw [div8_, i64_xor_nat _ _ (by omega) (by omega), i64_xor_nat _ _ (by omega) (by omega)]; rfl
theorem ssig1_val {x : Nat} (hx : x < 4294967296) : bits .xor .i64 (bits .xor .i64 ((rotr x 17 : Nat) : Int) ((rotr x 19 : Nat) : Int)) ((x : Int) / 1024) = ((ssig1 x : Nat) : Int) := by
  have h1 := rotr_lt x 17 hx
  have h2 := rotr_lt x 19 hx
  have h3 := xor_lt h1 h2
  rw [div1024_, i64_xor_nat _ _ (by omega) (by omega), i64_xor_nat _ _ (by omega) (by omega)]; rfl
theorem bsig0_val {x : Nat} (hx : x < 4294967296) : bits .xor .i64 (bits .xor .i64 ((rotr x 2 : Nat) : Int) ((rotr x 13 : Nat) : Int)) ((rotr x 22 : Nat) : Int) = ((bsig0 x : Nat) : Int) := by
  have h1 := rotr_lt x 2 hx
  have h2 := rotr_lt x 13 hx
  have h3 := rotr_lt x 22 hx
  have h4 := xor_lt h1 h2
  rw [i64_xor_nat _ _ (by omega) (by omega), i64_xor_nat _ _ (by omega) (by omega)]; rfl
theorem bsig1_val {x : Nat} (hx : x < 4294967296) : bits .xor .i64 (bits .xor .i64 ((rotr x 6 : Nat) : Int) ((rotr x 11 : Nat) : Int)) ((rotr x 25 : Nat) : Int) = ((bsig1 x : Nat) : Int) := by
  have h1 := rotr_lt x 6 hx
  have h2 := rotr_lt x 11 hx
  have h3 := rotr_lt x 25 hx
  have h4 := xor_lt h1 h2
  rw [i64_xor_nat _ _ (by omega) (by omega), i64_xor_nat _ _ (by omega) (by omega)]; rfl
end Sha
end Go.Proofs.YtdiidfkmmgcjmaaDoor
