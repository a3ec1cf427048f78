/- Plain: frames, their bytes, and what bytes are opened as. -/
import Derived.Test.YtdiidfkmmgcjmaaDoorMacSpec
namespace Go.Proofs.YtdiidfkmmgcjmaaDoor
set_option linter.unusedVariables false
namespace Frm
/-- A frame. -/
structure F where
  d : Int
  q : Int
  b : List Nat
def none_ : F := ⟨0, 0, []⟩
def same (x y : F) : Bool := (x.d == y.d) && ((x.q == y.q) && decide (x.b = y.b))
theorem same_iff (x y : F) : same x y = true ↔ x = y := by
  obtain ⟨a, b, c⟩ := x
  obtain ⟨d, e, f⟩ := y
  simp [same]
theorem same_self (x : F) : same x x = true := (same_iff x x).2 rfl
/-- 0: a frame may be; else the error. -/
def wrong (f : F) : Nat := if (f.d ≠ 0 ∧ f.d ≠ 1) ∨ f.q < 1 ∨ 4611686018427387904 < f.q then 1 else if 486 < f.b.length then 6 else 0
/-- Eight bytes of a number, the highest first. -/
def be8 (n : Nat) : List Nat := [n / 72057594037927936 % 256, n / 281474976710656 % 256, n / 1099511627776 % 256, n / 4294967296 % 256, n / 16777216 % 256, n / 65536 % 256, n / 256 % 256, n % 256]
def num (l : List Nat) : Nat := l.foldl (fun a x => a * 256 + x) 0
def head (f : F) : List Nat := 1 :: f.d.toNat :: be8 f.q.toNat
def text (f : F) : List Nat := head f ++ f.b
def tag (k m : List Nat) : List Nat := (Sha.hmac k m).take 16
def seal_ (k : List Nat) (f : F) : List Nat := text f ++ tag k (text f)
/-- What bytes are opened as, and the error. -/
def open_ (k : List Nat) (dir : Int) (b : List Nat) : F × Nat :=
  if b.length < 26 then (none_, 2)
  else if 512 < b.length then (none_, 6)
  else if tag k (b.take (b.length - 16)) ≠ b.drop (b.length - 16) then (none_, 11)
  else if b.getD 0 0 ≠ 1 ∨ (b.getD 1 0 : Int) ≠ dir then (none_, 13)
  else if (dir ≠ 0 ∧ dir ≠ 1) ∨ num ((b.drop 2).take 8) < 1 ∨ 4611686018427387904 < num ((b.drop 2).take 8) then (none_, 1)
  else (⟨dir, num ((b.drop 2).take 8), (b.take (b.length - 16)).drop 10⟩, 0)
theorem tag_len (k m : List Nat) : (tag k m).length = 16 := by
  unfold tag
  rw [List.length_take, Sha.hmac_length]; decide
theorem tag_small (k m : List Nat) : ∀ x ∈ tag k m, x < 256 := fun x hx => Sha.hmac_small k m x (List.mem_of_mem_take hx)
theorem be8_len (n : Nat) : (be8 n).length = 8 := rfl
theorem be8_small (n : Nat) : ∀ x ∈ be8 n, x < 256 := by
  intro x hx
  simp only [be8, List.mem_cons, List.not_mem_nil, or_false] at hx
  rcases hx with rfl | rfl | rfl | rfl | rfl | rfl | rfl | rfl <;> exact Nat.mod_lt _ (by decide)
theorem num8 (a b c d e f g h : Nat) : num [a, b, c, d, e, f, g, h] = ((((((a * 256 + b) * 256 + c) * 256 + d) * 256 + e) * 256 + f) * 256 + g) * 256 + h := by simp [num]
theorem num_be8 {n : Nat} (hn : n < 18446744073709551616) : num (be8 n) = n := by
  unfold be8
  rw [num8]
  have e1 : n / 256 / 256 = n / 65536 := Nat.div_div_eq_div_mul n 256 256
  have e2 : n / 65536 / 256 = n / 16777216 := Nat.div_div_eq_div_mul n 65536 256
  have e3 : n / 16777216 / 256 = n / 4294967296 := Nat.div_div_eq_div_mul n 16777216 256
  have e4 : n / 4294967296 / 256 = n / 1099511627776 := Nat.div_div_eq_div_mul n 4294967296 256
  have e5 : n / 1099511627776 / 256 = n / 281474976710656 := Nat.div_div_eq_div_mul n 1099511627776 256
  have e6 : n / 281474976710656 / 256 = n / 72057594037927936 := Nat.div_div_eq_div_mul n 281474976710656 256
  have h7 : n / 72057594037927936 < 256 := Nat.div_lt_of_lt_mul hn
  have e0 : 256 * (n / 256) + n % 256 = n := Nat.div_add_mod n 256
  rw [Nat.mod_eq_of_lt h7]
  generalize n / 72057594037927936 = a7 at *
  generalize n / 281474976710656 = a6 at *
  generalize n / 1099511627776 = a5 at *
  generalize n / 4294967296 = a4 at *
  generalize n / 16777216 = a3 at *
  generalize n / 65536 = a2 at *
  generalize n / 256 = a1 at *
  generalize n % 256 = a0 at *
  clear hn h7
  omega
theorem be8_num {a b c d e f g h : Nat} (ha : a < 256) (hb : b < 256) (hc : c < 256) (hd : d < 256) (he : e < 256) (hf : f < 256) (hg : g < 256) (hh : h < 256) : be8 (num [a, b, c, d, e, f, g, h]) = [a, b, c, d, e, f, g, h] := by
  rw [num8]
  generalize hn : ((((((a * 256 + b) * 256 + c) * 256 + d) * 256 + e) * 256 + f) * 256 + g) * 256 + h = n
  have e0 : n % 256 = h := by omega
  have q1 : n / 256 = (((((a * 256 + b) * 256 + c) * 256 + d) * 256 + e) * 256 + f) * 256 + g := by omega
  have q2 : n / 65536 = ((((a * 256 + b) * 256 + c) * 256 + d) * 256 + e) * 256 + f := by
    rw [show n / 65536 = n / 256 / 256 from (Nat.div_div_eq_div_mul n 256 256).symm, q1]; omega
  have q3 : n / 16777216 = (((a * 256 + b) * 256 + c) * 256 + d) * 256 + e := by
    rw [show n / 16777216 = n / 65536 / 256 from (Nat.div_div_eq_div_mul n 65536 256).symm, q2]; omega
  have q4 : n / 4294967296 = ((a * 256 + b) * 256 + c) * 256 + d := by
    rw [show n / 4294967296 = n / 16777216 / 256 from (Nat.div_div_eq_div_mul n 16777216 256).symm, q3]; omega
  have q5 : n / 1099511627776 = (a * 256 + b) * 256 + c := by
    rw [show n / 1099511627776 = n / 4294967296 / 256 from (Nat.div_div_eq_div_mul n 4294967296 256).symm, q4]; omega
  have q6 : n / 281474976710656 = a * 256 + b := by
    rw [show n / 281474976710656 = n / 1099511627776 / 256 from (Nat.div_div_eq_div_mul n 1099511627776 256).symm, q5]; omega
  have q7 : n / 72057594037927936 = a := by
    rw [show n / 72057594037927936 = n / 281474976710656 / 256 from (Nat.div_div_eq_div_mul n 281474976710656 256).symm, q6]; omega
  unfold be8
  rw [q1, q2, q3, q4, q5, q6, q7, e0]
  have m1 : ∀ x y : Nat, y < 256 → (x * 256 + y) % 256 = y := fun x y h => by omega
  rw [m1 _ _ hg, m1 _ _ hf, m1 _ _ he, m1 _ _ hd, m1 _ _ hc, m1 _ _ hb, Nat.mod_eq_of_lt ha]
theorem wrong_ok {f : F} (h : wrong f = 0) : (f.d = 0 ∨ f.d = 1) ∧ 1 ≤ f.q ∧ f.q ≤ 4611686018427387904 ∧ f.b.length ≤ 486 := by
  unfold wrong at h
  split at h
  · simp at h
  · split at h
    · simp at h
    · rename_i h1 h2
      exact ⟨by omega, by omega, by omega, by omega⟩
theorem wrong_cases (f : F) : wrong f = 0 ∨ wrong f = 1 ∨ wrong f = 6 := by
  unfold wrong
  split
  · exact .inr (.inl rfl)
  · split
    · exact .inr (.inr rfl)
    · exact .inl rfl
theorem head_len (f : F) : (head f).length = 10 := rfl
theorem text_len (f : F) : (text f).length = 10 + f.b.length := by unfold text; rw [List.length_append, head_len]
theorem seal_len (k : List Nat) (f : F) : (seal_ k f).length = f.b.length + 26 := by unfold seal_; rw [List.length_append, text_len, tag_len]; omega
theorem text_small {f : F} (hd : f.d = 0 ∨ f.d = 1) (hb : ∀ x ∈ f.b, x < 256) : ∀ x ∈ text f, x < 256 := by
  intro x hx
  unfold text head at hx
  rw [List.mem_append, List.mem_cons, List.mem_cons] at hx
  rcases hx with (rfl | rfl | hx) | hx
  · decide
  · rcases hd with h | h <;> rw [h] <;> decide
  · exact be8_small _ x hx
  · exact hb x hx
theorem seal_small {f : F} (k : List Nat) (hd : f.d = 0 ∨ f.d = 1) (hb : ∀ x ∈ f.b, x < 256) : ∀ x ∈ seal_ k f, x < 256 := by
  intro x hx
  unfold seal_ at hx
  rcases List.mem_append.1 hx with hx | hx
  · exact text_small hd hb x hx
  · exact tag_small _ _ x hx
/-- The parts of what is sealed. -/
theorem seal_parts (k : List Nat) (f : F) : (seal_ k f).take ((seal_ k f).length - 16) = text f ∧ (seal_ k f).drop ((seal_ k f).length - 16) = tag k (text f) := by
  have h : (seal_ k f).length - 16 = (text f).length := by rw [seal_len, text_len]; omega
  rw [h]
  unfold seal_
  exact ⟨List.take_left, List.drop_left⟩
theorem seal_get (k : List Nat) (f : F) : (seal_ k f).getD 0 0 = 1 ∧ (seal_ k f).getD 1 0 = f.d.toNat ∧ ((seal_ k f).drop 2).take 8 = be8 f.q.toNat := by
  refine ⟨rfl, rfl, ?_⟩
  show ((be8 f.q.toNat ++ f.b) ++ tag k (text f)).take 8 = _
  rw [List.append_assoc, List.take_append_of_le_length (by rw [be8_len]; exact Nat.le_refl _), List.take_of_length_le (by rw [be8_len]; exact Nat.le_refl _)]
/-- What is sealed is opened as it was. -/
theorem open_seal {f : F} (k : List Nat) (h : wrong f = 0) : open_ k f.d (seal_ k f) = (f, 0) := by
  obtain ⟨hd, h1, h2, h3⟩ := wrong_ok h
  obtain ⟨p1, p2⟩ := seal_parts k f
  obtain ⟨g1, g2, g3⟩ := seal_get k f
  have hn : num (((seal_ k f).drop 2).take 8) = f.q.toNat := by rw [g3]; exact num_be8 (by omega)
  unfold open_
  rw [if_neg (by rw [seal_len]; omega), if_neg (by rw [seal_len]; omega), if_neg (by rw [p1, p2]; simp), if_neg (by rw [g1, g2]; omega), if_neg (by rw [hn]; omega), hn, p1]
  have e : (text f).drop 10 = f.b := by unfold text; rw [← head_len f]; exact List.drop_left
  have eq : ((f.q.toNat : Nat) : Int) = f.q := by omega
  rw [e, eq]
/-- In the other direction it is refused. -/
theorem open_other {f : F} (k : List Nat) (h : wrong f = 0) : open_ k (1 - f.d) (seal_ k f) = (none_, 13) := by
  obtain ⟨hd, h1, h2, h3⟩ := wrong_ok h
  obtain ⟨p1, p2⟩ := seal_parts k f
  obtain ⟨g1, g2, g3⟩ := seal_get k f
  unfold open_
  rw [if_neg (by rw [seal_len]; omega), if_neg (by rw [seal_len]; omega), if_neg (by rw [p1, p2]; simp), if_pos (by rw [g2]; omega)]
theorem list8 {l : List Nat} (h : l.length = 8) : ∃ a b c d e f g h, l = [a, b, c, d, e, f, g, h] := by
  match l, h with
  | [a, b, c, d, e, f, g, h], _ => exact ⟨a, b, c, d, e, f, g, h, rfl⟩
/-- What is opened is sealed as it stood. -/
theorem seal_open {k b : List Nat} {dir : Int} {f : F} (h8 : ∀ x ∈ b, x < 256) (h : open_ k dir b = (f, 0)) : wrong f = 0 ∧ seal_ k f = b ∧ (∀ x ∈ f.b, x < 256) ∧ f.d = dir := by
  unfold open_ at h
  split at h
  · injection h with _ h; cases h
  split at h
  · injection h with _ h; cases h
  split at h
  · injection h with _ h; cases h
  split at h
  · injection h with _ h; cases h
  split at h
  · injection h with _ h; cases h
  rename_i h1 h2 h3 h4 h5
  injection h with h _
  subst h
  have h1 : 26 ≤ b.length := by omega
  obtain ⟨x0, r1, rfl⟩ : ∃ x r, b = x :: r := by
    cases b with
    | nil => simp at h1
    | cons x r => exact ⟨x, r, rfl⟩
  obtain ⟨x1, r, rfl⟩ : ∃ x s, r1 = x :: s := by
    cases r1 with
    | nil => simp at h1
    | cons x s => exact ⟨x, s, rfl⟩
  simp only [List.length_cons] at h1 h2 h3 h5 ⊢
  simp only [List.getD_cons_zero, List.getD_cons_succ] at h4
  have e0 : x0 = 1 := by omega
  have e1 : (x1 : Int) = dir := by omega
  subst e0
  have h3 : tag k ((1 :: x1 :: r).take (r.length + 1 + 1 - 16)) = (1 :: x1 :: r).drop (r.length + 1 + 1 - 16) := Decidable.not_not.1 h3
  simp only [List.drop_succ_cons, List.drop_zero] at h5 ⊢
  obtain ⟨a, b, c, d, e, f, g, hh, h9⟩ := list8 (l := r.take 8) (by rw [List.length_take]; omega)
  have hm : ∀ x ∈ r.take 8, x < 256 := fun x hx => h8 x (by simp [List.mem_of_mem_take hx])
  rw [h9] at hm h5 ⊢
  have hq := be8_num (hm a (by simp)) (hm b (by simp)) (hm c (by simp)) (hm d (by simp)) (hm e (by simp)) (hm f (by simp)) (hm g (by simp)) (hm hh (by simp))
  generalize num [a, b, c, d, e, f, g, hh] = q at *
  have hL : (1 :: x1 :: r).take (r.length + 1 + 1 - 16) = 1 :: x1 :: r.take (r.length - 16) := by
    rw [show r.length + 1 + 1 - 16 = (r.length - 16) + 1 + 1 by omega, List.take_succ_cons, List.take_succ_cons]
  have hbody : ((1 :: x1 :: r).take (r.length + 1 + 1 - 16)).drop 10 = (r.take (r.length - 16)).drop 8 := by
    rw [hL]; rfl
  rw [hbody]
  have htx : text ⟨dir, (q : Int), (r.take (r.length - 16)).drop 8⟩ = (1 :: x1 :: r).take (r.length + 1 + 1 - 16) := by
    rw [hL]
    unfold text head
    simp only [Int.toNat_natCast]
    rw [hq, ← h9, show dir.toNat = x1 by omega]
    show 1 :: x1 :: (r.take 8 ++ (r.take (r.length - 16)).drop 8) = _
    congr 2
    have : (r.take (r.length - 16)).take 8 = r.take 8 := by rw [List.take_take, Nat.min_eq_left (by omega)]
    rw [← this]
    exact List.take_append_drop 8 _
  refine ⟨?_, ?_, fun x hx => h8 x ?_, by first | rfl | trivial⟩
  · unfold wrong
    rw [if_neg (by simp only; omega), if_neg (by simp only [List.length_drop, List.length_take]; omega)]
  · unfold seal_
    rw [htx, h3]
    exact List.take_append_drop _ _
  · have := List.mem_of_mem_take (List.mem_of_mem_drop hx)
    simp [this]
/-- Two frames that may be have the same bytes only if they are alike. -/
theorem seal_inj {k : List Nat} {f g : F} (hf : wrong f = 0) (hg : wrong g = 0) (h : seal_ k f = seal_ k g) : f = g := by
  have h1 := open_seal k hf
  have h2 := open_seal k hg
  have hd : f.d = g.d := by
    have a := (seal_get k f).2.1
    have b := (seal_get k g).2.1
    rw [h, b] at a
    have c := (wrong_ok hf).1
    have d := (wrong_ok hg).1
    omega
  rw [h, hd, h2] at h1
  injection h1 with h1
  exact h1.symm
end Frm
end Go.Proofs.YtdiidfkmmgcjmaaDoor
