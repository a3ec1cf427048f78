/- Get of package order, of whatever bytes: the plain function. -/
import Derived.Test.YtllpmgddcpgegaaOrdGet
namespace Go.Proofs.Ytllpmgddcpgegaa
open Go.RowKit Sha Cut Err Six Att Byt
namespace Ord
theorem drop_cons {xs : List Nat} {k : Nat} (h : k < xs.length) : xs.drop k = xs.getD k 0 :: xs.drop (k + 1) := by
  rw [List.drop_eq_getElem_cons h, List.getD_eq_getElem?_getD, List.getElem?_eq_getElem h]; rfl
theorem drop_none {xs : List Nat} {k : Nat} (h : ¬ k < xs.length) : xs.drop k = [] := List.drop_eq_nil_of_le (by omega)
theorem kinds : ∀ b, b < 256 → (kindB b = 0 ∧ char b = false ∧ b ≠ 19 ∧ b ≠ 5 ∧ b ≠ 29 ∧ b ≠ 17 ∧ b ≠ 18 ∧ b ≠ 60) ∨ (kindB b = 1 ∧ char b = true) ∨ (kindB b = 2 ∧ b = 29) ∨ (kindB b = 3 ∧ b = 17) ∨ (kindB b = 4 ∧ b = 19) ∨ (kindB b = 5 ∧ b = 5) ∨ (kindB b = 6 ∧ b = 60) ∨ (kindB b = 7 ∧ b = 18) := by decide +kernel
theorem take_crun (ys : List Nat) : ys.take (Byt.crun ys) = ys.takeWhile char := by
  induction ys with
  | nil => rfl
  | cons y ys ih =>
    cases hy : char y with
    | true =>
      have e : Byt.crun (y :: ys) = Byt.crun ys + 1 := by simp [Byt.crun, List.takeWhile, hy]
      rw [e, List.take_succ_cons, ih]; simp [List.takeWhile, hy]
    | false => simp [Byt.crun, List.takeWhile, hy]
theorem oget_char {b : Nat} {r : List Nat} {z : Nat} (h : char b = true) : oget (b :: r) z = (⟨1, (b :: r).takeWhile char, false, false, 0, false, 0, 0⟩, ((b :: r).takeWhile char).length, 0) := by
  show (if char b then _ else _) = _
  rw [if_pos h]
theorem oget_strange {b : Nat} {r : List Nat} {z : Nat} (h : char b = false) (h1 : b ≠ 19) (h2 : b ≠ 5) (h3 : b ≠ 29) (h4 : b ≠ 17) (h5 : b ≠ 18) (h6 : b ≠ 60) : oget (b :: r) z = (none_, 0, 5) := by
  simp [oget, h, h1, h2, h3, h4, h5, h6]
theorem oget_4 (r : List Nat) (z : Nat) : oget (19 :: r) z = (⟨4, [], false, false, 0, false, 0, 0⟩, 1, 0) := by
  have c0 : char 19 = false := by decide
  simp [oget, c0]
theorem oget_5 (r : List Nat) (z : Nat) : oget (5 :: r) z = (⟨5, [], false, false, 0, false, 0, 0⟩, 1, 0) := by
  have c0 : char 5 = false := by decide
  simp [oget, c0]
theorem oget_2_none (z : Nat) : oget [29] z = (none_, 1, 2) := by
  have c0 : char 29 = false := by decide
  simp [oget, c0]
theorem oget_2_bad (x : Nat) (r : List Nat) (z : Nat) (h : noAttr x = true) : oget (29 :: x :: r) z = (none_, 1, 3) := by
  have c0 : char 29 = false := by decide
  simp [oget, c0, h]
theorem oget_2 (p n m : Bool) (s : Nat) (hs : s < 4) (r : List Nat) (z : Nat) : oget (29 :: put (num p n m s) :: r) z = (⟨2, [], p, n, (s : Int), m, 0, 0⟩, 2, 0) := by
  have hn := num_lt p n m s hs
  have e1 : noAttr (put (num p n m s)) = false := by
    unfold noAttr
    rw [graphic_put _ hn, put_low _ hn]
    cases p <;> cases n <;> cases m <;> simp [num, bit] <;> omega
  have c0 : char 29 = false := by decide
  simp [oget, c0, e1, put_low _ hn]
  cases p <;> cases n <;> cases m <;> simp [num, bit] <;> omega
theorem oget_3 (r : List Nat) (z : Nat) : oget (17 :: r) z = if (Adr.aspec r z).2.1 = 0 then (⟨3, [], false, false, 0, false, (Adr.aspec r z).1, 0⟩, 3, 0) else (none_, 1, (Adr.aspec r z).2.1) := by
  have c0 : char 17 = false := by decide
  simp [oget, c0]
theorem oget_7 (r : List Nat) (z : Nat) : oget (18 :: r) z = if (Adr.aspec r z).2.1 = 0 then (⟨7, [], false, false, 0, false, (Adr.aspec r z).1, 0⟩, 3, 0) else (none_, 1, (Adr.aspec r z).2.1) := by
  have c0 : char 18 = false := by decide
  simp [oget, c0]
theorem oget_6_bad (r : List Nat) (z : Nat) (h : (Adr.aspec r z).2.1 ≠ 0) : oget (60 :: r) z = (none_, 1, (Adr.aspec r z).2.1) := by
  have c0 : char 60 = false := by decide
  simp [oget, c0, h]
theorem oget_6_none (r : List Nat) (z : Nat) (h : (Adr.aspec r z).2.1 = 0) (h2 : r.drop 2 = []) : oget (60 :: r) z = (none_, 3, 2) := by
  have c0 : char 60 = false := by decide
  simp only [oget, c0, h, h2]
  simp
theorem oget_6_cons (r : List Nat) (z c : Nat) (r' : List Nat) (h : (Adr.aspec r z).2.1 = 0) (h2 : r.drop 2 = c :: r') : oget (60 :: r) z = if char c then (⟨6, [], false, false, 0, false, (Adr.aspec r z).1, c⟩, 4, 0) else (none_, 3, 3) := by
  have c0 : char 60 = false := by decide
  simp only [oget, c0, h, h2]
  simp
theorem own_none (w : World) (b : Nat) : w.ownsRow b 5 1 (.slice none 0 0) 0 (u8s []) := World.ownsRow_nil _ _ _ _
/-- Get of bytes that are an order. -/
theorem get_right {C g at_ : Nat} {xs : List Nat} (z : Nat) (w : World) (h : Cur w C g xs at_ .nilIface) (h8 : ∀ x ∈ xs, x < 256) (hx : xs.length < 1000000000) (hw : (oget (xs.drop at_) z).2.2 = 0) :
    Calls Try.prog 13 #[.pointer (some ⟨C, 0, none⟩), .int .i64 (z : Int)] w fun e w' => ∃ va n vc, e = .returned (.agg #[.int .i64 (oget (xs.drop at_) z).1.k, .slice va n vc, .bool (oget (xs.drop at_) z).1.p, .bool (oget (xs.drop at_) z).1.n, .int .i64 (oget (xs.drop at_) z).1.s, .bool (oget (xs.drop at_) z).1.m, .int .i64 (oget (xs.drop at_) z).1.a, .int .u8 ((oget (xs.drop at_) z).1.c : Int)]) ∧
      w'.ownsRow w.heap.size 5 1 (.slice va n vc) n (u8s (oget (xs.drop at_) z).1.t) ∧ Cur w' C g xs (at_ + (oget (xs.drop at_) z).2.1) .nilIface ∧ w.grownBy w' (some C) := by
  by_cases hl : at_ < xs.length
  · have hb := byte_lt h8 (by decide) at_
    have hd := drop_cons hl
    rcases kinds _ hb with ⟨hk, h0, h1, h2, h3, h4, h5, h6⟩ | ⟨hk, h0⟩ | ⟨hk, h0⟩ | ⟨hk, h0⟩ | ⟨hk, h0⟩ | ⟨hk, h0⟩ | ⟨hk, h0⟩ | ⟨hk, h0⟩
    · rw [hd, oget_strange h0 h1 h2 h3 h4 h5 h6] at hw; cases hw
    · have e : oget (xs.drop at_) z = (⟨1, (xs.drop at_).takeWhile char, false, false, 0, false, 0, 0⟩, ((xs.drop at_).takeWhile char).length, 0) := by
        rw [hd]; exact oget_char h0
      rw [e]
      exact (get_1 z w h h8 hx hl hk _ _ rfl (take_crun _)).mono fun e w' ⟨va, vc, he, ho, hu, hg⟩ => ⟨va, _, vc, he, ho, hu, hg⟩
    · rw [hd, h0] at hw
      by_cases hl2 : at_ + 1 < xs.length
      · have hd2 := drop_cons hl2
        have hb2 := byte_lt h8 (by decide) (at_ + 1)
        rw [hd2] at hw
        cases hn : noAttr (xs.getD (at_ + 1) 0) with
        | true => rw [oget_2_bad _ _ _ hn] at hw; cases hw
        | false =>
          obtain ⟨p, n, m, s, hs, hp⟩ := attr_cases _ hb2 hn
          have e : oget (xs.drop at_) z = (⟨2, [], p, n, (s : Int), m, 0, 0⟩, 2, 0) := by
            rw [hd, h0, hd2, hp]; exact oget_2 p n m s hs _ _
          rw [e]
          exact (get_2 z w h h8 hx hl hk hl2 p n m s hs hp).mono fun e w' ⟨he, hu, hg⟩ => ⟨none, 0, 0, he, own_none _ _, hu, hg⟩
      · rw [drop_none hl2, oget_2_none] at hw; cases hw
    · have e := oget_3 (xs.drop (at_ + 1)) z
      rw [← h0, ← hd] at e
      rw [e] at hw ⊢
      by_cases ha : (Adr.aspec (xs.drop (at_ + 1)) z).2.1 = 0
      · rw [if_pos ha]
        exact (get_3 z w h h8 hx hl hk ha).mono fun e w' ⟨he, hu, hg⟩ => ⟨none, 0, 0, he, own_none _ _, hu, hg⟩
      · rw [if_neg ha] at hw; exact absurd hw ha
    · have e := oget_4 (xs.drop (at_ + 1)) z
      rw [← h0, ← hd] at e
      rw [e]
      exact (get_4 z w h h8 hx hl hk).mono fun e w' ⟨he, hu, hg⟩ => ⟨none, 0, 0, he, own_none _ _, hu, hg⟩
    · have e := oget_5 (xs.drop (at_ + 1)) z
      rw [show (5 : Nat) :: xs.drop (at_ + 1) = xs.drop at_ by rw [hd, h0]] at e
      rw [e]
      exact (get_5 z w h h8 hx hl hk).mono fun e w' ⟨he, hu, hg⟩ => ⟨none, 0, 0, he, own_none _ _, hu, hg⟩
    · have e : xs.drop at_ = 60 :: xs.drop (at_ + 1) := by rw [hd, h0]
      by_cases ha : (Adr.aspec (xs.drop (at_ + 1)) z).2.1 = 0
      · by_cases hl4 : at_ + 3 < xs.length
        · have hd4 : (xs.drop (at_ + 1)).drop 2 = xs.getD (at_ + 3) 0 :: xs.drop (at_ + 4) := by rw [List.drop_drop, show at_ + 1 + 2 = at_ + 3 by omega]; exact drop_cons hl4
          have e2 := oget_6_cons (xs.drop (at_ + 1)) z _ _ ha hd4
          rw [← e] at e2
          rw [e2] at hw ⊢
          cases hc : char (xs.getD (at_ + 3) 0) with
          | false => rw [hc] at hw; cases hw
          | true =>
            rw [if_pos rfl]
            exact (get_6 z w h h8 hx hl hk ha hl4 _ rfl hc).mono fun e w' ⟨he, hu, hg⟩ => ⟨none, 0, 0, he, own_none _ _, hu, hg⟩
        · have hd4 : (xs.drop (at_ + 1)).drop 2 = [] := by rw [List.drop_drop]; exact drop_none (by omega)
          rw [e, oget_6_none _ _ ha hd4] at hw; cases hw
      · rw [e, oget_6_bad _ _ ha] at hw; exact absurd hw ha
    · have e := oget_7 (xs.drop (at_ + 1)) z
      rw [← h0, ← hd] at e
      rw [e] at hw ⊢
      by_cases ha : (Adr.aspec (xs.drop (at_ + 1)) z).2.1 = 0
      · rw [if_pos ha]
        exact (get_7 z w h h8 hx hl hk ha).mono fun e w' ⟨he, hu, hg⟩ => ⟨none, 0, 0, he, own_none _ _, hu, hg⟩
      · rw [if_neg ha] at hw; exact absurd hw ha
  · rw [drop_none hl] at hw; cases hw
/-- Get of bytes that are none. -/
theorem get_wrong {C g at_ : Nat} {xs : List Nat} (z : Nat) (w : World) (h : Cur w C g xs at_ .nilIface) (h8 : ∀ x ∈ xs, x < 256) (hx : xs.length < 1000000000) (hw : (oget (xs.drop at_) z).2.2 ≠ 0) :
    Calls Try.prog 13 #[.pointer (some ⟨C, 0, none⟩), .int .i64 (z : Int)] w fun e w' => e = .returned (.agg #[.int .i64 0, .slice none 0 0, .bool false, .bool false, .int .i64 0, .bool false, .int .i64 0, .int .u8 0]) ∧
      ∃ ev, Cur w' C g xs (at_ + (oget (xs.drop at_) z).2.1) ev ∧ Met w' ev ((oget (xs.drop at_) z).2.2 : Int) (at_ + (oget (xs.drop at_) z).2.1) ∧ w.grownBy w' (some C) := by
  by_cases hl : at_ < xs.length
  · have hb := byte_lt h8 (by decide) at_
    have hd := drop_cons hl
    rcases kinds _ hb with ⟨hk, h0, h1, h2, h3, h4, h5, h6⟩ | ⟨hk, h0⟩ | ⟨hk, h0⟩ | ⟨hk, h0⟩ | ⟨hk, h0⟩ | ⟨hk, h0⟩ | ⟨hk, h0⟩ | ⟨hk, h0⟩
    · have e : oget (xs.drop at_) z = (none_, 0, 5) := by rw [hd]; exact oget_strange h0 h1 h2 h3 h4 h5 h6
      rw [e]
      exact get_strange z w h h8 hl hk
    · rw [hd, oget_char h0] at hw; exact absurd rfl hw
    · rw [hd, h0] at hw
      by_cases hl2 : at_ + 1 < xs.length
      · have hd2 := drop_cons hl2
        have hb2 := byte_lt h8 (by decide) (at_ + 1)
        rw [hd2] at hw
        cases hn : noAttr (xs.getD (at_ + 1) 0) with
        | true =>
          have e : oget (xs.drop at_) z = (none_, 1, 3) := by rw [hd, h0, hd2]; exact oget_2_bad _ _ _ hn
          rw [e]
          exact get_2_bad z w h h8 hx hl hk hl2 hn
        | false =>
          obtain ⟨p, n, m, s, hs, hp⟩ := attr_cases _ hb2 hn
          rw [hp, oget_2 p n m s hs] at hw; exact absurd rfl hw
      · have e : oget (xs.drop at_) z = (none_, 1, 2) := by rw [hd, h0, drop_none hl2]; exact oget_2_none _
        rw [e]
        exact get_2_none z w h h8 hx hl hk (by omega)
    · have e := oget_3 (xs.drop (at_ + 1)) z
      rw [← h0, ← hd] at e
      rw [e] at hw ⊢
      by_cases ha : (Adr.aspec (xs.drop (at_ + 1)) z).2.1 = 0
      · rw [if_pos ha] at hw; exact absurd rfl hw
      · rw [if_neg ha]
        exact get_3_bad z w h h8 hx hl hk ha
    · have e := oget_4 (xs.drop (at_ + 1)) z
      rw [← h0, ← hd] at e
      rw [e] at hw
      exact absurd rfl hw
    · have e := oget_5 (xs.drop (at_ + 1)) z
      rw [show (5 : Nat) :: xs.drop (at_ + 1) = xs.drop at_ by rw [hd, h0]] at e
      rw [e] at hw
      exact absurd rfl hw
    · have e : xs.drop at_ = 60 :: xs.drop (at_ + 1) := by rw [hd, h0]
      by_cases ha : (Adr.aspec (xs.drop (at_ + 1)) z).2.1 = 0
      · by_cases hl4 : at_ + 3 < xs.length
        · have hd4 : (xs.drop (at_ + 1)).drop 2 = xs.getD (at_ + 3) 0 :: xs.drop (at_ + 4) := by rw [List.drop_drop, show at_ + 1 + 2 = at_ + 3 by omega]; exact drop_cons hl4
          have e2 := oget_6_cons (xs.drop (at_ + 1)) z _ _ ha hd4
          rw [← e] at e2
          rw [e2] at hw ⊢
          cases hc : char (xs.getD (at_ + 3) 0) with
          | true => rw [hc] at hw; exact absurd rfl hw
          | false =>
            rw [if_neg (by decide)]
            exact get_6_char z w h h8 hx hl hk ha hl4 hc
        · have hd4 : (xs.drop (at_ + 1)).drop 2 = [] := by rw [List.drop_drop]; exact drop_none (by omega)
          have e2 : oget (xs.drop at_) z = (none_, 3, 2) := by rw [e]; exact oget_6_none _ _ ha hd4
          rw [e2]
          exact get_6_none z w h h8 hx hl hk ha (by omega)
      · have e2 : oget (xs.drop at_) z = (none_, 1, (Adr.aspec (xs.drop (at_ + 1)) z).2.1) := by rw [e]; exact oget_6_bad _ _ ha
        rw [e2]
        exact get_6_bad z w h h8 hx hl hk ha
    · have e := oget_7 (xs.drop (at_ + 1)) z
      rw [← h0, ← hd] at e
      rw [e] at hw ⊢
      by_cases ha : (Adr.aspec (xs.drop (at_ + 1)) z).2.1 = 0
      · rw [if_pos ha] at hw; exact absurd rfl hw
      · rw [if_neg ha]
        exact get_7_bad z w h h8 hx hl hk ha
  · have e : oget (xs.drop at_) z = (none_, 0, 2) := by rw [drop_none hl]; rfl
    rw [e]
    exact get_none z w h (by omega)
end Ord
end Go.Proofs.Ytllpmgddcpgegaa
