/- Plain: orders, what is wrong with one, its bytes, and what bytes are as an order. -/
import Derived.Test.YtllpmgddcpgegaaDoorAttrSpec
import Derived.Test.YtllpmgddcpgegaaDoorAddrFirst
namespace Go.Proofs.YtllpmgddcpgegaaDoor
open Six
namespace Ord
open Att
/-- An order: its kind, text, attribute (four parts), address, character. -/
structure O where
  k : Int
  t : List Nat
  p : Bool
  n : Bool
  s : Int
  m : Bool
  a : Int
  c : Nat
/-- Two orders are alike. -/
def same (x y : O) : Bool := decide (x.k = y.k) && (decide (x.t = y.t) && ((x.p == y.p && (x.n == y.n && (decide (x.s = y.s) && x.m == y.m))) && (decide (x.a = y.a) && decide (x.c = y.c))))
theorem same_iff (x y : O) : same x y = true ↔ x = y := by
  obtain ⟨k, t, p, n, s, m, a, c⟩ := x
  obtain ⟨k', t', p', n', s', m', a', c'⟩ := y
  simp [same, and_assoc]
def none_ : O := ⟨0, [], false, false, 0, false, 0, 0⟩
/-- The order without the parts that its kind hasn't. -/
def own (o : O) : O :=
  if o.k = 1 then ⟨1, o.t, false, false, 0, false, 0, 0⟩
  else if o.k = 2 then ⟨2, [], o.p, o.n, o.s, o.m, 0, 0⟩
  else if o.k = 6 then ⟨6, [], false, false, 0, false, o.a, o.c⟩
  else if o.k = 3 then ⟨3, [], false, false, 0, false, o.a, 0⟩
  else if o.k = 7 then ⟨7, [], false, false, 0, false, o.a, 0⟩
  else ⟨o.k, [], false, false, 0, false, 0, 0⟩
/-- What is wrong with an order (0: nothing). -/
def wrong (o : O) (z : Nat) : Nat :=
  if o.k < 1 ∨ 7 < o.k then 5
  else if same o (own o) = false then 1
  else if o.k = 1 ∧ (o.t = [] ∨ o.t.all char = false) then 1
  else if o.k = 2 ∧ (o.s < 0 ∨ 4 ≤ o.s) then 1
  else if o.k = 6 ∧ char o.c = false then 1
  else if (o.k = 3 ∨ o.k = 6 ∨ o.k = 7) ∧ (o.a < 0 ∨ z ≤ o.a) then 4
  else 0
/-- The byte with which an order of a kind begins. -/
def begins (k : Int) : Nat := if k = 2 then 29 else if k = 3 then 17 else if k = 4 then 19 else if k = 5 then 5 else if k = 6 then 60 else if k = 7 then 18 else 0
/-- Its bytes. -/
def obytes (o : O) (z : Nat) : List Nat :=
  if o.k = 1 then o.t
  else if o.k = 2 then [29, put (num o.p o.n o.m o.s.toNat)]
  else if o.k = 4 then [19]
  else if o.k = 5 then [5]
  else if o.k = 3 then [17, Adr.first o.a.toNat z, Adr.second o.a.toNat z]
  else if o.k = 7 then [18, Adr.first o.a.toNat z, Adr.second o.a.toNat z]
  else [60, Adr.first o.a.toNat z, Adr.second o.a.toNat z, o.c]
/-- What an order that isn't wrong looks like. -/
theorem right_cases {o : O} {z : Nat} (h : wrong o z = 0) :
    (∃ t, o = ⟨1, t, false, false, 0, false, 0, 0⟩ ∧ t ≠ [] ∧ t.all char = true) ∨
    (∃ p n m, ∃ s : Nat, o = ⟨2, [], p, n, s, m, 0, 0⟩ ∧ s < 4) ∨
    (∃ a : Nat, o = ⟨3, [], false, false, 0, false, a, 0⟩ ∧ a < z) ∨
    o = ⟨4, [], false, false, 0, false, 0, 0⟩ ∨ o = ⟨5, [], false, false, 0, false, 0, 0⟩ ∨
    (∃ (a : Nat) (c : Nat), o = ⟨6, [], false, false, 0, false, a, c⟩ ∧ a < z ∧ char c = true) ∨
    (∃ a : Nat, o = ⟨7, [], false, false, 0, false, a, 0⟩ ∧ a < z) := by
  unfold wrong at h
  by_cases h1 : o.k < 1 ∨ 7 < o.k
  · rw [if_pos h1] at h; cases h
  rw [if_neg h1] at h
  cases h2 : same o (own o) with
  | false => rw [if_pos h2] at h; cases h
  | true =>
    rw [if_neg (by rw [h2]; decide)] at h
    rw [same_iff] at h2
    obtain ⟨k, t, p, n, s, m, a, c⟩ := o
    simp only at h1 h
    have hk : k = 1 ∨ k = 2 ∨ k = 3 ∨ k = 4 ∨ k = 5 ∨ k = 6 ∨ k = 7 := by omega
    rcases hk with rfl | rfl | rfl | rfl | rfl | rfl | rfl <;> simp [own] at h2
    · obtain ⟨rfl, rfl, rfl, rfl, rfl, rfl⟩ := h2
      refine .inl ⟨t, rfl, ?_⟩
      simp at h
      by_cases ht : t = []
      · simp [ht] at h
      · refine ⟨ht, ?_⟩
        by_cases hc : t.all char = true
        · exact hc
        · exfalso; simp at hc; obtain ⟨x, hx, hc⟩ := hc; simp [ht] at h; have := h x hx; rw [hc] at this; cases this
    · obtain ⟨rfl, rfl, rfl⟩ := h2
      by_cases hs : s < 0 ∨ 4 ≤ s
      · simp [hs] at h
      · obtain ⟨u, rfl⟩ := Int.eq_ofNat_of_zero_le (a := s) (by omega)
        exact .inr (.inl ⟨p, n, m, u, rfl, by omega⟩)
    · obtain ⟨rfl, rfl, rfl, rfl, rfl, rfl⟩ := h2
      by_cases hs : a < 0 ∨ z ≤ a
      · simp [hs] at h
      · obtain ⟨u, rfl⟩ := Int.eq_ofNat_of_zero_le (a := a) (by omega)
        exact .inr (.inr (.inl ⟨u, rfl, by omega⟩))
    · obtain ⟨rfl, rfl, rfl, rfl, rfl, rfl, rfl⟩ := h2
      exact .inr (.inr (.inr (.inl rfl)))
    · obtain ⟨rfl, rfl, rfl, rfl, rfl, rfl, rfl⟩ := h2
      exact .inr (.inr (.inr (.inr (.inl rfl))))
    · obtain ⟨rfl, rfl, rfl, rfl, rfl⟩ := h2
      cases hc : char c with
      | false => simp [hc] at h
      | true =>
        by_cases hs : a < 0 ∨ z ≤ a
        · simp [hs, hc] at h
        · obtain ⟨u, rfl⟩ := Int.eq_ofNat_of_zero_le (a := a) (by omega)
          exact .inr (.inr (.inr (.inr (.inr (.inl ⟨u, c, rfl, by omega, hc⟩)))))
    · obtain ⟨rfl, rfl, rfl, rfl, rfl, rfl⟩ := h2
      by_cases hs : a < 0 ∨ z ≤ a
      · simp [hs] at h
      · obtain ⟨u, rfl⟩ := Int.eq_ofNat_of_zero_le (a := a) (by omega)
        exact .inr (.inr (.inr (.inr (.inr (.inr ⟨u, rfl, by omega⟩)))))
/-- What bytes are as an order: the order, how many bytes it takes, what is wrong (0: nothing; its place is behind what is taken). -/
def oget (ys : List Nat) (z : Nat) : O × Nat × Nat :=
  match ys with
  | [] => (none_, 0, 2)
  | b :: r =>
    if char b then (⟨1, ys.takeWhile char, false, false, 0, false, 0, 0⟩, (ys.takeWhile char).length, 0)
    else if b = 19 then (⟨4, [], false, false, 0, false, 0, 0⟩, 1, 0)
    else if b = 5 then (⟨5, [], false, false, 0, false, 0, 0⟩, 1, 0)
    else if b = 29 then
      match r with
      | [] => (none_, 1, 2)
      | x :: _ => if noAttr x then (none_, 1, 3) else (⟨2, [], x % 64 / 32 % 2 == 1, x % 64 / 16 % 2 == 1, ((x % 64 / 4 % 4 : Nat) : Int), x % 64 % 2 == 1, 0, 0⟩, 2, 0)
    else if b = 17 then if (Adr.aspec r z).2.1 = 0 then (⟨3, [], false, false, 0, false, (Adr.aspec r z).1, 0⟩, 3, 0) else (none_, 1, (Adr.aspec r z).2.1)
    else if b = 18 then if (Adr.aspec r z).2.1 = 0 then (⟨7, [], false, false, 0, false, (Adr.aspec r z).1, 0⟩, 3, 0) else (none_, 1, (Adr.aspec r z).2.1)
    else if b = 60 then
      if (Adr.aspec r z).2.1 = 0 then
        match r.drop 2 with
        | [] => (none_, 3, 2)
        | c :: _ => if char c then (⟨6, [], false, false, 0, false, (Adr.aspec r z).1, c⟩, 4, 0) else (none_, 3, 3)
      else (none_, 1, (Adr.aspec r z).2.1)
    else (none_, 0, 5)
theorem takeWhile_all {t : List Nat} (h : t.all char = true) (x : Nat) (r : List Nat) (hx : char x = false) : (t ++ x :: r).takeWhile char = t := by
  induction t with
  | nil => simp [hx]
  | cons y t ih =>
    simp only [List.all_cons, Bool.and_eq_true] at h
    simp [h.1, ih h.2]
/-- What is written is read as it was, if no character stands behind. -/
theorem oget_bytes {o : O} {z : Nat} (h : wrong o z = 0) (hz : z ≤ 16383) (x : Nat) (r : List Nat) (hx : char x = false) : oget (obytes o z ++ x :: r) z = (o, (obytes o z).length, 0) := by
  rcases right_cases h with ⟨t, rfl, h1, h2⟩ | ⟨p, n, m, s, rfl, hs⟩ | ⟨a, rfl, ha⟩ | rfl | rfl | ⟨a, c, rfl, ha, hc⟩ | ⟨a, rfl, ha⟩
  · simp only [obytes, if_true]
    cases t with
    | nil => exact absurd rfl h1
    | cons y t =>
      have hy : char y = true := by simp only [List.all_cons, Bool.and_eq_true] at h2; exact h2.1
      have e := takeWhile_all h2 x r hx
      show oget (y :: (t ++ x :: r)) z = _
      unfold oget
      simp only [hy, if_true]
      rw [show y :: (t ++ x :: r) = (y :: t) ++ x :: r from rfl, e]
  · have hn := num_lt p n m s hs
    have e1 : noAttr (put (num p n m s)) = false := by
      unfold noAttr
      rw [graphic_put _ hn, put_low _ hn]
      cases p <;> cases n <;> cases m <;> simp [num, bit] <;> omega
    have c0 : char 29 = false := by decide
    simp [obytes, oget, c0, e1, put_low _ hn]
    cases p <;> cases n <;> cases m <;> simp [num, bit] <;> omega
  · have e := Adr.aspec_put a z (x :: r) ha hz
    have c0 : char 17 = false := by decide
    simp [obytes, oget, c0, e]
  · have c0 : char 19 = false := by decide
    simp [obytes, oget, c0]
  · have c0 : char 5 = false := by decide
    simp [obytes, oget, c0]
  · have e := Adr.aspec_put a z (c :: x :: r) ha hz
    have c0 : char 60 = false := by decide
    simp [obytes, oget, c0, e, hc]
  · have e := Adr.aspec_put a z (x :: r) ha hz
    have c0 : char 18 = false := by decide
    simp [obytes, oget, c0, e]
theorem obytes_lt {o : O} {z : Nat} (h : wrong o z = 0) (hz : z ≤ 16383) (ht : ∀ x ∈ o.t, x < 256) (hc : o.c < 256) : ∀ x ∈ obytes o z, x < 256 := by
  rcases right_cases h with ⟨t, rfl, h1, h2⟩ | ⟨p, n, m, s, rfl, hs⟩ | ⟨a, rfl, ha⟩ | rfl | rfl | ⟨a, c, rfl, ha, hcc⟩ | ⟨a, rfl, ha⟩
  · simpa [obytes] using ht
  · have hn := put_lt _ (num_lt p n m s hs)
    simp [obytes]; omega
  · have h1 := Adr.first_lt a z ha hz
    have h2 := Adr.second_lt a z
    simp [obytes]; omega
  · simp [obytes]
  · simp [obytes]
  · have h1 := Adr.first_lt a z ha hz
    have h2 := Adr.second_lt a z
    simp [obytes] at hc ⊢; omega
  · have h1 := Adr.first_lt a z ha hz
    have h2 := Adr.second_lt a z
    simp [obytes]; omega
/-- Two orders are alike just if their bytes are. -/
theorem obytes_inj {o q : O} {z : Nat} (ho : wrong o z = 0) (hq : wrong q z = 0) (hz : z ≤ 16383) (h : obytes o z = obytes q z) : o = q := by
  have c0 : char 19 = false := by decide
  have e1 := oget_bytes ho hz 19 [] c0
  have e2 := oget_bytes hq hz 19 [] c0
  rw [h, e2] at e1
  injection e1 with e1 _
  exact e1.symm
theorem obytes_len {o : O} {z : Nat} (h : wrong o z = 0) : (obytes o z).length ≤ max o.t.length 4 ∧ 1 ≤ (obytes o z).length := by
  rcases right_cases h with ⟨t, rfl, h1, h2⟩ | ⟨p, n, m, s, rfl, hs⟩ | ⟨a, rfl, ha⟩ | rfl | rfl | ⟨a, c, rfl, ha, hc⟩ | ⟨a, rfl, ha⟩ <;> simp [obytes] <;> try omega
  have : 0 < t.length := List.length_pos_iff.2 h1
  omega
end Ord
end Go.Proofs.YtllpmgddcpgegaaDoor
