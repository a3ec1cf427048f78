/- AttrSpec, AddrSpec, AddrFirst, OrdSpec, OrdMore, StrSpec in one text (by tools/bundle.py). -/
import Derived.Test.YtpdlpmbjhopnnaaGreatDoorBunBase
/- Plain: attributes' and writes' numbers, kinds of bytes. -/
namespace Go.Proofs.YtpdlpmbjhopnnaaGreatDoor
namespace Att
open Six
/-- What a mark adds. -/
def bit (b : Bool) (n : Nat) : Nat := if b then n else 0
/-- An attribute's number. -/
def num (p n m : Bool) (s : Nat) : Nat := bit p 32 + bit n 16 + 4 * s + bit m 1
/-- A write's number. -/
def wnum (a u r : Bool) : Nat := bit a 4 + bit u 2 + bit r 1
/-- A byte is a character. -/
def char (b : Nat) : Bool := b == 0 || b == 28 || b == 30 || (decide (64 ≤ b) && decide (b ≤ 254))
/-- A byte is a bare key. -/
def bare (b : Nat) : Bool := b == 109 || b == 108 || b == 110 || b == 107
/-- A byte is a key that asks. -/
def aid (b : Nat) : Bool := bare b || b == 125 || (decide (241 ≤ b) && decide (b ≤ 249)) || (decide (122 ≤ b) && decide (b ≤ 124))
theorem num_lt (p n m : Bool) (s : Nat) (h : s < 4) : num p n m s < 64 := by
  unfold num bit; cases p <;> cases n <;> cases m <;> simp <;> omega
theorem wnum_lt (a u r : Bool) : wnum a u r < 8 := by cases a <;> cases u <;> cases r <;> decide
/-- A byte is that of no attribute. -/
def noAttr (b : Nat) : Bool := !isGraphic b || b % 64 / 2 % 2 == 1
/-- A byte is that of no write. -/
def noWrite (b : Nat) : Bool := !isGraphic b || decide (8 ≤ b % 64)
theorem attr_cases : ∀ b, b < 256 → noAttr b = false → ∃ p n m : Bool, ∃ s, s < 4 ∧ b = put (num p n m s) := by
  have h : ∀ b, b < 256 → noAttr b = true ∨ ([false, true].any fun p => [false, true].any fun n => [false, true].any fun m => [0, 1, 2, 3].any fun s => b == put (num p n m s)) = true := by decide +kernel
  intro b hb hn
  rcases h b hb with h | h
  · rw [hn] at h; cases h
  · rw [List.any_eq_true] at h
    obtain ⟨p, _, h⟩ := h
    rw [List.any_eq_true] at h
    obtain ⟨n, _, h⟩ := h
    rw [List.any_eq_true] at h
    obtain ⟨m, _, h⟩ := h
    rw [List.any_eq_true] at h
    obtain ⟨s, hs, h⟩ := h
    exact ⟨p, n, m, s, by simp at hs; omega, by simpa using h⟩
theorem write_cases : ∀ b, b < 256 → noWrite b = false → ∃ a u r : Bool, b = put (wnum a u r) := by
  have h : ∀ b, b < 256 → noWrite b = true ∨ ([false, true].any fun p => [false, true].any fun n => [false, true].any fun m => b == put (wnum p n m)) = true := by decide +kernel
  intro b hb hn
  rcases h b hb with h | h
  · rw [hn] at h; cases h
  · rw [List.any_eq_true] at h
    obtain ⟨p, _, h⟩ := h
    rw [List.any_eq_true] at h
    obtain ⟨n, _, h⟩ := h
    rw [List.any_eq_true] at h
    obtain ⟨m, _, h⟩ := h
    exact ⟨p, n, m, by simpa using h⟩
theorem aid_char : ∀ b, b < 256 → aid b = true → char b = true := by decide +kernel
theorem bare_aid (b : Nat) (h : bare b = true) : aid b = true := by unfold aid; rw [h]; rfl
theorem char_put : ∀ n, n < 64 → char (put n) = true := by decide +kernel
end Att
end Go.Proofs.YtpdlpmbjhopnnaaGreatDoor
/- Plain: what two bytes are as an address. -/
namespace Go.Proofs.YtpdlpmbjhopnnaaGreatDoor
namespace Adr
open Six
/-- The address, what is wrong (0: nothing), where (-1: at no place). -/
def aspec (ys : List Nat) (n : Int) : Nat × Nat × Int :=
  if n < 1 ∨ 16383 < n then (0, 1, -1)
  else if ys.length < 2 then (0, 2, -1)
  else if n ≤ 4096 then
    if isGraphic (ys.getD 0 0) = false then (0, 3, 0)
    else if isGraphic (ys.getD 1 0) = false then (0, 3, 1)
    else if n ≤ ((64 * (ys.getD 0 0 % 64) + ys.getD 1 0 % 64 : Nat) : Int) then (0, 4, -1)
    else (64 * (ys.getD 0 0 % 64) + ys.getD 1 0 % 64, 0, -1)
  else if 64 ≤ ys.getD 0 0 then (0, 3, 0)
  else if n ≤ ((256 * ys.getD 0 0 + ys.getD 1 0 : Nat) : Int) then (0, 4, -1)
  else (256 * ys.getD 0 0 + ys.getD 1 0, 0, -1)
end Adr
end Go.Proofs.YtpdlpmbjhopnnaaGreatDoor
/- Plain: an address's two bytes, and that they are read as it was. -/
namespace Go.Proofs.YtpdlpmbjhopnnaaGreatDoor
namespace Adr
open Six
/-- The two bytes of an address as it is written. -/
def first (a n : Nat) : Nat := if n ≤ 4096 then put (a / 64) else a / 256
def second (a n : Nat) : Nat := if n ≤ 4096 then put (a % 64) else a % 256
theorem first_lt (x s : Nat) (hx : x < s) (h2 : s ≤ 16383) : first x s < 256 := by
  unfold first
  split
  · exact put_lt _ (by omega)
  · omega
theorem second_lt (x s : Nat) : second x s < 256 := by
  unfold second
  split
  · exact put_lt _ (Nat.mod_lt _ (by decide))
  · omega
theorem aspec_put (a z : Nat) (r : List Nat) (ha : a < z) (h2 : z ≤ 16383) : aspec (first a z :: second a z :: r) z = (a, 0, -1) := by
  unfold aspec
  rw [if_neg (by omega), if_neg (by simp)]
  simp only [List.getD_cons_zero, List.getD_cons_succ]
  by_cases h : z ≤ 4096
  · have e1 : first a z = put (a / 64) := by unfold first; rw [if_pos h]
    have e2 : second a z = put (a % 64) := by unfold second; rw [if_pos h]
    rw [if_pos (by omega), e1, e2, graphic_put _ (by omega), graphic_put _ (by omega), if_neg (by decide), if_neg (by decide), put_low _ (by omega), put_low _ (by omega)]
    rw [if_neg (by omega)]
    congr 1; omega
  · have e1 : first a z = a / 256 := by unfold first; rw [if_neg h]
    have e2 : second a z = a % 256 := by unfold second; rw [if_neg h]
    rw [if_neg (by omega), e1, e2, if_neg (by omega), if_neg (by omega)]
    congr 1; omega
theorem put_aspec (ys : List Nat) (z : Nat) (h8 : ∀ y ∈ ys, y < 256) (h : (aspec ys z).2.1 = 0) :
    ∃ a r, a < z ∧ z ≤ 16383 ∧ ys = first a z :: second a z :: r ∧ aspec ys z = (a, 0, -1) := by
  have hk : ¬ ((z : Int) < 1 ∨ 16383 < (z : Int)) := by
    intro hh; unfold aspec at h; rw [if_pos hh] at h; simp at h
  have hl : ¬ ys.length < 2 := by
    intro hh; unfold aspec at h; rw [if_neg hk, if_pos hh] at h; simp at h
  match ys, hl with
  | [], hl => exact absurd (by simp) hl
  | [_], hl => exact absurd (by simp) hl
  | x :: y :: r, hl =>
    have hx := h8 x (by simp)
    have hy := h8 y (by simp)
    unfold aspec at h
    rw [if_neg hk, if_neg hl] at h
    simp only [List.getD_cons_zero, List.getD_cons_succ] at h
    by_cases h4 : z ≤ 4096
    · rw [if_pos (by omega)] at h
      cases gx : isGraphic x with
      | false => rw [if_pos gx] at h; simp at h
      | true =>
        cases gy : isGraphic y with
        | false => rw [if_neg (by rw [gx]; decide), if_pos gy] at h; simp at h
        | true =>
          rw [if_neg (by rw [gx]; decide), if_neg (by rw [gy]; decide)] at h
          by_cases hb : (z : Int) ≤ ((64 * (x % 64) + y % 64 : Nat) : Int)
          · rw [if_pos hb] at h; simp at h
          · have e1 : first (64 * (x % 64) + y % 64) z = x := by
              unfold first; rw [if_pos h4, show (64 * (x % 64) + y % 64) / 64 = x % 64 by omega]; exact put_of_graphic gx
            have e2 : second (64 * (x % 64) + y % 64) z = y := by
              unfold second; rw [if_pos h4, show (64 * (x % 64) + y % 64) % 64 = y % 64 by omega]; exact put_of_graphic gy
            refine ⟨64 * (x % 64) + y % 64, r, by omega, by omega, by rw [e1, e2], ?_⟩
            have := aspec_put (64 * (x % 64) + y % 64) z r (by omega) (by omega)
            rwa [e1, e2] at this
    · rw [if_neg (by omega)] at h
      by_cases g : 64 ≤ x
      · rw [if_pos g] at h; simp at h
      · rw [if_neg g] at h
        by_cases hb : (z : Int) ≤ ((256 * x + y : Nat) : Int)
        · rw [if_pos hb] at h; simp at h
        · have e1 : first (256 * x + y) z = x := by
            unfold first; rw [if_neg h4]; omega
          have e2 : second (256 * x + y) z = y := by
            unfold second; rw [if_neg h4]; omega
          refine ⟨256 * x + y, r, by omega, by omega, by rw [e1, e2], ?_⟩
          have := aspec_put (256 * x + y) z r (by omega) (by omega)
          rwa [e1, e2] at this
theorem aspec_head (x y : Nat) (r r' : List Nat) (n : Int) : aspec (x :: y :: r) n = aspec (x :: y :: r') n := by
  unfold aspec
  simp only [List.getD_cons_zero, List.getD_cons_succ, List.length_cons]
  rw [if_neg (show ¬ r.length + 1 + 1 < 2 by omega), if_neg (show ¬ r'.length + 1 + 1 < 2 by omega)]
theorem aspec_why (ys : List Nat) (z : Nat) (h1 : 1 ≤ z) (h2 : z ≤ 16383) : (aspec ys z).2.1 ≠ 0 → (aspec ys z).1 = 0 ∧ ((aspec ys z).2.1 = 2 ∨ (aspec ys z).2.1 = 3 ∨ (aspec ys z).2.1 = 4) := by
  unfold aspec
  rw [if_neg (by omega)]
  repeat' split
  all_goals simp
end Adr
end Go.Proofs.YtpdlpmbjhopnnaaGreatDoor
/- Plain: orders, what is wrong with one, its bytes, and what bytes are as an order. -/
namespace Go.Proofs.YtpdlpmbjhopnnaaGreatDoor
open Six
namespace Ord
open Att
/-- An order: its kind, text, attribute (four parts), address, character. -/
structure O where
  k : Int
  t : List Nat
  p : Bool
  n : Bool
  s : Int
  m : Bool
  a : Int
  c : Nat
/-- Two orders are alike. -/
def same (x y : O) : Bool := decide (x.k = y.k) && (decide (x.t = y.t) && ((x.p == y.p && (x.n == y.n && (decide (x.s = y.s) && x.m == y.m))) && (decide (x.a = y.a) && decide (x.c = y.c))))
theorem same_iff (x y : O) : same x y = true ↔ x = y := by
  obtain ⟨k, t, p, n, s, m, a, c⟩ := x
  obtain ⟨k', t', p', n', s', m', a', c'⟩ := y
  simp [same, and_assoc]
def none_ : O := ⟨0, [], false, false, 0, false, 0, 0⟩
/-- The order without the parts that its kind hasn't. -/
def own (o : O) : O :=
  if o.k = 1 then ⟨1, o.t, false, false, 0, false, 0, 0⟩
  else if o.k = 2 then ⟨2, [], o.p, o.n, o.s, o.m, 0, 0⟩
  else if o.k = 6 then ⟨6, [], false, false, 0, false, o.a, o.c⟩
  else if o.k = 3 then ⟨3, [], false, false, 0, false, o.a, 0⟩
  else if o.k = 7 then ⟨7, [], false, false, 0, false, o.a, 0⟩
  else ⟨o.k, [], false, false, 0, false, 0, 0⟩
/-- What is wrong with an order (0: nothing). -/
def wrong (o : O) (z : Nat) : Nat :=
  if o.k < 1 ∨ 7 < o.k then 5
  else if same o (own o) = false then 1
  else if o.k = 1 ∧ (o.t = [] ∨ o.t.all char = false) then 1
  else if o.k = 2 ∧ (o.s < 0 ∨ 4 ≤ o.s) then 1
  else if o.k = 6 ∧ char o.c = false then 1
  else if (o.k = 3 ∨ o.k = 6 ∨ o.k = 7) ∧ (o.a < 0 ∨ z ≤ o.a) then 4
  else 0
/-- The byte with which an order of a kind begins. -/
def begins (k : Int) : Nat := if k = 2 then 29 else if k = 3 then 17 else if k = 4 then 19 else if k = 5 then 5 else if k = 6 then 60 else if k = 7 then 18 else 0
/-- Its bytes. -/
def obytes (o : O) (z : Nat) : List Nat :=
  if o.k = 1 then o.t
  else if o.k = 2 then [29, put (num o.p o.n o.m o.s.toNat)]
  else if o.k = 4 then [19]
  else if o.k = 5 then [5]
  else if o.k = 3 then [17, Adr.first o.a.toNat z, Adr.second o.a.toNat z]
  else if o.k = 7 then [18, Adr.first o.a.toNat z, Adr.second o.a.toNat z]
  else [60, Adr.first o.a.toNat z, Adr.second o.a.toNat z, o.c]
/-- What an order that isn't wrong looks like. -/
theorem right_cases {o : O} {z : Nat} (h : wrong o z = 0) :
    (∃ t, o = ⟨1, t, false, false, 0, false, 0, 0⟩ ∧ t ≠ [] ∧ t.all char = true) ∨
    (∃ p n m, ∃ s : Nat, o = ⟨2, [], p, n, s, m, 0, 0⟩ ∧ s < 4) ∨
    (∃ a : Nat, o = ⟨3, [], false, false, 0, false, a, 0⟩ ∧ a < z) ∨
    o = ⟨4, [], false, false, 0, false, 0, 0⟩ ∨ o = ⟨5, [], false, false, 0, false, 0, 0⟩ ∨
    (∃ (a : Nat) (c : Nat), o = ⟨6, [], false, false, 0, false, a, c⟩ ∧ a < z ∧ char c = true) ∨
    (∃ a : Nat, o = ⟨7, [], false, false, 0, false, a, 0⟩ ∧ a < z) := by
  unfold wrong at h
  by_cases h1 : o.k < 1 ∨ 7 < o.k
  · rw [if_pos h1] at h; cases h
  rw [if_neg h1] at h
  cases h2 : same o (own o) with
  | false => rw [if_pos h2] at h; cases h
  | true =>
    rw [if_neg (by rw [h2]; decide)] at h
    rw [same_iff] at h2
    obtain ⟨k, t, p, n, s, m, a, c⟩ := o
    simp only at h1 h
    have hk : k = 1 ∨ k = 2 ∨ k = 3 ∨ k = 4 ∨ k = 5 ∨ k = 6 ∨ k = 7 := by omega
    rcases hk with rfl | rfl | rfl | rfl | rfl | rfl | rfl <;> simp [own] at h2
    · obtain ⟨rfl, rfl, rfl, rfl, rfl, rfl⟩ := h2
      refine .inl ⟨t, rfl, ?_⟩
      simp at h
      by_cases ht : t = []
      · simp [ht] at h
      · refine ⟨ht, ?_⟩
        by_cases hc : t.all char = true
        · exact hc
        · exfalso; simp at hc; obtain ⟨x, hx, hc⟩ := hc; simp [ht] at h; have := h x hx; rw [hc] at this; cases this
    · obtain ⟨rfl, rfl, rfl⟩ := h2
      by_cases hs : s < 0 ∨ 4 ≤ s
      · simp [hs] at h
      · obtain ⟨u, rfl⟩ := Int.eq_ofNat_of_zero_le (a := s) (by omega)
        exact .inr (.inl ⟨p, n, m, u, rfl, by omega⟩)
    · obtain ⟨rfl, rfl, rfl, rfl, rfl, rfl⟩ := h2
      by_cases hs : a < 0 ∨ z ≤ a
      · simp [hs] at h
      · obtain ⟨u, rfl⟩ := Int.eq_ofNat_of_zero_le (a := a) (by omega)
        exact .inr (.inr (.inl ⟨u, rfl, by omega⟩))
    · obtain ⟨rfl, rfl, rfl, rfl, rfl, rfl, rfl⟩ := h2
      exact .inr (.inr (.inr (.inl rfl)))
    · obtain ⟨rfl, rfl, rfl, rfl, rfl, rfl, rfl⟩ := h2
      exact .inr (.inr (.inr (.inr (.inl rfl))))
    · obtain ⟨rfl, rfl, rfl, rfl, rfl⟩ := h2
      cases hc : char c with
      | false => simp [hc] at h
      | true =>
        by_cases hs : a < 0 ∨ z ≤ a
        · simp [hs, hc] at h
        · obtain ⟨u, rfl⟩ := Int.eq_ofNat_of_zero_le (a := a) (by omega)
          exact .inr (.inr (.inr (.inr (.inr (.inl ⟨u, c, rfl, by omega, hc⟩)))))
    · obtain ⟨rfl, rfl, rfl, rfl, rfl, rfl⟩ := h2
      by_cases hs : a < 0 ∨ z ≤ a
      · simp [hs] at h
      · obtain ⟨u, rfl⟩ := Int.eq_ofNat_of_zero_le (a := a) (by omega)
        exact .inr (.inr (.inr (.inr (.inr (.inr ⟨u, rfl, by omega⟩)))))
/-- What bytes are as an order: the order, how many bytes it takes, what is wrong (0: nothing; its place is behind what is taken). -/
def oget (ys : List Nat) (z : Nat) : O × Nat × Nat :=
  match ys with
  | [] => (none_, 0, 2)
  | b :: r =>
    if char b then (⟨1, ys.takeWhile char, false, false, 0, false, 0, 0⟩, (ys.takeWhile char).length, 0)
    else if b = 19 then (⟨4, [], false, false, 0, false, 0, 0⟩, 1, 0)
    else if b = 5 then (⟨5, [], false, false, 0, false, 0, 0⟩, 1, 0)
    else if b = 29 then
      match r with
      | [] => (none_, 1, 2)
      | x :: _ => if noAttr x then (none_, 1, 3) else (⟨2, [], x % 64 / 32 % 2 == 1, x % 64 / 16 % 2 == 1, ((x % 64 / 4 % 4 : Nat) : Int), x % 64 % 2 == 1, 0, 0⟩, 2, 0)
    else if b = 17 then if (Adr.aspec r z).2.1 = 0 then (⟨3, [], false, false, 0, false, (Adr.aspec r z).1, 0⟩, 3, 0) else (none_, 1, (Adr.aspec r z).2.1)
    else if b = 18 then if (Adr.aspec r z).2.1 = 0 then (⟨7, [], false, false, 0, false, (Adr.aspec r z).1, 0⟩, 3, 0) else (none_, 1, (Adr.aspec r z).2.1)
    else if b = 60 then
      if (Adr.aspec r z).2.1 = 0 then
        match r.drop 2 with
        | [] => (none_, 3, 2)
        | c :: _ => if char c then (⟨6, [], false, false, 0, false, (Adr.aspec r z).1, c⟩, 4, 0) else (none_, 3, 3)
      else (none_, 1, (Adr.aspec r z).2.1)
    else (none_, 0, 5)
theorem takeWhile_all {t : List Nat} (h : t.all char = true) (x : Nat) (r : List Nat) (hx : char x = false) : (t ++ x :: r).takeWhile char = t := by
  induction t with
  | nil => simp [hx]
  | cons y t ih =>
    simp only [List.all_cons, Bool.and_eq_true] at h
    simp [h.1, ih h.2]
/-- What is written is read as it was, if no character stands behind. -/
theorem oget_bytes {o : O} {z : Nat} (h : wrong o z = 0) (hz : z ≤ 16383) (x : Nat) (r : List Nat) (hx : char x = false) : oget (obytes o z ++ x :: r) z = (o, (obytes o z).length, 0) := by
  rcases right_cases h with ⟨t, rfl, h1, h2⟩ | ⟨p, n, m, s, rfl, hs⟩ | ⟨a, rfl, ha⟩ | rfl | rfl | ⟨a, c, rfl, ha, hc⟩ | ⟨a, rfl, ha⟩
  · simp only [obytes, if_true]
    cases t with
    | nil => exact absurd rfl h1
    | cons y t =>
      have hy : char y = true := by simp only [List.all_cons, Bool.and_eq_true] at h2; exact h2.1
      have e := takeWhile_all h2 x r hx
      show oget (y :: (t ++ x :: r)) z = _
      unfold oget
      simp only [hy, if_true]
      rw [show y :: (t ++ x :: r) = (y :: t) ++ x :: r from rfl, e]
  · have hn := num_lt p n m s hs
    have e1 : noAttr (put (num p n m s)) = false := by
      unfold noAttr
      rw [graphic_put _ hn, put_low _ hn]
      cases p <;> cases n <;> cases m <;> simp [num, bit] <;> omega
    have c0 : char 29 = false := by decide
    simp [obytes, oget, c0, e1, put_low _ hn]
    cases p <;> cases n <;> cases m <;> simp [num, bit] <;> omega
  · have e := Adr.aspec_put a z (x :: r) ha hz
    have c0 : char 17 = false := by decide
    simp [obytes, oget, c0, e]
  · have c0 : char 19 = false := by decide
    simp [obytes, oget, c0]
  · have c0 : char 5 = false := by decide
    simp [obytes, oget, c0]
  · have e := Adr.aspec_put a z (c :: x :: r) ha hz
    have c0 : char 60 = false := by decide
    simp [obytes, oget, c0, e, hc]
  · have e := Adr.aspec_put a z (x :: r) ha hz
    have c0 : char 18 = false := by decide
    simp [obytes, oget, c0, e]
theorem obytes_lt {o : O} {z : Nat} (h : wrong o z = 0) (hz : z ≤ 16383) (ht : ∀ x ∈ o.t, x < 256) (hc : o.c < 256) : ∀ x ∈ obytes o z, x < 256 := by
  rcases right_cases h with ⟨t, rfl, h1, h2⟩ | ⟨p, n, m, s, rfl, hs⟩ | ⟨a, rfl, ha⟩ | rfl | rfl | ⟨a, c, rfl, ha, hcc⟩ | ⟨a, rfl, ha⟩
  · simpa [obytes] using ht
  · have hn := put_lt _ (num_lt p n m s hs)
    simp [obytes]; omega
  · have h1 := Adr.first_lt a z ha hz
    have h2 := Adr.second_lt a z
    simp [obytes]; omega
  · simp [obytes]
  · simp [obytes]
  · have h1 := Adr.first_lt a z ha hz
    have h2 := Adr.second_lt a z
    simp [obytes] at hc ⊢; omega
  · have h1 := Adr.first_lt a z ha hz
    have h2 := Adr.second_lt a z
    simp [obytes]; omega
/-- Two orders are alike just if their bytes are. -/
theorem obytes_inj {o q : O} {z : Nat} (ho : wrong o z = 0) (hq : wrong q z = 0) (hz : z ≤ 16383) (h : obytes o z = obytes q z) : o = q := by
  have c0 : char 19 = false := by decide
  have e1 := oget_bytes ho hz 19 [] c0
  have e2 := oget_bytes hq hz 19 [] c0
  rw [h, e2] at e1
  injection e1 with e1 _
  exact e1.symm
theorem obytes_len {o : O} {z : Nat} (h : wrong o z = 0) : (obytes o z).length ≤ max o.t.length 4 ∧ 1 ≤ (obytes o z).length := by
  rcases right_cases h with ⟨t, rfl, h1, h2⟩ | ⟨p, n, m, s, rfl, hs⟩ | ⟨a, rfl, ha⟩ | rfl | rfl | ⟨a, c, rfl, ha, hc⟩ | ⟨a, rfl, ha⟩ <;> simp [obytes] <;> try omega
  have : 0 < t.length := List.length_pos_iff.2 h1
  omega
end Ord
end Go.Proofs.YtpdlpmbjhopnnaaGreatDoor
/- Plain: what is read is an order that isn't wrong, and is written as it stood; what is written is read, whatever stands behind that is no further character. -/
namespace Go.Proofs.YtpdlpmbjhopnnaaGreatDoor
open Six
namespace Ord
open Att
theorem takeWhile_end {t : List Nat} (h : t.all char = true) {r : List Nat} (hr : ∀ x r', r = x :: r' → char x = false) : (t ++ r).takeWhile char = t := by
  cases r with
  | nil =>
    rw [List.append_nil]
    induction t with
    | nil => rfl
    | cons y t ih =>
      simp only [List.all_cons, Bool.and_eq_true] at h
      simp [h.1, ih h.2]
  | cons x r => exact takeWhile_all h x r (hr x r rfl)
/-- What is written is read as it was; behind characters no others may stand. -/
theorem oget_put {o : O} {z : Nat} (h : wrong o z = 0) (hz : z ≤ 16383) {r : List Nat} (hr : o.k = 1 → ∀ x r', r = x :: r' → char x = false) : oget (obytes o z ++ r) z = (o, (obytes o z).length, 0) := by
  rcases right_cases h with ⟨t, rfl, h1, h2⟩ | ⟨p, n, m, s, rfl, hs⟩ | ⟨a, rfl, ha⟩ | rfl | rfl | ⟨a, c, rfl, ha, hc⟩ | ⟨a, rfl, ha⟩
  · simp only [obytes, if_true]
    cases t with
    | nil => exact absurd rfl h1
    | cons y t =>
      have hy : char y = true := by simp only [List.all_cons, Bool.and_eq_true] at h2; exact h2.1
      have e := takeWhile_end h2 (hr rfl)
      show oget (y :: (t ++ r)) z = _
      unfold oget
      simp only [hy, if_true]
      rw [show y :: (t ++ r) = (y :: t) ++ r from rfl, e]
  · have hn := num_lt p n m s hs
    have e1 : noAttr (put (num p n m s)) = false := by
      unfold noAttr
      rw [graphic_put _ hn, put_low _ hn]
      cases p <;> cases n <;> cases m <;> simp [num, bit] <;> omega
    have c0 : char 29 = false := by decide
    simp [obytes, oget, c0, e1, put_low _ hn]
    cases p <;> cases n <;> cases m <;> simp [num, bit] <;> omega
  · have e := Adr.aspec_put a z r ha hz
    have c0 : char 17 = false := by decide
    simp [obytes, oget, c0, e]
  · have c0 : char 19 = false := by decide
    simp [obytes, oget, c0]
  · have c0 : char 5 = false := by decide
    simp [obytes, oget, c0]
  · have e := Adr.aspec_put a z (c :: r) ha hz
    have c0 : char 60 = false := by decide
    simp [obytes, oget, c0, e, hc]
  · have e := Adr.aspec_put a z r ha hz
    have c0 : char 18 = false := by decide
    simp [obytes, oget, c0, e]
/-- The first byte of an order that isn't characters is no character. -/
theorem head_char {o : O} {z : Nat} (h : wrong o z = 0) : ∃ x r, obytes o z = x :: r ∧ (o.k ≠ 1 → char x = false) ∧ (o.k = 1 → char x = true) := by
  rcases right_cases h with ⟨t, rfl, h1, h2⟩ | ⟨p, n, m, s, rfl, hs⟩ | ⟨a, rfl, ha⟩ | rfl | rfl | ⟨a, c, rfl, ha, hc⟩ | ⟨a, rfl, ha⟩
  · cases t with
    | nil => exact absurd rfl h1
    | cons y t =>
      simp only [List.all_cons, Bool.and_eq_true] at h2
      exact ⟨y, t, rfl, fun h => absurd rfl h, fun _ => h2.1⟩
  · exact ⟨29, _, rfl, fun _ => by decide, fun h => by simp at h⟩
  · exact ⟨17, _, rfl, fun _ => by decide, fun h => by simp at h⟩
  · exact ⟨19, _, rfl, fun _ => by decide, fun h => by simp at h⟩
  · exact ⟨5, _, rfl, fun _ => by decide, fun h => by simp at h⟩
  · exact ⟨60, _, rfl, fun _ => by decide, fun h => by simp at h⟩
  · exact ⟨18, _, rfl, fun _ => by decide, fun h => by simp at h⟩
theorem wrong_text {t : List Nat} {z : Nat} (h1 : t ≠ []) (h2 : t.all char = true) : wrong ⟨1, t, false, false, 0, false, 0, 0⟩ z = 0 := by
  simp only [List.all_eq_true] at h2
  simpa [wrong, same, own, h1] using h2
theorem wrong_attr {p n m : Bool} {s z : Nat} (hs : s < 4) : wrong ⟨2, [], p, n, (s : Int), m, 0, 0⟩ z = 0 := by
  have h : ¬ ((s : Int) < 0 ∨ 4 ≤ (s : Int)) := by omega
  simp [wrong, same, own]
  omega
theorem wrong_3 {a z : Nat} (ha : a < z) : wrong ⟨3, [], false, false, 0, false, (a : Int), 0⟩ z = 0 := by
  simp [wrong, same, own]; omega
theorem wrong_7 {a z : Nat} (ha : a < z) : wrong ⟨7, [], false, false, 0, false, (a : Int), 0⟩ z = 0 := by
  simp [wrong, same, own]; omega
theorem wrong_6 {a c z : Nat} (ha : a < z) (hc : char c = true) : wrong ⟨6, [], false, false, 0, false, (a : Int), c⟩ z = 0 := by
  simp [wrong, same, own, hc]; omega
theorem wrong_4 (z : Nat) : wrong ⟨4, [], false, false, 0, false, 0, 0⟩ z = 0 := by simp [wrong, same, own]
theorem wrong_5 (z : Nat) : wrong ⟨5, [], false, false, 0, false, 0, 0⟩ z = 0 := by simp [wrong, same, own]
/-- What is read is an order that isn't wrong; it is written as it stood, and no character stands behind characters. -/
theorem oget_written {ys : List Nat} {z : Nat} (h8 : ∀ y ∈ ys, y < 256) (h : (oget ys z).2.2 = 0) :
    wrong (oget ys z).1 z = 0 ∧ ∃ r, ys = obytes (oget ys z).1 z ++ r ∧ (oget ys z).2.1 = (obytes (oget ys z).1 z).length ∧ ((oget ys z).1.k = 1 → ∀ x r', r = x :: r' → char x = false) := by
  cases ys with
  | nil => cases h
  | cons b r =>
    have hb := h8 b (by simp)
    cases hc : char b with
    | true =>
      have e : oget (b :: r) z = (⟨1, (b :: r).takeWhile char, false, false, 0, false, 0, 0⟩, ((b :: r).takeWhile char).length, 0) := by
        show (if char b then _ else _) = _
        rw [if_pos hc]
      rw [e]
      have hall : ((b :: r).takeWhile char).all char = true := by
        rw [List.all_eq_true]; intro x hx
        have := List.all_takeWhile (p := char) (l := b :: r)
        rw [List.all_eq_true] at this
        exact this x hx
      refine ⟨wrong_text (by simp [hc]) hall, (b :: r).dropWhile char, ?_, rfl, fun _ x r' he => ?_⟩
      · exact (List.takeWhile_append_dropWhile ..).symm
      · have := List.head?_dropWhile_not char (b :: r)
        rw [he] at this
        simpa using this
    | false =>
      have h0 : (oget (b :: r) z).2.2 = 0 := h
      unfold oget at h0
      simp only [hc] at h0
      by_cases h19 : b = 19
      · subst h19
        have e : oget (19 :: r) z = (⟨4, [], false, false, 0, false, 0, 0⟩, 1, 0) := by simp [oget, hc]
        rw [e]
        exact ⟨wrong_4 z, r, rfl, rfl, fun h => by simp at h⟩
      by_cases h5 : b = 5
      · subst h5
        have e : oget (5 :: r) z = (⟨5, [], false, false, 0, false, 0, 0⟩, 1, 0) := by simp [oget, hc]
        rw [e]
        exact ⟨wrong_5 z, r, rfl, rfl, fun h => by simp at h⟩
      by_cases h29 : b = 29
      · subst h29
        cases r with
        | nil => simp at h0
        | cons x r =>
          have hx := h8 x (by simp)
          cases hn : noAttr x with
          | true => simp [hn] at h0
          | false =>
            obtain ⟨p, n, m, s, hs, rfl⟩ := attr_cases x hx hn
            have e := oget_put (o := ⟨2, [], p, n, (s : Int), m, 0, 0⟩) (z := 1) (wrong_attr hs) (by decide) (r := r) (fun h => by simp at h)
            have e : oget (29 :: put (num p n m s) :: r) z = (⟨2, [], p, n, (s : Int), m, 0, 0⟩, 2, 0) := by
              have hnn := num_lt p n m s hs
              simp [oget, hc, hn, put_low _ hnn]
              cases p <;> cases n <;> cases m <;> simp [num, bit] <;> omega
            rw [e]
            exact ⟨wrong_attr hs, r, by simp [obytes], rfl, fun h => by simp at h⟩
      have addr : ∀ k : Int, (Adr.aspec r z).2.1 = 0 → ∃ a r', a < z ∧ z ≤ 16383 ∧ r = Adr.first a z :: Adr.second a z :: r' ∧ (Adr.aspec r z).1 = a := fun k hw => by
        obtain ⟨a, r', h1, h2, h3, h4⟩ := Adr.put_aspec r z (fun y hy => h8 y (by simp [hy])) hw
        exact ⟨a, r', h1, h2, h3, by rw [h4]⟩
      by_cases h17 : b = 17
      · subst h17
        by_cases hw : (Adr.aspec r z).2.1 = 0
        · obtain ⟨a, r', h1, h2, h3, h4⟩ := addr 3 hw
          have e : oget (17 :: r) z = (⟨3, [], false, false, 0, false, (a : Int), 0⟩, 3, 0) := by simp [oget, hc, hw, h4]
          rw [e]
          exact ⟨wrong_3 h1, r', by simp [obytes, h3], rfl, fun h => by simp at h⟩
        · simp [hw] at h0
      by_cases h18 : b = 18
      · subst h18
        by_cases hw : (Adr.aspec r z).2.1 = 0
        · obtain ⟨a, r', h1, h2, h3, h4⟩ := addr 7 hw
          have e : oget (18 :: r) z = (⟨7, [], false, false, 0, false, (a : Int), 0⟩, 3, 0) := by simp [oget, hc, hw, h4]
          rw [e]
          exact ⟨wrong_7 h1, r', by simp [obytes, h3], rfl, fun h => by simp at h⟩
        · simp [hw] at h0
      by_cases h60 : b = 60
      · subst h60
        by_cases hw : (Adr.aspec r z).2.1 = 0
        · obtain ⟨a, r', h1, h2, h3, h4⟩ := addr 6 hw
          cases r' with
          | nil => simp [h3] at h0; rw [← h3] at h0; simp [hw] at h0
          | cons c r' =>
            have hd : r.drop 2 = c :: r' := by rw [h3]; rfl
            have e : oget (60 :: r) z = if char c then (⟨6, [], false, false, 0, false, (a : Int), c⟩, 4, 0) else (none_, 3, 3) := by
              simp only [oget, hc, hw, hd, h4]; simp
            cases hcc : char c with
            | false => rw [e, hcc] at h; cases h
            | true =>
              rw [e, hcc]
              exact ⟨wrong_6 h1 hcc, r', by simp [obytes, h3], rfl, fun h => by simp at h⟩
        · simp [hw] at h0
      · simp [h19, h5, h29, h17, h18, h60] at h0
end Ord
end Go.Proofs.YtpdlpmbjhopnnaaGreatDoor
/- Plain: commands of the host, their bytes, and what bytes are as a command. -/
namespace Go.Proofs.YtpdlpmbjhopnnaaGreatDoor
open Six
namespace Str
open Att Go.Proofs.YtpdlpmbjhopnnaaGreatDoor.Ord
/-- A command: its number, what a write tells (alarm, unlock, reset), its orders. -/
structure Cm where
  cmd : Int
  a : Bool
  u : Bool
  r : Bool
  os : List O
def noneC : Cm := ⟨0, false, false, false, []⟩
def writes (c : Int) : Bool := c == 241 || c == 245
def known (c : Int) : Bool := writes c || c == 111 || c == 242 || c == 246
/-- The orders' bytes, one behind the other. -/
def obs (z : Nat) : List O → List Nat
  | [] => []
  | o :: os => obytes o z ++ obs z os
/-- What is wrong with orders (0: nothing), and at which (p: characters stood ahead; i: how many stood ahead). -/
def ow (z : Nat) : Bool → Nat → List O → Nat × Nat
  | _, _, [] => (0, 0)
  | p, i, o :: os => if wrong o z ≠ 0 then (wrong o z, i) else if p = true ∧ o.k = 1 then (1, i) else ow z (decide (o.k = 1)) (i + 1) os
/-- A command's bytes; or what is wrong, and where (-1: at no place). -/
def cwrite (c : Cm) (z : Nat) : List Nat × Nat × Int :=
  if known c.cmd = false then ([], 5, -1)
  else if writes c.cmd = false then if (c.a || c.u || c.r || !c.os.isEmpty) = true then ([], 1, -1) else ([c.cmd.toNat], 0, -1)
  else if (ow z false 0 c.os).1 ≠ 0 then ([], (ow z false 0 c.os).1, (ow z false 0 c.os).2)
  else if 8192 < (obs z c.os).length + 2 then ([], 6, -1)
  else (c.cmd.toNat :: put (wnum c.a c.u c.r) :: obs z c.os, 0, -1)
/-- The orders that bytes are (f: fuel, at_: their place); or what is wrong, and where. -/
def ords (z : Nat) : Nat → Nat → List Nat → List O × Nat × Nat
  | 0, at_, _ => ([], 0, at_)
  | _ + 1, at_, [] => ([], 0, at_)
  | f + 1, at_, y :: r =>
    if (oget (y :: r) z).2.2 ≠ 0 then ([], (oget (y :: r) z).2.2, at_ + (oget (y :: r) z).2.1)
    else if (ords z f (at_ + (oget (y :: r) z).2.1) ((y :: r).drop (oget (y :: r) z).2.1)).2.1 ≠ 0 then ([], (ords z f (at_ + (oget (y :: r) z).2.1) ((y :: r).drop (oget (y :: r) z).2.1)).2)
    else ((oget (y :: r) z).1 :: (ords z f (at_ + (oget (y :: r) z).2.1) ((y :: r).drop (oget (y :: r) z).2.1)).1, (ords z f (at_ + (oget (y :: r) z).2.1) ((y :: r).drop (oget (y :: r) z).2.1)).2)
/-- The command that bytes are; or what is wrong, and where. -/
def cread (ys : List Nat) (z : Nat) : Cm × Nat × Int :=
  if 8192 < ys.length then (noneC, 6, 8192)
  else match ys with
  | [] => (noneC, 2, 0)
  | c :: ys1 =>
    if known (c : Int) = false then (noneC, 5, 0)
    else if writes (c : Int) = false then if ys1 ≠ [] then (noneC, 1, 1) else (⟨c, false, false, false, []⟩, 0, -1)
    else match ys1 with
    | [] => (noneC, 2, 1)
    | b :: r =>
      if noWrite b = true then (noneC, 3, 1)
      else if (ords z r.length 2 r).2.1 ≠ 0 then (noneC, (ords z r.length 2 r).2.1, ((ords z r.length 2 r).2.2 : Int))
      else (⟨c, b % 64 / 4 % 2 == 1, b % 64 / 2 % 2 == 1, b % 64 % 2 == 1, (ords z r.length 2 r).1⟩, 0, -1)
theorem obytes_pos {o : O} {z : Nat} (h : wrong o z = 0) : 0 < (obytes o z).length := (obytes_len h).2
/-- Orders that are written are read as they were. -/
theorem ords_put (z : Nat) (hz : z ≤ 16383) : ∀ (os : List O) (p : Bool) (i f at_ : Nat), (ow z p i os).1 = 0 → (obs z os).length ≤ f → ords z f at_ (obs z os) = (os, 0, at_ + (obs z os).length) := by
  intro os
  induction os with
  | nil => intro p i f at_ _ _; cases f <;> simp [obs, ords]
  | cons o os ih =>
    intro p i f at_ h hf
    have hw : wrong o z = 0 := by
      by_cases hw : wrong o z = 0
      · exact hw
      · simp [ow, hw] at h
    simp only [ow, hw, ne_eq, not_true_eq_false, if_false] at h
    by_cases hp : p = true ∧ o.k = 1
    · rw [if_pos hp] at h; cases h
    rw [if_neg hp] at h
    have hpos := obytes_pos hw
    simp only [obs, List.length_append] at hf ⊢
    have hr : o.k = 1 → ∀ x r', obs z os = x :: r' → char x = false := by
      intro hk x r' he
      cases os with
      | nil => simp [obs] at he
      | cons o2 os =>
        have hw2 : wrong o2 z = 0 := by
          by_cases hw2 : wrong o2 z = 0
          · exact hw2
          · simp [ow, hw2] at h
        have hk2 : o2.k ≠ 1 := by
          intro hk2
          simp [ow, hw2, hk, hk2] at h
        obtain ⟨y, r, e, e1, _⟩ := head_char hw2
        simp only [obs, e, List.cons_append] at he
        injection he with he _
        rw [← he]; exact e1 hk2
    have hg := oget_put hw hz hr
    obtain ⟨y, r, e, _, _⟩ := head_char hw
    cases f with
    | zero => omega
    | succ f =>
      have he : obytes o z ++ obs z os = y :: (r ++ obs z os) := by rw [e]; rfl
      rw [he] at hg ⊢
      have hd : (y :: (r ++ obs z os)).drop (obytes o z).length = obs z os := by rw [← he]; simp
      have h2 := ih (decide (o.k = 1)) (i + 1) f (at_ + (obytes o z).length) h (by omega)
      simp only [ords, hg, hd, h2]
      simp; omega
/-- Orders that are read are written as they stood. -/
theorem ords_written (z : Nat) : ∀ (f : Nat) (ys : List Nat) (p : Bool) (i at_ : Nat), (∀ y ∈ ys, y < 256) → (p = true → ∀ x r', ys = x :: r' → char x = false) → ys.length ≤ f → (ords z f at_ ys).2.1 = 0 →
    (ow z p i (ords z f at_ ys).1).1 = 0 ∧ obs z (ords z f at_ ys).1 = ys := by
  intro f
  induction f with
  | zero => intro ys p i at_ _ _ hl _; have : ys = [] := List.eq_nil_of_length_eq_zero (by omega); subst this; simp [ords, ow, obs]
  | succ f ih =>
    intro ys p i at_ h8 hp hl h
    cases ys with
    | nil => simp [ords, ow, obs]
    | cons y r =>
      by_cases h1 : (oget (y :: r) z).2.2 = 0
      · obtain ⟨hw, rest, he, htk, hend⟩ := oget_written h8 h1
        have hpos := obytes_pos hw
        simp only [ords, h1, ne_eq, not_true_eq_false, if_false] at h ⊢
        generalize oget (y :: r) z = q at *
        rw [htk] at h ⊢
        have hd : (y :: r).drop (obytes q.1 z).length = rest := by rw [he]; simp
        rw [hd] at h ⊢
        have hlr : rest.length ≤ f := by
          have := congrArg List.length he
          simp only [List.length_cons, List.length_append] at this hl
          omega
        by_cases h2 : (ords z f (at_ + (obytes q.1 z).length) rest).2.1 = 0
        · rw [if_neg (by rw [h2]; simp)]
          have hk := ih rest (decide (q.1.k = 1)) (i + 1) (at_ + (obytes q.1 z).length) (fun x hx => h8 x (by rw [he]; simp [hx])) (fun hk => hend (by simpa using hk)) hlr h2
          refine ⟨?_, ?_⟩
          · simp only [ow, hw, ne_eq, not_true_eq_false, if_false]
            rw [if_neg]
            · exact hk.1
            · rintro ⟨hp1, hk1⟩
              obtain ⟨x, r', e, _, hc⟩ := head_char hw
              have h3 := hp hp1 y r rfl
              rw [e] at he
              simp only [List.cons_append] at he
              injection he with he _
              rw [he, hc hk1] at h3
              cases h3
          · simp only [obs, hk.2]
            exact he.symm
        · rw [if_pos h2] at h; exact absurd h h2
      · simp [ords, h1] at h
/-- A command that is written is read as it was. -/
theorem cread_write {c : Cm} {z : Nat} (hz : z ≤ 16383) (h : (cwrite c z).2.1 = 0) : cread (cwrite c z).1 z = (c, 0, -1) := by
  obtain ⟨cmd, a, u, r, os⟩ := c
  unfold cwrite at h ⊢
  simp only at h ⊢
  cases hk : known cmd with
  | false => simp [hk] at h
  | true =>
    simp only [hk, Bool.true_eq_false, if_false] at h ⊢
    have hc : cmd = 241 ∨ cmd = 245 ∨ cmd = 111 ∨ cmd = 242 ∨ cmd = 246 := by
      simp [known, writes] at hk; omega
    cases hw : writes cmd with
    | false =>
      simp only [hw, if_true] at h ⊢
      by_cases hn : (a || u || r || !os.isEmpty) = true
      · simp [hn] at h
      · rw [if_neg hn]
        simp at hn
        obtain ⟨⟨⟨rfl, rfl⟩, rfl⟩, rfl⟩ := hn
        have hcc : cmd = 111 ∨ cmd = 242 ∨ cmd = 246 := by
          simp [writes] at hw; omega
        rcases hcc with rfl | rfl | rfl <;> simp [cread, known, writes]
    | true =>
      simp only [hw, Bool.true_eq_false, if_false] at h ⊢
      by_cases h1 : (ow z false 0 os).1 = 0
      · rw [if_neg (by rw [h1]; simp)] at h ⊢
        by_cases h2 : 8192 < (obs z os).length + 2
        · simp [h2] at h
        · rw [if_neg h2]
          have hn := wnum_lt a u r
          have hg : noWrite (put (wnum a u r)) = false := by
            unfold noWrite
            rw [graphic_put _ (by omega), put_low _ (by omega)]
            simp; omega
          have ho := ords_put z hz os false 0 (obs z os).length 2 h1 (Nat.le_refl _)
          have hcc : cmd = 241 ∨ cmd = 245 := by simp [writes] at hw; omega
          have hlen : ¬ 8192 < (cmd.toNat :: put (wnum a u r) :: obs z os).length := by simp only [List.length_cons]; omega
          have hb : (put (wnum a u r) % 64 / 4 % 2 == 1) = a ∧ (put (wnum a u r) % 64 / 2 % 2 == 1) = u ∧ (put (wnum a u r) % 64 % 2 == 1) = r := by
            rw [put_low _ (by omega)]
            cases a <;> cases u <;> cases r <;> decide
          have hb3 : (put (wnum a u r) % 2 == 1) = r := by
            rw [← Nat.mod_mod_of_dvd (put (wnum a u r)) (show 2 ∣ 64 by decide)]; exact hb.2.2
          unfold cread
          rw [if_neg hlen]
          rcases hcc with rfl | rfl <;> simp [known, writes, hg, ho, hb.1, hb.2.1, hb3]
      · rw [if_pos h1] at h; exact absurd h h1
/-- A command that is read is written as it stood. -/
theorem cwrite_read {ys : List Nat} {z : Nat} (h8 : ∀ y ∈ ys, y < 256) (h : (cread ys z).2.1 = 0) : cwrite (cread ys z).1 z = (ys, 0, -1) := by
  unfold cread at h ⊢
  by_cases hl : 8192 < ys.length
  · rw [if_pos hl] at h; cases h
  rw [if_neg hl] at h ⊢
  cases ys with
  | nil => cases h
  | cons c ys1 =>
    simp only at h ⊢
    cases hk : known (c : Int) with
    | false => simp [hk] at h
    | true =>
      simp only [hk, Bool.true_eq_false, if_false] at h ⊢
      cases hw : writes (c : Int) with
      | false =>
        simp only [hw, if_true] at h ⊢
        by_cases hn : ys1 = []
        · subst hn
          simp [cwrite, hk, hw]
        · simp [hn] at h
      | true =>
        simp only [hw, Bool.true_eq_false, if_false] at h ⊢
        cases ys1 with
        | nil => cases h
        | cons b r =>
          simp only at h ⊢
          have hb := h8 b (by simp)
          cases hn : noWrite b with
          | true => simp [hn] at h
          | false =>
            simp only [hn, Bool.false_eq_true, if_false] at h ⊢
            by_cases ho : (ords z r.length 2 r).2.1 = 0
            · rw [if_neg (by rw [ho]; simp)]
              obtain ⟨h1, h2⟩ := ords_written z r.length r false 0 2 (fun y hy => h8 y (by simp [hy])) (fun h => by cases h) (Nat.le_refl _) ho
              obtain ⟨a, u, s, rfl⟩ := write_cases b hb hn
              have hn2 := wnum_lt a u s
              have hbit : (put (wnum a u s) % 64 / 4 % 2 == 1) = a ∧ (put (wnum a u s) % 64 / 2 % 2 == 1) = u ∧ (put (wnum a u s) % 64 % 2 == 1) = s := by
                rw [put_low _ (by omega)]
                cases a <;> cases u <;> cases s <;> decide
              have hll : ¬ 8192 < r.length + 2 := by simp only [List.length_cons] at hl; omega
              simp only [hbit.1, hbit.2.1, hbit.2.2, cwrite, hk, hw, h1, h2, Bool.true_eq_false, if_false, ne_eq, not_true_eq_false, if_neg hll]
              rfl
            · rw [if_pos ho] at h; exact absurd h ho
end Str
end Go.Proofs.YtpdlpmbjhopnnaaGreatDoor
