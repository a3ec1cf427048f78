/- AttrSpec, AddrSpec, AddrFirst, OrdSpec, OrdMore, StrSpec in one text (by tools/bundle.py). -/
import Derived.Test.YtpgbnnnfeaodmaaGreatDoorSBunBase
/- Plain: attributes' and writes' numbers, kinds of bytes. -/
namespace Go.Proofs.YtpgbnnnfeaodmaaGreatDoor
namespace Att
open Six
def bit (b : Bool) (n : Nat) : Nat := if b then n else 0
def num (p n m : Bool) (s : Nat) : Nat := bit p 32 + bit n 16 + 4 * s + bit m 1
def wnum (a u r : Bool) : Nat := bit a 4 + bit u 2 + bit r 1
def char (b : Nat) : Bool := b == 0 || b == 28 || b == 30 || (decide (64 ≤ b) && decide (b ≤ 254))
def bare (b : Nat) : Bool := b == 109 || b == 108 || b == 110 || b == 107
def aid (b : Nat) : Bool := bare b || b == 125 || (decide (241 ≤ b) && decide (b ≤ 249)) || (decide (122 ≤ b) && decide (b ≤ 124))
theorem wnum_lt (a u r : Bool) : wnum a u r < 8 := by cases a <;> cases u <;> cases r <;> decide
theorem bare_aid (b : Nat) (h : bare b = true) : aid b = true := by unfold aid; rw [h]; rfl
end Att
end Go.Proofs.YtpgbnnnfeaodmaaGreatDoor
/- Plain: what two bytes are as an address. -/
namespace Go.Proofs.YtpgbnnnfeaodmaaGreatDoor
namespace Adr
open Six
end Adr
end Go.Proofs.YtpgbnnnfeaodmaaGreatDoor
/- Plain: an address's two bytes, and that they are read as it was. -/
namespace Go.Proofs.YtpgbnnnfeaodmaaGreatDoor
namespace Adr
open Six
def first (a n : Nat) : Nat := if n ≤ 4096 then put (a / 64) else a / 256
def second (a n : Nat) : Nat := if n ≤ 4096 then put (a % 64) else a % 256
end Adr
end Go.Proofs.YtpgbnnnfeaodmaaGreatDoor
/- Plain: orders, what is wrong with one, its bytes, and what bytes are as an order. -/
namespace Go.Proofs.YtpgbnnnfeaodmaaGreatDoor
open Six
namespace Ord
open Att
structure O where
  k : Int
  t : List Nat
  p : Bool
  n : Bool
  s : Int
  m : Bool
  a : Int
  c : Nat
def same (x y : O) : Bool := decide (x.k = y.k) && (decide (x.t = y.t) && ((x.p == y.p && (x.n == y.n && (decide (x.s = y.s) && x.m == y.m))) && (decide (x.a = y.a) && decide (x.c = y.c))))
theorem same_iff (x y : O) : same x y = true ↔ x = y := by
  obtain ⟨k, t, p, n, s, m, a, c⟩ := x
  obtain ⟨k', t', p', n', s', m', a', c'⟩ := y
  simp [same, and_assoc]
def none_ : O := ⟨0, [], false, false, 0, false, 0, 0⟩
def own (o : O) : O :=
  if o.k = 1 then ⟨1, o.t, false, false, 0, false, 0, 0⟩
  else if o.k = 2 then ⟨2, [], o.p, o.n, o.s, o.m, 0, 0⟩
  else if o.k = 6 then ⟨6, [], false, false, 0, false, o.a, o.c⟩
  else if o.k = 3 then ⟨3, [], false, false, 0, false, o.a, 0⟩
  else if o.k = 7 then ⟨7, [], false, false, 0, false, o.a, 0⟩
  else ⟨o.k, [], false, false, 0, false, 0, 0⟩
def wrong (o : O) (z : Nat) : Nat :=
  if o.k < 1 ∨ 7 < o.k then 5
  else if same o (own o) = false then 1
  else if o.k = 1 ∧ (o.t = [] ∨ o.t.all char = false) then 1
  else if o.k = 2 ∧ (o.s < 0 ∨ 4 ≤ o.s) then 1
  else if o.k = 6 ∧ char o.c = false then 1
  else if (o.k = 3 ∨ o.k = 6 ∨ o.k = 7) ∧ (o.a < 0 ∨ z ≤ o.a) then 4
  else 0
def begins (k : Int) : Nat := if k = 2 then 29 else if k = 3 then 17 else if k = 4 then 19 else if k = 5 then 5 else if k = 6 then 60 else if k = 7 then 18 else 0
def obytes (o : O) (z : Nat) : List Nat :=
  if o.k = 1 then o.t
  else if o.k = 2 then [29, put (num o.p o.n o.m o.s.toNat)]
  else if o.k = 4 then [19]
  else if o.k = 5 then [5]
  else if o.k = 3 then [17, Adr.first o.a.toNat z, Adr.second o.a.toNat z]
  else if o.k = 7 then [18, Adr.first o.a.toNat z, Adr.second o.a.toNat z]
  else [60, Adr.first o.a.toNat z, Adr.second o.a.toNat z, o.c]
theorem right_cases {o : O} {z : Nat} (h : wrong o z = 0) :
    (∃ t, o = ⟨1, t, false, false, 0, false, 0, 0⟩ ∧ t ≠ [] ∧ t.all char = true) ∨
    (∃ p n m, ∃ s : Nat, o = ⟨2, [], p, n, s, m, 0, 0⟩ ∧ s < 4) ∨
    (∃ a : Nat, o = ⟨3, [], false, false, 0, false, a, 0⟩ ∧ a < z) ∨
    o = ⟨4, [], false, false, 0, false, 0, 0⟩ ∨ o = ⟨5, [], false, false, 0, false, 0, 0⟩ ∨
    (∃ (a : Nat) (c : Nat), o = ⟨6, [], false, false, 0, false, a, c⟩ ∧ a < z ∧ char c = true) ∨
    (∃ a : Nat, o = ⟨7, [], false, false, 0, false, a, 0⟩ ∧ a < z) := by
  unfold wrong at h
  by_cases h1 : o.k < 1 ∨ 7 < o.k
  · rw [if_pos h1] at h; cases h
  rw [if_neg h1] at h
  cases h2 : same o (own o) with
  | false => rw [if_pos h2] at h; cases h
  | true =>
    rw [if_neg (by rw [h2]; decide)] at h
    rw [same_iff] at h2
    obtain ⟨k, t, p, n, s, m, a, c⟩ := o
    simp only at h1 h
    have hk : k = 1 ∨ k = 2 ∨ k = 3 ∨ k = 4 ∨ k = 5 ∨ k = 6 ∨ k = 7 := by omega
    rcases hk with rfl | rfl | rfl | rfl | rfl | rfl | rfl <;> simp [own] at h2
    · obtain ⟨rfl, rfl, rfl, rfl, rfl, rfl⟩ := h2
      refine .inl ⟨t, rfl, ?_⟩
      simp at h
      by_cases ht : t = []
      · simp [ht] at h
      · refine ⟨ht, ?_⟩
        by_cases hc : t.all char = true
        · exact hc
        · exfalso; simp at hc; obtain ⟨x, hx, hc⟩ := hc; simp [ht] at h; have := h x hx; rw [hc] at this; cases this
    · obtain ⟨rfl, rfl, rfl⟩ := h2
      by_cases hs : s < 0 ∨ 4 ≤ s
      · simp [hs] at h
      · obtain ⟨u, rfl⟩ := Int.eq_ofNat_of_zero_le (a := s) (by omega)
        exact .inr (.inl ⟨p, n, m, u, rfl, by omega⟩)
    · obtain ⟨rfl, rfl, rfl, rfl, rfl, rfl⟩ := h2
      by_cases hs : a < 0 ∨ z ≤ a
      · simp [hs] at h
      · obtain ⟨u, rfl⟩ := Int.eq_ofNat_of_zero_le (a := a) (by omega)
        exact .inr (.inr (.inl ⟨u, rfl, by omega⟩))
    · obtain ⟨rfl, rfl, rfl, rfl, rfl, rfl, rfl⟩ := h2
      exact .inr (.inr (.inr (.inl rfl)))
    · obtain ⟨rfl, rfl, rfl, rfl, rfl, rfl, rfl⟩ := h2
      exact .inr (.inr (.inr (.inr (.inl rfl))))
    · obtain ⟨rfl, rfl, rfl, rfl, rfl⟩ := h2
      cases hc : char c with
      | false => simp [hc] at h
      | true =>
        by_cases hs : a < 0 ∨ z ≤ a
        · simp [hs, hc] at h
        · obtain ⟨u, rfl⟩ := Int.eq_ofNat_of_zero_le (a := a) (by omega)
          exact .inr (.inr (.inr (.inr (.inr (.inl ⟨u, c, rfl, by omega, hc⟩)))))
    · obtain ⟨rfl, rfl, rfl, rfl, rfl, rfl⟩ := h2
      by_cases hs : a < 0 ∨ z ≤ a
      · simp [hs] at h
      · obtain ⟨u, rfl⟩ := Int.eq_ofNat_of_zero_le (a := a) (by omega)
        exact .inr (.inr (.inr (.inr (.inr (.inr ⟨u, rfl, by omega⟩)))))
theorem obytes_len {o : O} {z : Nat} (h : wrong o z = 0) : (obytes o z).length ≤ max o.t.length 4 ∧ 1 ≤ (obytes o z).length := by
  rcases right_cases h with ⟨t, rfl, h1, h2⟩ | ⟨p, n, m, s, rfl, hs⟩ | ⟨a, rfl, ha⟩ | rfl | rfl | ⟨a, c, rfl, ha, hc⟩ | ⟨a, rfl, ha⟩ <;> simp [obytes] <;> try omega
  have : 0 < t.length := List.length_pos_iff.2 h1
  omega
end Ord
end Go.Proofs.YtpgbnnnfeaodmaaGreatDoor
/- Plain: what is read is an order that isn't wrong, and is written as it stood; what is written is read, whatever stands behind that is no further character. -/
namespace Go.Proofs.YtpgbnnnfeaodmaaGreatDoor
open Six
namespace Ord
open Att
end Ord
end Go.Proofs.YtpgbnnnfeaodmaaGreatDoor
/- Plain: commands of the host, their bytes, and what bytes are as a command. -/
namespace Go.Proofs.YtpgbnnnfeaodmaaGreatDoor
open Six
namespace Str
open Att Go.Proofs.YtpgbnnnfeaodmaaGreatDoor.Ord
structure Cm where
  cmd : Int
  a : Bool
  u : Bool
  r : Bool
  os : List O
def writes (c : Int) : Bool := c == 241 || c == 245
def known (c : Int) : Bool := writes c || c == 111 || c == 242 || c == 246
def obs (z : Nat) : List O → List Nat
  | [] => []
  | o :: os => obytes o z ++ obs z os
def ow (z : Nat) : Bool → Nat → List O → Nat × Nat
  | _, _, [] => (0, 0)
  | p, i, o :: os => if wrong o z ≠ 0 then (wrong o z, i) else if p = true ∧ o.k = 1 then (1, i) else ow z (decide (o.k = 1)) (i + 1) os
def cwrite (c : Cm) (z : Nat) : List Nat × Nat × Int :=
  if known c.cmd = false then ([], 5, -1)
  else if writes c.cmd = false then if (c.a || c.u || c.r || !c.os.isEmpty) = true then ([], 1, -1) else ([c.cmd.toNat], 0, -1)
  else if (ow z false 0 c.os).1 ≠ 0 then ([], (ow z false 0 c.os).1, (ow z false 0 c.os).2)
  else if 8192 < (obs z c.os).length + 2 then ([], 6, -1)
  else (c.cmd.toNat :: put (wnum c.a c.u c.r) :: obs z c.os, 0, -1)
end Str
end Go.Proofs.YtpgbnnnfeaodmaaGreatDoor
