/- Plain: forged datagrams; what a gate has let in. -/
import Derived.Test.YtoiidedigbfnaaaDoorRomSpec
import Derived.Deep.Cut
import Derived.Deep.LoopGhost
import Derived.Deep.RegionLaw
import Derived.Deep.RegionHeld3
import Derived.IntWalk
import Derived.Lib.SmallJoins
namespace Go.Proofs.YtoiidedigbfnaaaDoor
open Go.RowKit
set_option linter.unusedVariables false
set_option linter.unusedSimpArgs false
namespace Rom
open Frm in
/-- A datagram whose last byte was changed is no one's. -/
theorem forged_open {k : List Nat} {f : F} {dir : Int} {x : Nat} (h8 : ∀ y ∈ seal_ k f, y < 256) (hx : x < 256) (hne : x ≠ (seal_ k f).getD ((seal_ k f).length - 1) 0) :
    (open_ k dir ((seal_ k f).set ((seal_ k f).length - 1) x)).2 ≠ 0 := by
  intro h0
  have hl := seal_len k f
  have hp := seal_parts k f
  generalize hm : seal_ k f = m at *
  have hs : ∀ y ∈ m.set (m.length - 1) x, y < 256 := fun y hy => by
    rcases List.mem_or_eq_of_mem_set hy with h | h
    · exact h8 y h
    · omega
  obtain ⟨_, e, _, _⟩ := seal_open (f := (open_ k dir (m.set (m.length - 1) x)).1) hs (by rw [← h0])
  generalize (open_ k dir (m.set (m.length - 1) x)).1 = g at *
  have hp2 := seal_parts k g
  rw [e, List.length_set] at hp2
  have e1 : (m.set (m.length - 1) x).take (m.length - 16) = m.take (m.length - 16) := List.take_set_of_le (by omega)
  rw [e1, hp.1] at hp2
  have e2 := hp2.2
  rw [← hp2.1, ← hp.2] at e2
  have e3 := congrArg (fun l => l.getD 15 0) e2
  simp only [List.getD_eq_getElem?_getD, List.getElem?_drop] at e3
  rw [show m.length - 16 + 15 = m.length - 1 by omega, List.getElem?_set_self (by omega)] at e3
  rw [List.getD_eq_getElem?_getD] at hne
  exact hne (by simpa using e3)
/-- A gate, behind datagrams that came: nothing of the numbers that came is let in again. -/
structure Came (s : Win.W) (inn : List Bool) : Prop where
  right : Win.right s = true
  small : s.bits < 18446744073709551616
  low : s.top ≤ 500
  old : ∀ n : Nat, inn.getD n false = true → Win.has s n = true ∨ 64 ≤ s.top - n
theorem came_nil : Came Win.nil (List.replicate 65536 false) := ⟨rfl, by decide, by decide, fun n h => by
  rw [List.getD_eq_getElem?_getD, List.getElem?_replicate] at h
  split at h <;> cases h⟩
/-- A number comes: it is old and stays out, or it is let in for the first time. -/
theorem came_cases {s : Win.W} {inn : List Bool} (h : Came s inn) {n : Nat} (h1 : 1 ≤ n) (h2 : n ≤ 500) (hl : n < inn.length) :
    ((Win.lets s n).2 = 12 ∧ (Win.lets s n).1 = s ∧ ¬ s.top < (n : Int)) ∨
    ((Win.lets s n).2 = 0 ∧ inn.getD n false = false ∧ Came (Win.lets s n).1 (inn.set n true) ∧ (Win.lets s n).1.top = if s.top < (n : Int) then (n : Int) else s.top) := by
  rcases Win.lets_cases s n with ⟨_, _, h3⟩ | ⟨e2, e1, _, _, h3, _⟩ | ⟨e2, e1, q1, q2, q3, q4⟩
  · omega
  · exact .inl ⟨e2, e1, by omega⟩
  · right
    have ht := Win.in_top s (n : Int)
    rw [e1]
    refine ⟨e2, ?_, ⟨Win.in_right h.right h.small q1 q2 q3, Win.in_lt h.small q3, ?_, ?_⟩, ht⟩
    · cases hh : inn.getD n false with
      | false => rfl
      | true => rcases h.old n hh with h5 | h5
                · rw [h5] at q4; cases q4
                · omega
    · have := h.low
      rw [ht]; split <;> omega
    · intro j hj
      by_cases hjn : j = n
      · subst hjn; exact .inl (Win.in_has q3)
      · refine Win.in_old q3 (h.old j ?_)
        rw [List.getD_eq_getElem?_getD, List.getElem?_set_ne (Ne.symm hjn)] at hj
        rw [List.getD_eq_getElem?_getD]; exact hj
end Rom
end Go.Proofs.YtoiidedigbfnaaaDoor
