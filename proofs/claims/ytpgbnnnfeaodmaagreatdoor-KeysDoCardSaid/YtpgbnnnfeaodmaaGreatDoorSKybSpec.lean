/- Plain: what a key does. -/
import Derived.Test.YtpgbnnnfeaodmaaGreatDoorSBunMov
import Derived.Test.YtpgbnnnfeaodmaaGreatDoorSBunWip
namespace Go.Proofs.YtpgbnnnfeaodmaaGreatDoor
set_option linter.unusedVariables false
namespace Kyb
open Grd Fld Edt
def onto (s r : S) : S := { r with cur := ((next r.cs s.cur.toNat).toNat : Nat) }
def asked (s : S) (c : Nat) : S := ⟨s.rows, s.cols, if c = 109 then List.replicate s.cs.length noC else s.cs, if c = 109 then 0 else s.cur, true, false⟩
def kdo (s : S) (kind : Int) (c : Nat) : S × Bool × Nat × Int :=
  if kind = 1 then ((typ s c).1, false, (typ s c).2)
  else if kind = 10 then (if (typ s 28).2.1 = 0 then onto s (typ s 28).1 else (typ s 28).1, false, (typ s 28).2)
  else if kind = 11 then ((typ s 30).1, false, (typ s 30).2)
  else if Mov.isMove kind then ((Mov.mdo s kind).1, false, (Mov.mdo s kind).2, -1)
  else if Wip.isWipe kind then ((Wip.wdo s kind).1, false, (Wip.wdo s kind).2)
  else if kind = 16 then ({ s with lk := false, ins := false }, false, 0, -1)
  else if kind = 15 then (if s.lk then (s, false, 7, -1) else ({ s with ins := true }, false, 0, -1))
  else if kind = 17 then (if Att.aid c = false then (s, false, 3, -1) else if s.lk then (s, false, 7, -1) else (asked s c, true, 0, -1))
  else (s, false, 1, -1)
theorem kdo_1 (s : S) (c : Nat) : kdo s 1 c = ((typ s c).1, false, (typ s c).2) := by unfold kdo; rw [if_pos rfl]
theorem kdo_10 (s : S) (c : Nat) : kdo s 10 c = (if (typ s 28).2.1 = 0 then onto s (typ s 28).1 else (typ s 28).1, false, (typ s 28).2) := by unfold kdo; rw [if_neg (by decide), if_pos rfl]
theorem kdo_11 (s : S) (c : Nat) : kdo s 11 c = ((typ s 30).1, false, (typ s 30).2) := by unfold kdo; rw [if_neg (by decide), if_neg (by decide), if_pos rfl]
theorem move_not {kind : Int} (h : Mov.isMove kind = true) : 2 ≤ kind ∧ kind ≤ 9 := by
  unfold Mov.isMove at h; simpa using h
theorem wipe_not {kind : Int} (h : Wip.isWipe kind = true) : 12 ≤ kind ∧ kind ≤ 14 := by
  unfold Wip.isWipe at h; simpa using h
theorem no_move {kind : Int} (h : kind < 2 ∨ 9 < kind) : Mov.isMove kind = false := by
  cases hm : Mov.isMove kind with
  | false => rfl
  | true => have := move_not hm; omega
theorem no_wipe {kind : Int} (h : kind < 12 ∨ 14 < kind) : Wip.isWipe kind = false := by
  cases hm : Wip.isWipe kind with
  | false => rfl
  | true => have := wipe_not hm; omega
theorem kdo_mv (s : S) (c : Nat) {kind : Int} (h : Mov.isMove kind = true) : kdo s kind c = ((Mov.mdo s kind).1, false, (Mov.mdo s kind).2, -1) := by
  have := move_not h
  unfold kdo; rw [if_neg (by omega), if_neg (by omega), if_neg (by omega), if_pos h]
theorem kdo_wp (s : S) (c : Nat) {kind : Int} (h : Wip.isWipe kind = true) : kdo s kind c = ((Wip.wdo s kind).1, false, (Wip.wdo s kind).2) := by
  have := wipe_not h
  unfold kdo; rw [if_neg (by omega), if_neg (by omega), if_neg (by omega), if_neg (by rw [no_move (by omega)]; decide), if_pos h]
theorem kdo_16 (s : S) (c : Nat) : kdo s 16 c = ({ s with lk := false, ins := false }, false, 0, -1) := by
  unfold kdo; rw [if_neg (by decide), if_neg (by decide), if_neg (by decide), if_neg (by rw [no_move (by omega)]; decide), if_neg (by rw [no_wipe (by omega)]; decide), if_pos rfl]
theorem kdo_15 (s : S) (c : Nat) : kdo s 15 c = (if s.lk then (s, false, 7, -1) else ({ s with ins := true }, false, 0, -1)) := by
  unfold kdo; rw [if_neg (by decide), if_neg (by decide), if_neg (by decide), if_neg (by rw [no_move (by omega)]; decide), if_neg (by rw [no_wipe (by omega)]; decide), if_neg (by decide), if_pos rfl]
theorem kdo_17 (s : S) (c : Nat) : kdo s 17 c = (if Att.aid c = false then (s, false, 3, -1) else if s.lk then (s, false, 7, -1) else (asked s c, true, 0, -1)) := by
  unfold kdo; rw [if_neg (by decide), if_neg (by decide), if_neg (by decide), if_neg (by rw [no_move (by omega)]; decide), if_neg (by rw [no_wipe (by omega)]; decide), if_neg (by decide), if_neg (by decide), if_pos rfl]
theorem kdo_no (s : S) (c : Nat) {kind : Int} (h : kind < 1 ∨ 17 < kind) : kdo s kind c = (s, false, 1, -1) := by
  unfold kdo; rw [if_neg (by omega), if_neg (by omega), if_neg (by omega), if_neg (by rw [no_move (by omega)]; decide), if_neg (by rw [no_wipe (by omega)]; decide), if_neg (by omega), if_neg (by omega), if_neg (by omega)]
theorem kinds (kind : Int) : kind = 1 ∨ kind = 10 ∨ kind = 11 ∨ Mov.isMove kind = true ∨ Wip.isWipe kind = true ∨ kind = 16 ∨ kind = 15 ∨ kind = 17 ∨ (kind < 1 ∨ 17 < kind) := by
  by_cases h1 : Mov.isMove kind = true
  · exact .inr (.inr (.inr (.inl h1)))
  by_cases h2 : Wip.isWipe kind = true
  · exact .inr (.inr (.inr (.inr (.inl h2))))
  unfold Mov.isMove at h1
  unfold Wip.isWipe at h2
  simp only [Bool.and_eq_true, decide_eq_true_eq, not_and] at h1 h2
  omega
theorem asked_length (s : S) (c : Nat) : (asked s c).cs.length = s.cs.length := by
  unfold asked
  simp only
  split
  · exact List.length_replicate
  · rfl
theorem kdo_length (s : S) (kind : Int) (c : Nat) : (kdo s kind c).1.cs.length = s.cs.length ∧ (kdo s kind c).1.rows = s.rows ∧ (kdo s kind c).1.cols = s.cols := by
  rcases kinds kind with rfl | rfl | rfl | hm | hw | rfl | rfl | rfl | hn
  · rw [kdo_1]; exact ⟨(typ_length c).1, (typ_length c).2.1, (typ_length c).2.2.1⟩
  · rw [kdo_10]
    simp only
    split
    · exact ⟨(typ_length 28).1, (typ_length 28).2.1, (typ_length 28).2.2.1⟩
    · exact ⟨(typ_length 28).1, (typ_length 28).2.1, (typ_length 28).2.2.1⟩
  · rw [kdo_11]; exact ⟨(typ_length 30).1, (typ_length 30).2.1, (typ_length 30).2.2.1⟩
  · rw [kdo_mv s c hm]
    cases hl : s.lk with
    | true => rw [Mov.mdo_7 hm hl]; exact ⟨rfl, rfl, rfl⟩
    | false => rw [Mov.mdo_0 hm hl]; exact ⟨rfl, rfl, rfl⟩
  · rw [kdo_wp s c hw]; exact Wip.wdo_length s kind
  · rw [kdo_16]; exact ⟨rfl, rfl, rfl⟩
  · rw [kdo_15]
    split
    · exact ⟨rfl, rfl, rfl⟩
    · exact ⟨rfl, rfl, rfl⟩
  · rw [kdo_17]
    split
    · exact ⟨rfl, rfl, rfl⟩
    split
    · exact ⟨rfl, rfl, rfl⟩
    · exact ⟨asked_length s c, rfl, rfl⟩
  · rw [kdo_no s c hn]; exact ⟨rfl, rfl, rfl⟩
end Kyb
end Go.Proofs.YtpgbnnnfeaodmaaGreatDoor
