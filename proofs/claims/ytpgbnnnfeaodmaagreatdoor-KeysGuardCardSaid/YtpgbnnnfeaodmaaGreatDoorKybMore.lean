/- Plain: what a key changes; what is refused; what asks. -/
import Derived.Test.YtpgbnnnfeaodmaaGreatDoorKybSpec
namespace Go.Proofs.YtpgbnnnfeaodmaaGreatDoor
set_option linter.unusedVariables false
namespace Kyb
open Grd Fld Edt
/-- What a letter changes. -/
theorem typ_change {s : S} (hr : sright s = true) (c : Nat) {i : Nat} (hi : i < s.cs.length) (h : (typ s c).1.cs.getD i noC ≠ s.cs.getD i noC) :
    ((s.cs.getD i noC).f = true ∧ { (typ s c).1.cs.getD i noC with m := (s.cs.getD i noC).m } = s.cs.getD i noC) ∨ ((s.cs.getD i noC).f = false ∧ ((typ s c).1.cs.getD i noC).f = false ∧ open_ s.cs i = true ∧ ∀ b : Nat, begin_ s.cs i = (b : Int) → ((typ s c).1.cs.getD b noC).m = true) := by
  obtain ⟨k, e1, e2, hk⟩ := cur_nat hr
  rcases typ_cases s c with ⟨code, _, _, h' | h'⟩ | ⟨h', _, _, ho, _⟩
  · rw [h'] at h; exact absurd rfl h
  · rw [h'] at h; exact absurd rfl h
  rw [h'] at h ⊢
  rw [e2] at h ho ⊢
  change (laid s k c).getD i noC ≠ _ at h
  show (_ ∧ { (laid s k c).getD i noC with m := (s.cs.getD i noC).m } = _) ∨ (_ ∧ ((laid s k c).getD i noC).f = false ∧ _ ∧ ∀ b : Nat, begin_ s.cs i = (b : Int) → ((laid s k c).getD b noC).m = true)
  obtain ⟨l1, l2, l3, l4⟩ := laid_at hk ho c
  by_cases hbi : begin_ s.cs k = (i : Int)
  · obtain ⟨b, hb, _, hbf⟩ := begin_fat hk (by omega)
    have : b = i := by omega
    subst this
    exact .inl ⟨hbf, by rw [l3 b hbi]⟩
  · obtain ⟨g1, g2, _⟩ := laid_change hk ho c i hbi h
    have hf := open_nfat g2
    exact .inr ⟨hf, ((laid_alikn hk ho c).1.2 i).1.trans hf, g2, fun b hb => by rw [g1] at hb; rw [l3 b hb]⟩
/-- What a key that doesn't ask changes. -/
theorem kdo_change {s : S} (hr : sright s = true) {kind : Int} (c : Nat) (h17 : kind ≠ 17) {i : Nat} (hi : i < s.cs.length) (h : (kdo s kind c).1.cs.getD i noC ≠ s.cs.getD i noC) :
    ((s.cs.getD i noC).f = true ∧ { (kdo s kind c).1.cs.getD i noC with m := (s.cs.getD i noC).m } = s.cs.getD i noC) ∨ ((s.cs.getD i noC).f = false ∧ ((kdo s kind c).1.cs.getD i noC).f = false ∧ open_ s.cs i = true ∧ (kind ≠ 14 → ∀ b : Nat, begin_ s.cs i = (b : Int) → ((kdo s kind c).1.cs.getD b noC).m = true) ∧ (kind = 14 → ((kdo s kind c).1.cs.getD i noC).c = 0)) := by
  obtain ⟨k, e1, e2, hk⟩ := cur_nat hr
  have key : ∀ c', (kdo s kind c).1.cs = (typ s c').1.cs → kind ≠ 14 → ((s.cs.getD i noC).f = true ∧ { (kdo s kind c).1.cs.getD i noC with m := (s.cs.getD i noC).m } = s.cs.getD i noC) ∨ ((s.cs.getD i noC).f = false ∧ ((kdo s kind c).1.cs.getD i noC).f = false ∧ open_ s.cs i = true ∧ (kind ≠ 14 → ∀ b : Nat, begin_ s.cs i = (b : Int) → ((kdo s kind c).1.cs.getD b noC).m = true) ∧ (kind = 14 → ((kdo s kind c).1.cs.getD i noC).c = 0)) := by
    intro c' he hne
    rw [he] at h ⊢
    rcases typ_change hr c' hi h with g | ⟨g1, g2, g3, g4⟩
    · exact .inl g
    · exact .inr ⟨g1, g2, g3, fun _ => g4, fun h => absurd h hne⟩
  rcases kinds kind with rfl | rfl | rfl | hm | hw | rfl | rfl | rfl | hn
  · exact key c (by rw [kdo_1]) (by decide)
  · refine key 28 ?_ (by decide)
    rw [kdo_10]
    simp only
    split
    · rfl
    · rfl
  · exact key 30 (by rw [kdo_11]) (by decide)
  · rw [kdo_mv s c hm] at h
    exact absurd (by show (Mov.mdo s kind).1.cs.getD i noC = _; rw [Mov.mdo_cs]) h
  · rw [kdo_wp s c hw] at h ⊢
    change (Wip.wdo s kind).1.cs.getD i noC ≠ _ at h
    obtain ⟨g1, g2, g3⟩ := Wip.wdo_change e1 hk hi h
    rcases g3 with g | ⟨g3, g4, g5⟩
    · exact .inl g
    · refine .inr ⟨g3, g5, g4, fun h14 b hb => ?_, fun h14 => ?_⟩
      · rcases g2 with g2 | g2
        · exact absurd g2 h14
        · exact Wip.wdo_mod e1 hk g1 h14 (by rw [← g2]; exact hb)
      · subst h14
        show ((Wip.wdo s 14).1.cs.getD i noC).c = 0
        cases hl : s.lk with
        | true =>
          rw [Wip.wdo_7 rfl hl] at h; exact absurd rfl h
        | false =>
          rw [Wip.wdo_14 hl]
          show ((Hst.hclean s).cs.getD i noC).c = 0
          rw [Hst.hclean_getD s i hi, if_pos g4]
  · rw [kdo_16] at h; exact absurd rfl h
  · rw [kdo_15] at h
    split at h
    · exact absurd rfl h
    · exact absurd rfl h
  · exact absurd rfl h17
  · rw [kdo_no s c hn] at h; exact absurd rfl h
/-- What is refused changes Locked alone, and doesn't unlock; and it doesn't ask. -/
theorem typ_ref (s : S) (c : Nat) (h : (typ s c).2.1 ≠ 0) : (typ s c).1 = s ∨ (typ s c).1 = deny s := by
  rcases typ_cases s c with ⟨code, _, _, h' | h'⟩ | ⟨h', _⟩
  · exact .inl (by rw [h'])
  · exact .inr (by rw [h'])
  · rw [h'] at h; exact absurd rfl h
theorem kdo_ref {s : S} {kind : Int} {c : Nat} (h : (kdo s kind c).2.2.1 ≠ 0) : (kdo s kind c).2.1 = false ∧ ((kdo s kind c).1 = s ∨ (kdo s kind c).1 = deny s) := by
  rcases kinds kind with rfl | rfl | rfl | hm | hw | rfl | rfl | rfl | hn
  · rw [kdo_1] at h ⊢; exact ⟨rfl, typ_ref s c h⟩
  · rw [kdo_10] at h ⊢
    change (typ s 28).2.1 ≠ 0 at h
    rw [if_neg h]
    exact ⟨rfl, typ_ref s 28 h⟩
  · rw [kdo_11] at h ⊢; exact ⟨rfl, typ_ref s 30 h⟩
  · rw [kdo_mv s c hm] at h ⊢
    refine ⟨rfl, .inl ?_⟩
    change (Mov.mdo s kind).2 ≠ 0 at h
    show (Mov.mdo s kind).1 = s
    cases hl : s.lk with
    | true => rw [Mov.mdo_7 hm hl]
    | false => rw [Mov.mdo_0 hm hl] at h; exact absurd rfl h
  · rw [kdo_wp s c hw] at h ⊢
    refine ⟨rfl, ?_⟩
    change (Wip.wdo s kind).2.1 ≠ 0 at h
    show (Wip.wdo s kind).1 = s ∨ (Wip.wdo s kind).1 = deny s
    rcases Wip.wdo_cases s kind with ⟨code, _, h' | h'⟩ | ⟨_, _, h'⟩ | ⟨_, _, _, h'⟩
    · exact .inl (by rw [h'])
    · exact .inr (by rw [h'])
    · rw [h'] at h; exact absurd rfl h
    · rw [h'] at h; exact absurd rfl h
  · rw [kdo_16] at h; exact absurd rfl h
  · rw [kdo_15] at h ⊢
    split at h
    · rename_i hl; rw [if_pos hl]; exact ⟨rfl, .inl rfl⟩
    · exact absurd rfl h
  · rw [kdo_17] at h ⊢
    split at h
    · rename_i hl; rw [if_pos hl]; exact ⟨rfl, .inl rfl⟩
    rename_i hl
    split at h
    · rename_i hk; rw [if_neg hl, if_pos hk]; exact ⟨rfl, .inl rfl⟩
    · exact absurd rfl h
  · rw [kdo_no s c hn]; exact ⟨rfl, .inl rfl⟩
theorem typ_locked {s : S} (hl : s.lk = true) (c : Nat) : (typ s c).1 = s ∧ (typ s c).2.1 ≠ 0 := by
  unfold typ
  simp only
  split
  · exact ⟨rfl, Nat.succ_ne_zero _⟩
  · exact ⟨rfl, Nat.succ_ne_zero _⟩
/-- On a locked screen nothing changes but by Reset, and nothing asks. -/
theorem kdo_locked {s : S} (hl : s.lk = true) {kind : Int} {c : Nat} (h : kind ≠ 16) : (kdo s kind c).1 = s ∧ (kdo s kind c).2.1 = false ∧ (kdo s kind c).2.2.1 ≠ 0 := by
  rcases kinds kind with rfl | rfl | rfl | hm | hw | rfl | rfl | rfl | hn
  · rw [kdo_1]; exact ⟨(typ_locked hl c).1, rfl, (typ_locked hl c).2⟩
  · rw [kdo_10, if_neg (typ_locked hl 28).2]; exact ⟨(typ_locked hl 28).1, rfl, (typ_locked hl 28).2⟩
  · rw [kdo_11]; exact ⟨(typ_locked hl 30).1, rfl, (typ_locked hl 30).2⟩
  · rw [kdo_mv s c hm, Mov.mdo_7 hm hl]; exact ⟨rfl, rfl, Nat.succ_ne_zero _⟩
  · rw [kdo_wp s c hw, Wip.wdo_7 hw hl]; exact ⟨rfl, rfl, Nat.succ_ne_zero _⟩
  · exact absurd rfl h
  · rw [kdo_15, if_pos hl]; exact ⟨rfl, rfl, Nat.succ_ne_zero _⟩
  · rw [kdo_17]
    split
    · exact ⟨rfl, rfl, Nat.succ_ne_zero _⟩
    · exact ⟨rfl, rfl, Nat.succ_ne_zero _⟩
  · rw [kdo_no s c hn]; exact ⟨rfl, rfl, Nat.succ_ne_zero _⟩
theorem kdo_quiet {s : S} (hl : s.lk = true) (kind : Int) (c : Nat) : (kdo s kind c).2.1 = false := by
  by_cases h : kind = 16
  · subst h; rw [kdo_16]
  · exact (kdo_locked hl h).2.1
theorem kdo_asks {s : S} {kind : Int} {c : Nat} (h : kind ≠ 17) : (kdo s kind c).2.1 = false := by
  rcases kinds kind with rfl | rfl | rfl | hm | hw | rfl | rfl | rfl | hn
  · rw [kdo_1]
  · rw [kdo_10]
  · rw [kdo_11]
  · rw [kdo_mv s c hm]
  · rw [kdo_wp s c hw]
  · rw [kdo_16]
  · rw [kdo_15]; split <;> rfl
  · exact absurd rfl h
  · rw [kdo_no s c hn]
/-- A key that asks. -/
theorem kdo_aid (s : S) (c : Nat) : ((kdo s 17 c).2.2.1 ≠ 0 ∧ (kdo s 17 c).1 = s ∧ (kdo s 17 c).2.1 = false) ∨ kdo s 17 c = (asked s c, true, 0, -1) := by
  rw [kdo_17]
  split
  · exact .inl ⟨Nat.succ_ne_zero _, rfl, rfl⟩
  split
  · exact .inl ⟨Nat.succ_ne_zero _, rfl, rfl⟩
  · exact .inr rfl
end Kyb
end Go.Proofs.YtpgbnnnfeaodmaaGreatDoor
