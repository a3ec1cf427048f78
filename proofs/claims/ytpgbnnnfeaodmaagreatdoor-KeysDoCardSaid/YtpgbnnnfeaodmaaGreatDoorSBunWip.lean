/- WipSpec, WipMore in one text (by tools/bundle.py). -/
import Derived.Test.YtpgbnnnfeaodmaaGreatDoorSBunEdp
import Derived.Test.YtpgbnnnfeaodmaaGreatDoorSBunHst
/- Plain: what is deleted and erased. -/
namespace Go.Proofs.YtpgbnnnfeaodmaaGreatDoor
set_option linter.unusedVariables false
namespace Wip
open Grd Fld Edt
def wq (l : List Nat) (v : Nat → Nat) (cs : List C) : Nat → List C
  | 0 => cs
  | q + 1 => (wq l v cs q).set (l.getD q 0) { (wq l v cs q).getD (l.getD q 0) noC with c := v q }
theorem wq_length (l : List Nat) (v : Nat → Nat) (cs : List C) : ∀ q, (wq l v cs q).length = cs.length
  | 0 => rfl
  | q + 1 => by rw [wq, List.length_set, wq_length l v cs q]
theorem wq_at {l : List Nat} {cs : List C} {v : Nat → Nat} (hl : ∀ i, i < l.length → l.getD i 0 < cs.length) (hd : ∀ i j, i < l.length → j < l.length → l.getD i 0 = l.getD j 0 → i = j) : ∀ q, q ≤ l.length →
    (∀ i, i < q → (wq l v cs q).getD (l.getD i 0) noC = { cs.getD (l.getD i 0) noC with c := v i }) ∧ ∀ x, (∀ i, i < q → x ≠ l.getD i 0) → (wq l v cs q).getD x noC = cs.getD x noC
  | 0, _ => ⟨fun i h => absurd h (Nat.not_lt_zero _), fun _ _ => rfl⟩
  | q + 1, hq => by
    obtain ⟨h1, h2⟩ := wq_at (v := v) hl hd q (by omega)
    have h3 : (wq l v cs q).getD (l.getD q 0) noC = cs.getD (l.getD q 0) noC := h2 _ fun i hi he => by
      have := hd _ _ (show q < l.length by omega) (show i < l.length by omega) he
      omega
    refine ⟨fun i hi => ?_, fun x hx => ?_⟩
    · rw [wq, Edt.getD_set, h3]
      by_cases hiq : i = q
      · subst hiq; rw [if_pos ⟨rfl, by rw [wq_length]; exact hl _ (by omega)⟩]
      · rw [if_neg (fun h => by have := hd _ _ (show q < l.length by omega) (show i < l.length by omega) h.1; omega)]
        exact h1 i (by omega)
    · rw [wq, Edt.getD_set, if_neg (fun h => hx q (by omega) h.1.symm)]
      exact h2 x fun i hi => hx i (by omega)
theorem wq_congr {l : List Nat} {v v' : Nat → Nat} {cs : List C} : ∀ q, (∀ i, i < q → v i = v' i) → wq l v cs q = wq l v' cs q
  | 0, _ => rfl
  | q + 1, h => by rw [wq, wq, wq_congr q (fun i hi => h i (by omega)), h q (by omega)]
def ch (s : S) (k i : Nat) : Nat := (s.cs.getD ((line s.cs k).getD i 0) noC).c
def wl (s : S) (k : Nat) (v : Nat → Nat) : S := { s with cs := wq (line s.cs k) v (modif s k).cs (line s.cs k).length }
theorem line_hl {s : S} {k : Nat} (hk : k < s.cs.length) : ∀ i, i < (line s.cs k).length → (line s.cs k).getD i 0 < (modif s k).cs.length := fun i hi => by
  rw [line_length] at hi
  rw [line_getD hi, modif_length]; exact on_lt (by omega) _ _
theorem line_hd {s : S} {k : Nat} (hk : k < s.cs.length) : ∀ i j, i < (line s.cs k).length → j < (line s.cs k).length → (line s.cs k).getD i 0 = (line s.cs k).getD j 0 → i = j := fun i j hi hj he => by
  rw [line_length] at hi hj
  rw [line_getD hi, line_getD hj] at he
  exact line_inj hk hi hj he
theorem wl_length (s : S) (k : Nat) (v : Nat → Nat) : (wl s k v).cs.length = s.cs.length := by
  show (wq _ _ _ _).length = _
  rw [wq_length, modif_length]
theorem line_nb {cs : List C} {k : Nat} (hk : k < cs.length) {q : Nat} (hq : q < lineLen cs k) : begin_ cs k ≠ (((line cs k).getD q 0 : Nat) : Int) := fun he => by
  obtain ⟨b, hb, hbl, hbf⟩ := begin_fat hk (by rw [he]; omega)
  rw [line_getD hq] at he
  have e : b = on cs.length (k : Int) (q : Int) := by rw [hb] at he; omega
  have := open_nfat (line_cell hk hq).2
  rw [← e, hbf] at this; cases this
def isWipe (kind : Int) : Bool := decide (12 ≤ kind) && decide (kind ≤ 14)
def wv (s : S) (k : Nat) (kind : Int) (i : Nat) : Nat := if kind = 12 ∧ i + 1 < lineLen s.cs k then ch s k (i + 1) else 0
def wall (s : S) : S := { Hst.hclean s with ins := s.ins }
def wdo (s : S) (kind : Int) : S × Nat × Int :=
  if isWipe kind = false then (s, 1, -1)
  else if s.lk then (s, 7, -1)
  else if kind = 14 then (wall s, 0, -1)
  else if open_ s.cs s.cur.toNat = false then (deny s, 8, s.cur)
  else (wl s s.cur.toNat (wv s s.cur.toNat kind), 0, -1)
theorem wdo_1 {s : S} {kind : Int} (h : isWipe kind = false) : wdo s kind = (s, 1, -1) := by unfold wdo; rw [if_pos h]
theorem wdo_7 {s : S} {kind : Int} (h : isWipe kind = true) (h2 : s.lk = true) : wdo s kind = (s, 7, -1) := by unfold wdo; rw [if_neg (by rw [h]; decide), if_pos h2]
theorem wdo_14 {s : S} (h2 : s.lk = false) : wdo s 14 = (wall s, 0, -1) := by unfold wdo; rw [if_neg (by decide), if_neg (by rw [h2]; decide), if_pos rfl]
theorem wdo_8 {s : S} {kind : Int} (h : isWipe kind = true) (h2 : s.lk = false) (h3 : kind ≠ 14) (h4 : open_ s.cs s.cur.toNat = false) : wdo s kind = (deny s, 8, s.cur) := by unfold wdo; rw [if_neg (by rw [h]; decide), if_neg (by rw [h2]; decide), if_neg h3, if_pos h4]
theorem wdo_0 {s : S} {kind : Int} (h : isWipe kind = true) (h2 : s.lk = false) (h3 : kind ≠ 14) (h4 : open_ s.cs s.cur.toNat = true) : wdo s kind = (wl s s.cur.toNat (wv s s.cur.toNat kind), 0, -1) := by unfold wdo; rw [if_neg (by rw [h]; decide), if_neg (by rw [h2]; decide), if_neg h3, if_neg (by rw [h4]; decide)]
theorem wdo_cases (s : S) (kind : Int) : ((∃ code : Nat, code ≠ 0 ∧ (wdo s kind = (s, code, -1) ∨ wdo s kind = (deny s, code, s.cur)))) ∨ (kind = 14 ∧ s.lk = false ∧ wdo s kind = (wall s, 0, -1)) ∨ (kind ≠ 14 ∧ s.lk = false ∧ open_ s.cs s.cur.toNat = true ∧ wdo s kind = (wl s s.cur.toNat (wv s s.cur.toNat kind), 0, -1)) := by
  cases h1 : isWipe kind with
  | false => exact .inl ⟨1, by decide, .inl (wdo_1 h1)⟩
  | true =>
    cases h2 : s.lk with
    | true => exact .inl ⟨7, by decide, .inl (wdo_7 h1 h2)⟩
    | false =>
      by_cases h3 : kind = 14
      · subst h3; exact .inr (.inl ⟨rfl, rfl, wdo_14 h2⟩)
      · cases h4 : open_ s.cs s.cur.toNat with
        | false => exact .inl ⟨8, by decide, .inr (wdo_8 h1 h2 h3 h4)⟩
        | true => exact .inr (.inr ⟨h3, rfl, rfl, wdo_0 h1 h2 h3 h4⟩)
theorem wall_length (s : S) : (wall s).cs.length = s.cs.length := Hst.hclean_length s
theorem wdo_length (s : S) (kind : Int) : (wdo s kind).1.cs.length = s.cs.length ∧ (wdo s kind).1.rows = s.rows ∧ (wdo s kind).1.cols = s.cols := by
  rcases wdo_cases s kind with ⟨code, _, h | h⟩ | ⟨_, _, h⟩ | ⟨_, _, _, h⟩ <;> rw [h]
  · exact ⟨rfl, rfl, rfl⟩
  · exact ⟨rfl, rfl, rfl⟩
  · exact ⟨wall_length s, rfl, rfl⟩
  · exact ⟨wl_length _ _ _, rfl, rfl⟩
end Wip
end Go.Proofs.YtpgbnnnfeaodmaaGreatDoor
/- Plain: keys that wipe, one behind the other, and behind a letter. -/
namespace Go.Proofs.YtpgbnnnfeaodmaaGreatDoor
set_option linter.unusedVariables false
namespace Wip
open Grd Fld Edt
def dv (s : S) (k q i : Nat) : Nat := if i + q < lineLen s.cs k then ch s k (i + q) else 0
end Wip
end Go.Proofs.YtpgbnnnfeaodmaaGreatDoor
