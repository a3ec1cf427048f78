/- MovSpec, MovMore in one text (by tools/bundle.py). -/
import Derived.Test.YtpgbnnnfeaodmaaGreatDoorSBunFld
/- Plain: where a move leads. -/
namespace Go.Proofs.YtpgbnnnfeaodmaaGreatDoor
set_option linter.unusedVariables false
namespace Mov
open Grd Fld
def firstO (cs : List C) (f : Nat) : Nat := match firstK (fun k => open_ cs (on cs.length f (k : Int))) 0 cs.length with
  | some k => on cs.length f (k : Int)
  | none => 0
def rowOn (s : S) : Nat := on s.cs.length s.cur (s.cols - s.cur % s.cols)
def gto (s : S) (kind : Int) : Nat :=
  if kind = 2 then on s.cs.length s.cur (-1)
  else if kind = 3 then on s.cs.length s.cur 1
  else if kind = 4 then on s.cs.length s.cur (-s.cols)
  else if kind = 5 then on s.cs.length s.cur s.cols
  else if kind = 6 then (next s.cs s.cur.toNat).toNat
  else if kind = 7 then (prev s.cs s.cur.toNat).toNat
  else if kind = 8 then (next s.cs (s.cs.length - 1)).toNat
  else firstO s.cs (rowOn s)
def isMove (kind : Int) : Bool := decide (2 ≤ kind) && decide (kind ≤ 9)
def mdo (s : S) (kind : Int) : S × Nat := if isMove kind = false then (s, 1) else if s.lk then (s, 7) else ({ s with cur := (gto s kind : Nat) }, 0)
theorem mdo_1 {s : S} {kind : Int} (h : isMove kind = false) : mdo s kind = (s, 1) := by unfold mdo; rw [if_pos h]
theorem mdo_7 {s : S} {kind : Int} (h : isMove kind = true) (hl : s.lk = true) : mdo s kind = (s, 7) := by unfold mdo; rw [if_neg (by rw [h]; decide), if_pos hl]
theorem mdo_0 {s : S} {kind : Int} (h : isMove kind = true) (hl : s.lk = false) : mdo s kind = ({ s with cur := (gto s kind : Nat) }, 0) := by unfold mdo; rw [if_neg (by rw [h]; decide), if_neg (by rw [hl]; decide)]
theorem next_lt {cs : List C} {a : Nat} (ha : a < cs.length) : (next cs a).toNat < cs.length := by
  rcases next_cases (cs := cs) ha with ⟨h, _⟩ | ⟨k, o, _, _, _, _, _, _, h⟩
  · rw [h]; show 0 < _; omega
  · rw [h, Int.toNat_natCast]; exact on_lt (by omega) _ _
theorem prev_lt {cs : List C} {a : Nat} (ha : a < cs.length) : (prev cs a).toNat < cs.length := by
  rcases prev_cases (cs := cs) ha with ⟨h, _⟩ | ⟨k, o, _, _, _, _, _, _, h⟩
  · rw [h]; show 0 < _; omega
  · rw [h, Int.toNat_natCast]; exact on_lt (by omega) _ _
theorem firstO_lt {cs : List C} (hz : 0 < cs.length) (f : Nat) : firstO cs f < cs.length := by
  unfold firstO
  split
  · exact on_lt hz _ _
  · exact hz
theorem gto_lt {s : S} (h : sright s = true) (kind : Int) : gto s kind < s.cs.length := by
  obtain ⟨_, _, h3, h4, _⟩ := sright_parts h
  have hz : 0 < s.cs.length := by omega
  have hc : s.cur.toNat < s.cs.length := by omega
  unfold gto
  repeat' split
  · exact on_lt hz _ _
  · exact on_lt hz _ _
  · exact on_lt hz _ _
  · exact on_lt hz _ _
  · exact next_lt hc
  · exact prev_lt hc
  · exact next_lt (by omega)
  · exact firstO_lt hz _
theorem open_step {cs : List C} {a : Nat} (ha : a < cs.length) (h : open_ cs a = false) (h1 : open_ cs (on cs.length a 1) = true) : opener cs a = true := by
  have hf1 : fat cs (on cs.length a 1) = false := by
    unfold open_ at h1
    simp only [Bool.and_eq_true, Bool.not_eq_true'] at h1
    exact h1.1
  have hp1 : (attrOf cs (on cs.length a 1)).p = false := by
    unfold open_ at h1
    simp only [Bool.and_eq_true, Bool.not_eq_true'] at h1
    exact h1.2
  cases hfm : fmt cs with
  | false =>
    exfalso
    have hfa : fat cs a = false := by
      cases hh : fat cs a with
      | false => rfl
      | true => rw [fmt_iff.2 ⟨a, ha, hh⟩] at hfm; cases hfm
    unfold open_ attrOf at h
    rw [begin_none ha hfm, hfa] at h
    simp [noC] at h
  | true =>
    cases hfa : fat cs a with
    | true =>
      obtain ⟨g1, g2, g3⟩ := clen_some ha hfa
      have hc : 0 < clen cs a := by
        rcases Nat.eq_zero_or_pos (clen cs a) with h0 | h0
        · rw [h0] at g3
          rw [show ((0 : Nat) : Int) + 1 = 1 from rfl, hf1] at g3; cases g3
        · exact h0
      have hb : begin_ cs (on cs.length a 1) = (a : Int) := begin_of_cell (i := 0) ha hfa hc
      refine opener_iff.2 ⟨hfa, ?_, hf1⟩
      unfold attrOf at hp1
      rw [hb, if_neg (by omega), Int.toNat_natCast] at hp1
      exact hp1
    | false =>
      exfalso
      obtain ⟨b, i, hb, hbl, hfb, hi, he⟩ := cell_of_begin ha hfm hfa
      obtain ⟨g1, g2, g3⟩ := clen_some hbl hfb
      have e1 : on cs.length (a : Int) 1 = on cs.length b (((i + 1 : Nat) : Int) + 1) := by
        rw [← he, on_on (by omega)]; congr 1
      have hi1 : i + 1 < clen cs b := by
        rcases Nat.lt_or_ge (i + 1) (clen cs b) with hl | hl
        · exact hl
        · exfalso
          rw [show clen cs b = i + 1 by omega, ← e1, hf1] at g3; cases g3
      have hb1 : begin_ cs (on cs.length a 1) = (b : Int) := by rw [e1]; exact begin_of_cell hbl hfb hi1
      unfold open_ at h
      rw [hfa] at h
      unfold attrOf at h hp1
      rw [hb] at h
      rw [hb1] at hp1
      rw [hp1] at h
      cases h
theorem open_of_opener {cs : List C} {a : Nat} (ha : a < cs.length) (h : opener cs a = true) : open_ cs (on cs.length a 1) = true := (first_cell ha h).2.2.2
theorem firstO_some {cs : List C} {f k : Nat} (hk : k < cs.length) (h : open_ cs (on cs.length f (k : Int)) = true) (hn : ∀ j, j < k → open_ cs (on cs.length f (j : Int)) = false) : firstO cs f = on cs.length f (k : Int) := by
  unfold firstO
  rw [firstK_is (j := k) (Nat.zero_le _) (by omega) h (fun i _ hi => hn i hi)]
theorem firstO_none {cs : List C} {f : Nat} (hn : ∀ j, j < cs.length → open_ cs (on cs.length f (j : Int)) = false) : firstO cs f = 0 := by
  unfold firstO
  rw [firstK_no (fun i _ hi => hn i (by omega))]
theorem firstO_cases (cs : List C) (f : Nat) : (∃ k, k < cs.length ∧ open_ cs (on cs.length f (k : Int)) = true ∧ (∀ j, j < k → open_ cs (on cs.length f (j : Int)) = false) ∧ firstO cs f = on cs.length f (k : Int)) ∨ ((∀ j, j < cs.length → open_ cs (on cs.length f (j : Int)) = false) ∧ firstO cs f = 0) := by
  cases h : firstK (fun k => open_ cs (on cs.length f (k : Int))) 0 cs.length with
  | some k =>
    obtain ⟨_, h2, h3, h4⟩ := firstK_some h
    exact .inl ⟨k, by omega, h3, fun j hj => h4 j (Nat.zero_le _) hj, firstO_some (by omega) h3 (fun j hj => h4 j (Nat.zero_le _) hj)⟩
  | none => exact .inr ⟨fun j hj => firstK_none h j (Nat.zero_le _) (by omega), firstO_none (fun j hj => firstK_none h j (Nat.zero_le _) (by omega))⟩
theorem firstO_open {cs : List C} {f : Nat} (hf : f < cs.length) (h : open_ cs f = true) : firstO cs f = f := by
  have e : on cs.length (f : Int) ((0 : Nat) : Int) = f := on_zero hf
  rw [firstO_some (k := 0) (by omega) (by rw [e]; exact h) (fun j hj => absurd hj (by omega)), e]
theorem firstO_next {cs : List C} {f : Nat} (hf : f < cs.length) (h : open_ cs f = false) : (next cs (on cs.length f (-1))).toNat = firstO cs f := by
  have hz : 0 < cs.length := by omega
  have e : ∀ k : Nat, on cs.length ((on cs.length (f : Int) (-1) : Nat) : Int) ((k : Int) + 1) = on cs.length f (k : Int) := fun k => by
    rw [on_on hz]; congr 1; omega
  have e0 : on cs.length (f : Int) ((0 : Nat) : Int) = f := on_zero hf
  rcases firstO_cases cs f with ⟨k, h1, h2, h3, h4⟩ | ⟨h1, h2⟩
  · have hk : 1 ≤ k := by
      rcases Nat.eq_zero_or_pos k with h0 | h0
      · subst h0; rw [e0, h] at h2; cases h2
      · exact h0
    have h2' : open_ cs (on cs.length ((on cs.length f ((k - 1 : Nat) : Int) : Nat) : Int) 1) = true := by
      rw [on_on hz, show (((k - 1 : Nat) : Int) + 1) = (k : Int) by omega]; exact h2
    have hop := open_step (on_lt hz _ _) (h3 (k - 1) (by omega)) h2'
    have hn : next cs (on cs.length f (-1)) = ((on cs.length ((on cs.length ((on cs.length (f : Int) (-1) : Nat) : Int) (k : Int) : Nat) : Int) 1 : Nat) : Int) := by
      refine next_at hk (by omega) ?_ (fun j hj1 hj2 => ?_)
      · have := e (k - 1)
        rw [show (((k - 1 : Nat) : Int) + 1) = (k : Int) by omega] at this
        rw [this]; exact hop
      · have := e (j - 1)
        rw [show (((j - 1 : Nat) : Int) + 1) = (j : Int) by omega] at this
        rw [this]
        cases hq : opener cs (on cs.length f ((j - 1 : Nat) : Int)) with
        | false => rfl
        | true =>
          have h5 := open_of_opener (on_lt hz _ _) hq
          rw [on_on hz, show (((j - 1 : Nat) : Int) + 1) = (j : Int) by omega, h3 j hj2] at h5
          cases h5
    rw [hn, Int.toNat_natCast, h4, on_on hz, on_on hz]; congr 1; omega
  · have hno : ∀ i, i < cs.length → open_ cs i = false := fun i hi => by
      obtain ⟨k, g1, g2, g3⟩ := reach_on hf hi
      rcases Nat.lt_or_ge k cs.length with hl | hl
      · have := h1 k hl; rwa [g3] at this
      · rw [show k = cs.length by omega, on_all hf] at g3
        rw [← g3]; exact h
    rw [h2, next_no (fun j hj1 hj2 => by
      cases hq : opener cs (on cs.length ((on cs.length (f : Int) (-1) : Nat) : Int) (j : Int)) with
      | false => rfl
      | true =>
        have := open_of_opener (on_lt hz _ _) hq
        rw [hno _ (on_lt hz _ _)] at this; cases this)]
    rfl
theorem rowOn_nat {s : S} (h : sright s = true) : ((rowOn s : Nat) : Int) = (s.cur / s.cols + 1) % s.rows * s.cols := by
  obtain ⟨h1, h2, h3, h4, _⟩ := sright_parts h
  obtain ⟨g1, g2, _⟩ := sized_le h1
  have hz : 0 < s.cs.length := by omega
  unfold rowOn
  rw [on_cast hz, h2, show s.cur + (s.cols - s.cur % s.cols) = (s.cur / s.cols + 1) * s.cols by
    rw [Int.emod_def, Int.add_mul, Int.one_mul, Int.mul_comm s.cols]; omega]
  rw [Int.mul_comm _ s.cols, Int.mul_comm s.rows, Int.mul_emod_mul_of_pos _ _ (by omega), Int.mul_comm]
theorem mdo_cs (s : S) (kind : Int) : (mdo s kind).1.cs = s.cs := by
  unfold mdo
  repeat' split
  all_goals rfl
theorem ret_b {a b : Bool} (h : a = b) : Ending.returned (.bool a) = .returned (.bool b) := by rw [h]
end Mov
end Go.Proofs.YtpgbnnnfeaodmaaGreatDoor
/- Plain: moves to and fro, and around. -/
namespace Go.Proofs.YtpgbnnnfeaodmaaGreatDoor
set_option linter.unusedVariables false
namespace Mov
open Grd Fld
end Mov
end Go.Proofs.YtpgbnnnfeaodmaaGreatDoor
