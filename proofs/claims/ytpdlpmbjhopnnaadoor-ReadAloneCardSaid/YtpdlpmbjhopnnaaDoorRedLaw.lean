/- Plain: bounds of what a screen tells. -/
import Derived.Test.YtpdlpmbjhopnnaaDoorRedMore
import Derived.Test.YtpdlpmbjhopnnaaDoorRedGave
namespace Go.Proofs.YtpdlpmbjhopnnaaDoor
set_option linter.unusedVariables false
namespace Red
open Grd Fld
open Go.Proofs.YtpdlpmbjhopnnaaDoor.Ord (O none_)
open Go.Proofs.YtpdlpmbjhopnnaaDoor.Inp (F I letter)
theorem runs_sound : ∀ (cs : List C) (t : List Nat), Grd.Sound cs → (∀ x ∈ t, x < 256) → t.length + cs.length < 1000000 → Str.Sound (runs t cs)
  | [], t, _, ht, hl => by
    intro o ho
    unfold runs flush at ho
    by_cases h : t = []
    · rw [if_pos h] at ho; simp at ho
    · rw [if_neg h] at ho
      simp only [List.mem_singleton] at ho
      subst ho
      exact ⟨ht, by simp only [textO]; simp at hl; omega, by simp [textO]⟩
  | c :: cs, t, hs, ht, hl => by
    have hs2 : Grd.Sound cs := fun o ho => hs o (by simp [ho])
    have hc := hs c (by simp)
    simp only [List.length_cons] at hl
    unfold runs
    cases hf : c.f with
    | true =>
      rw [if_pos rfl]
      intro o ho
      rw [List.mem_append, List.mem_cons] at ho
      rcases ho with ho | rfl | ho
      · unfold flush at ho
        by_cases h : t = []
        · rw [if_pos h] at ho; simp at ho
        · rw [if_neg h] at ho
          simp only [List.mem_singleton] at ho
          subst ho
          exact ⟨ht, by simp only [textO]; omega, by simp [textO]⟩
      · exact ⟨by simp [startO], by simp [startO], by simp [startO]⟩
      · exact runs_sound cs [] hs2 (by simp) (by simp; omega) o ho
    | false =>
      rw [if_neg (by decide)]
      refine runs_sound cs (t ++ [c.c]) hs2 (fun x hx => ?_) (by simp; omega)
      rw [List.mem_append, List.mem_singleton] at hx
      rcases hx with hx | rfl
      · exact ht x hx
      · exact hc
theorem image_sound {s : S} (h : Grd.Sound s.cs) (hl : s.cs.length < 10000) : Str.Sound (image s) := by
  intro o ho
  unfold image at ho
  simp only [List.mem_cons, List.mem_append] at ho
  rcases ho with rfl | ho | ho | ho
  · exact ⟨by simp [setO], by simp [setO], by simp [setO]⟩
  · exact runs_sound s.cs [] h (by simp) (by simp; omega) o ho
  · split at ho
    · simp only [List.mem_singleton] at ho
      subst ho
      exact ⟨by simp [setO], by simp [setO], by simp [setO]⟩
    · simp at ho
  · simp only [List.not_mem_nil, or_false] at ho
    subst ho
    exact ⟨by simp [curO], by simp [curO], by simp [curO]⟩
theorem runs_len : ∀ (cs : List C) (t : List Nat), (runs t cs).length ≤ 1 + 2 * cs.length
  | [], t => by unfold runs flush; split <;> simp
  | c :: cs, t => by
    unfold runs
    split
    · have h1 := runs_len cs []
      have h2 : (flush t).length ≤ 1 := by unfold flush; split <;> simp
      simp only [List.length_append, List.length_cons]; omega
    · have h1 := runs_len cs (t ++ [c.c])
      simp only [List.length_cons]; omega
theorem image_len (s : S) : (image s).length ≤ 4 + 2 * s.cs.length := by
  have h1 := runs_len s.cs []
  have h2 : (if 0 < s.cur then [setO s.cur] else []).length ≤ 1 := by split <;> simp
  unfold image
  simp only [List.length_cons, List.length_append, List.length_nil]; omega
theorem chars_sound {cs : List C} (h : Grd.Sound cs) (l : List Nat) : ∀ x ∈ chars cs l, x < 256 := by
  intro x hx
  unfold chars at hx
  rw [List.mem_filter, List.mem_map] at hx
  obtain ⟨⟨j, _, rfl⟩, _⟩ := hx
  exact sound_at h j
theorem chars_len (cs : List C) (l : List Nat) : (chars cs l).length ≤ l.length := by
  unfold chars
  have := List.length_filter_le (fun x => x != 0) (l.map fun j => (cs.getD j noC).c)
  simpa using this
theorem lettersAll_len (cs : List C) : (lettersAll cs).length ≤ cs.length := by
  unfold lettersAll
  have := List.length_filter_le letter (cs.map (fun o => o.c))
  simpa using this
theorem modified_sound {s : S} (h : Grd.Sound s.cs) (hl : s.cs.length < 10000) (c : Nat) : Inp.Sound (modified s c).fs := by
  intro f hf
  unfold modified at hf
  split at hf
  · simp at hf
  · simp only at hf
    split at hf
    · rw [List.mem_map] at hf
      obtain ⟨b, hb, rfl⟩ := hf
      obtain ⟨g1, g2⟩ := modBs_mem hb
      refine ⟨chars_sound h _, ?_⟩
      have h1 := chars_len s.cs (cellsAt s.cs (b : Int))
      rw [cells_len] at h1
      have h2 := (clen_some g1 g2).1
      simp only [fieldOf]; omega
    · unfold alone at hf
      split at hf
      · simp at hf
      · simp only [List.mem_singleton] at hf
        subst hf
        refine ⟨fun x hx => ?_, by have := lettersAll_len s.cs; simp only; omega⟩
        simp only [lettersAll] at hx
        rw [List.mem_filter, List.mem_map] at hx
        obtain ⟨⟨o, ho, rfl⟩, _⟩ := hx
        exact h o ho
theorem modified_few (s : S) (c : Nat) (hz : 0 < s.cs.length) : (modified s c).fs.length ≤ s.cs.length := by
  unfold modified
  split
  · simp
  · simp only
    split
    · rw [← modsTo_all, modsTo_len]; exact cnt_max _ _
    · unfold alone
      split
      · simp
      · simp; omega
/-- A submission that is modified lies on the screen. -/
theorem modified_ok {s : S} {c : Nat} (h : sright s = true) (hz : 0 < s.cs.length) : 0 ≤ (modified s c).cur ∧ (modified s c).cur < (s.cs.length : Int) ∧ ∀ f ∈ (modified s c).fs, f.a < (s.cs.length : Int) := by
  obtain ⟨_, _, h3, h4, _⟩ := sright_parts h
  unfold modified
  split
  · exact ⟨by simp, by simp only; omega, nofun⟩
  · refine ⟨by simp only; omega, by simp only; omega, fun f hf => ?_⟩
    simp only at hf
    split at hf
    · obtain ⟨b, hb, rfl⟩ := List.mem_map.1 hf
      have := on_lt hz (b : Int) 1
      simp only [fieldOf]; omega
    · unfold alone at hf
      split at hf
      · simp at hf
      · simp only [List.mem_singleton] at hf
        subst hf
        simp only; omega
theorem asks_yes {s : S} {c : Nat} (h : Att.aid c = true) : asks s c = modified s c ∧ asksE c = 0 := by
  unfold asks asksE; rw [h]; exact ⟨rfl, rfl⟩
theorem asks_no {s : S} {c : Nat} (h : Att.aid c = false) : asks s c = Inp.noneI ∧ asksE c = 3 := by
  unfold asks asksE; rw [h]; exact ⟨rfl, rfl⟩
end Red
end Go.Proofs.YtpdlpmbjhopnnaaDoor
