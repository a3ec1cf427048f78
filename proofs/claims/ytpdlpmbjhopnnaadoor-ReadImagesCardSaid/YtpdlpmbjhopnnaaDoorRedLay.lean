/- Plain: what the code of package read gathers, step by step. -/
import Derived.Test.YtpdlpmbjhopnnaaDoorRedMore
namespace Go.Proofs.YtpdlpmbjhopnnaaDoor
set_option linter.unusedVariables false
namespace Red
open Grd Fld
open Go.Proofs.YtpdlpmbjhopnnaaDoor.Ord (O)
open Go.Proofs.YtpdlpmbjhopnnaaDoor.Inp (F I letter)
theorem cells_field {cs : List C} {b : Nat} (hb : b < cs.length) (hf : fat cs b = true) : cells cs b = cellsAt cs (b : Int) := by unfold cells; rw [begin_self hb hf]
theorem cells_whole {cs : List C} (hz : 0 < cs.length) (hf : fmt cs = false) : cells cs 0 = List.range cs.length := by
  have hn : ∀ i, i < cs.length → fat cs i = false := fun i hi => by
    cases h : fat cs i with
    | false => rfl
    | true => rw [fmt_iff.2 ⟨i, hi, h⟩] at hf; cases hf
  have hc : clen cs (-1) = cs.length := by
    unfold clen
    rw [firstK_no fun i _ _ => hn _ (on_lt hz _ _)]
  unfold cells
  rw [begin_none hz hf]
  unfold cellsAt
  rw [hc]
  conv => rhs; rw [← List.map_id (List.range cs.length)]
  refine List.map_congr_left fun i hi => ?_
  have := List.mem_range.1 hi
  unfold on
  rw [show (-1 : Int) + ((i : Int) + 1) = (i : Int) by omega, Int.emod_eq_of_lt (by omega) (by omega)]
  rfl
theorem map_range (cs : List C) : ((List.range cs.length).map fun j => (cs.getD j noC).c) = cs.map (fun o => o.c) := by
  refine List.ext_getElem (by simp) fun i h1 h2 => ?_
  simp only [List.length_map, List.length_range] at h1 h2
  simp [List.getD_eq_getElem?_getD, List.getElem?_eq_getElem h2]
/-- Of a right screen without fields all characters but 0 are letters. -/
theorem whole_letters {s : S} (hr : sright s = true) (hf : fmt s.cs = false) : chars s.cs (cells s.cs 0) = lettersAll s.cs := by
  have hz : 0 < s.cs.length := by obtain ⟨h1, _⟩ := sright_parts hr; omega
  rw [cells_whole hz hf]
  unfold chars lettersAll
  rw [map_range]
  refine List.filter_congr fun x hx => ?_
  obtain ⟨o, ho, rfl⟩ := List.mem_map.1 hx
  obtain ⟨i, hi, rfl⟩ := List.getElem_of_mem ho
  have h1 := cell_r hr hi
  have h2 : fat s.cs i = false := by
    cases h : fat s.cs i with
    | false => rfl
    | true => rw [fmt_iff.2 ⟨i, hi, h⟩] at hf; cases hf
  have h3 := (cright_n h1 h2).2
  rw [List.getD_eq_getElem?_getD, List.getElem?_eq_getElem hi] at h3
  unfold letter
  rw [show Att.char (s.cs[i]).c = true from h3, Bool.and_true]
/-- The modified fields among the first k that begin. -/
def modsB (cs : List C) (k : Nat) : List F := (((begins cs).take k).filter (fun i => (cs.getD i noC).m)).map (fieldOf cs)
theorem modsB_all (cs : List C) : modsB cs (begins cs).length = (modBs cs).map (fieldOf cs) := by
  unfold modsB modBs
  rw [List.take_length]
theorem modsB_step {cs : List C} {k : Nat} (hk : k < (begins cs).length) : modsB cs (k + 1) = if (cs.getD ((begins cs).getD k 0) noC).m = true then modsB cs k ++ [fieldOf cs ((begins cs).getD k 0)] else modsB cs k := by
  unfold modsB
  have e : (begins cs).getD k 0 = (begins cs)[k] := by rw [List.getD_eq_getElem?_getD, List.getElem?_eq_getElem hk]; rfl
  rw [List.take_add_one, List.filter_append, List.map_append, List.getElem?_eq_getElem hk, e]
  simp only [Option.toList_some, List.filter_cons, List.filter_nil]
  split
  · rfl
  · simp
theorem modsB_len (cs : List C) (k : Nat) : (modsB cs k).length ≤ k := by
  unfold modsB
  rw [List.length_map]
  refine Nat.le_trans (List.length_filter_le _ _) ?_
  rw [List.length_take]; omega
theorem begins_len (cs : List C) : (begins cs).length ≤ cs.length := by
  unfold begins
  refine Nat.le_trans (List.length_filter_le _ _) ?_
  simp
theorem begins_mem {cs : List C} {k : Nat} (hk : k < (begins cs).length) : (begins cs).getD k 0 < cs.length ∧ fat cs ((begins cs).getD k 0) = true := by
  have e : (begins cs).getD k 0 = (begins cs)[k] := by rw [List.getD_eq_getElem?_getD, List.getElem?_eq_getElem hk]; rfl
  rw [e]
  exact mem_begins.1 (List.getElem_mem hk)
/-! ### The image: the orders so far, and the last of them -/
/-- Where an image stands behind i cells: os and q are the orders so far, whose last one may grow. -/
def Laid (cs : List C) (i : Nat) (os : List O) (q : O) : Prop :=
  (∃ t, t ≠ [] ∧ q = textO t ∧ os ++ runs t (cs.drop i) = setO 0 :: runs [] cs) ∨ (q.k ≠ 1 ∧ q.t = [] ∧ os ++ q :: runs [] (cs.drop i) = setO 0 :: runs [] cs)
theorem laid_zero (cs : List C) : Laid cs 0 [] (setO 0) := .inr ⟨by decide, rfl, rfl⟩
theorem laid_field {cs : List C} {i : Nat} {os : List O} {q : O} (h : Laid cs i os q) (hi : i < cs.length) (hf : fat cs i = true) : Laid cs (i + 1) (os ++ [q]) (startO (cs.getD i noC)) := by
  refine .inr ⟨by simp [startO], rfl, ?_⟩
  rcases h with ⟨t, ht, rfl, h⟩ | ⟨_, _, h⟩
  · rw [← h, runs_field hi hf, flush_some ht]; simp
  · rw [← h, runs_field hi hf, flush_nil]; simp
theorem laid_more {cs : List C} {i : Nat} {os : List O} {q : O} (h : Laid cs i os q) (hi : i < cs.length) (hf : fat cs i = false) (hq : q.k = 1) : ∃ t, q = textO t ∧ Laid cs (i + 1) os (textO (t ++ [(cs.getD i noC).c])) := by
  rcases h with ⟨t, ht, rfl, h⟩ | ⟨h1, _, h⟩
  · exact ⟨t, rfl, .inl ⟨_, by simp, rfl, by rw [← h, runs_char hi hf]⟩⟩
  · exact absurd hq h1
theorem laid_new {cs : List C} {i : Nat} {os : List O} {q : O} (h : Laid cs i os q) (hi : i < cs.length) (hf : fat cs i = false) (hq : q.k ≠ 1) : Laid cs (i + 1) (os ++ [q]) (textO [(cs.getD i noC).c]) := by
  rcases h with ⟨t, ht, rfl, h⟩ | ⟨_, _, h⟩
  · exact absurd rfl hq
  · refine .inl ⟨_, by simp, rfl, ?_⟩
    rw [← h, runs_char hi hf]; simp
theorem laid_end {cs : List C} {os : List O} {q : O} (h : Laid cs cs.length os q) : os ++ [q] = setO 0 :: runs [] cs := by
  rcases h with ⟨t, ht, rfl, h⟩ | ⟨_, _, h⟩
  · rw [← h, runs_end (fun h => absurd h (Nat.lt_irrefl _)) t ht, runs_done (Nat.le_refl _)]
  · rw [← h, runs_done (Nat.le_refl _)]
end Red
end Go.Proofs.YtpdlpmbjhopnnaaDoor
