/- Plain: what loops over a screen's cells gather, step by step. -/
import Derived.Test.YtpdlpmbjhopnnaaDoorRedMod
namespace Go.Proofs.YtpdlpmbjhopnnaaDoor
set_option linter.unusedVariables false
namespace Red
open Grd Fld
open Go.Proofs.YtpdlpmbjhopnnaaDoor.Ord (O)
open Go.Proofs.YtpdlpmbjhopnnaaDoor.Inp (F letter)
theorem drop_cell {cs : List C} {i : Nat} (hi : i < cs.length) : cs.drop i = cs.getD i noC :: cs.drop (i + 1) := by
  rw [List.drop_eq_getElem_cons hi, List.getD_eq_getElem?_getD, List.getElem?_eq_getElem hi]; rfl
theorem drop_end {cs : List C} {i : Nat} (hi : cs.length ≤ i) : cs.drop i = [] := List.drop_eq_nil_of_le hi
/-- A field begins. -/
theorem runs_field {cs : List C} {i : Nat} (hi : i < cs.length) (hf : fat cs i = true) (t : List Nat) : runs t (cs.drop i) = flush t ++ startO (cs.getD i noC) :: runs [] (cs.drop (i + 1)) := by
  rw [drop_cell hi]
  show (if (cs.getD i noC).f then _ else _) = _
  rw [if_pos (show (cs.getD i noC).f = true from hf)]
/-- A character. -/
theorem runs_char {cs : List C} {i : Nat} (hi : i < cs.length) (hf : fat cs i = false) (t : List Nat) : runs t (cs.drop i) = runs (t ++ [(cs.getD i noC).c]) (cs.drop (i + 1)) := by
  rw [drop_cell hi]
  show (if (cs.getD i noC).f then _ else _) = _
  rw [if_neg (by have : (cs.getD i noC).f = false := hf; rw [this]; decide)]
/-- A run's end. -/
theorem runs_end {cs : List C} {i : Nat} (h : i < cs.length → fat cs i = true) (t : List Nat) (ht : t ≠ []) : runs t (cs.drop i) = textO t :: runs [] (cs.drop i) := by
  rcases Nat.lt_or_ge i cs.length with hi | hi
  · rw [runs_field hi (h hi), runs_field hi (h hi), flush_some ht, flush_nil]; rfl
  · rw [drop_end hi]
    show flush t = textO t :: flush []
    rw [flush_some ht, flush_nil]
theorem runs_done {cs : List C} {i : Nat} (hi : cs.length ≤ i) : runs [] (cs.drop i) = [] := by rw [drop_end hi]; rfl
/-- The modified fields among the first i cells. -/
def modsTo (cs : List C) (i : Nat) : List F := ((List.range i).filter (fun j => fat cs j && (cs.getD j noC).m)).map (fieldOf cs)
theorem modsTo_all (cs : List C) : modsTo cs cs.length = (modBs cs).map (fieldOf cs) := by
  unfold modsTo modBs begins
  rw [List.filter_filter]
  congr 1
  exact List.filter_congr fun x _ => Bool.and_comm _ _
theorem modsTo_step (cs : List C) (i : Nat) : modsTo cs (i + 1) = if fat cs i && (cs.getD i noC).m then modsTo cs i ++ [fieldOf cs i] else modsTo cs i := by
  unfold modsTo
  rw [List.range_succ, List.filter_append, List.map_append]
  have e : ∀ p : Nat → Bool, List.filter p [i] = if p i then [i] else [] := fun p => by
    rw [List.filter_cons]; rfl
  rw [e]
  cases (fat cs i && (cs.getD i noC).m) with
  | true => rw [if_pos rfl, if_pos rfl]; rfl
  | false => rw [if_neg (by decide), if_neg (by decide)]; simp
theorem modsTo_len (cs : List C) : ∀ i, (modsTo cs i).length = cnt (fun j => fat cs j && (cs.getD j noC).m) i
  | 0 => rfl
  | i + 1 => by
    rw [modsTo_step, cnt, ← modsTo_len cs i]
    split
    · simp
    · simp
/-- The letters of the first k of these cells. -/
theorem chars_step (cs : List C) (l : List Nat) {k : Nat} (hk : k < l.length) : chars cs (l.take (k + 1)) = if ((cs.getD (l.getD k 0) noC).c != 0) = true then chars cs (l.take k) ++ [(cs.getD (l.getD k 0) noC).c] else chars cs (l.take k) := by
  unfold chars
  rw [List.take_add_one, List.map_append, List.filter_append, List.getElem?_eq_getElem hk]
  have e : l.getD k 0 = l[k] := by rw [List.getD_eq_getElem?_getD, List.getElem?_eq_getElem hk]; rfl
  rw [e]
  simp only [Option.toList_some, List.map_cons, List.map_nil, List.filter_cons, List.filter_nil]
  split
  · rfl
  · simp
theorem letters_step (cs : List C) {k : Nat} (hk : k < cs.length) : lettersAll (cs.take (k + 1)) = if letter (cs.getD k noC).c = true then lettersAll (cs.take k) ++ [(cs.getD k noC).c] else lettersAll (cs.take k) := by
  unfold lettersAll
  rw [List.take_add_one, List.map_append, List.filter_append, List.getElem?_eq_getElem hk]
  have e : cs.getD k noC = cs[k] := by rw [List.getD_eq_getElem?_getD, List.getElem?_eq_getElem hk]; rfl
  rw [e]
  simp only [Option.toList_some, List.map_cons, List.map_nil, List.filter_cons, List.filter_nil]
  split
  · rfl
  · simp
/-- What is modified doesn't hang on whether the screen is locked, or inserts; nor does the image. -/
theorem modified_lk (s : S) (lk ins : Bool) (c : Nat) : modified ⟨s.rows, s.cols, s.cs, s.cur, lk, ins⟩ c = modified s c := rfl
theorem image_lk (s : S) (lk ins : Bool) : image ⟨s.rows, s.cols, s.cs, s.cur, lk, ins⟩ = image s := rfl
/-- As many fields as are modified. -/
theorem modified_count (s : S) (c : Nat) (hb : Att.bare c = false) : (modified s c).fs.length = if fmt s.cs then cnt (fun j => fat s.cs j && (s.cs.getD j noC).m) s.cs.length else (alone s.cs).length := by
  unfold modified
  rw [if_neg (by rw [hb]; decide)]
  simp only
  split
  · rw [← modsTo_all, modsTo_len]
  · rfl
theorem modified_bare (s : S) (c : Nat) (hb : Att.bare c = true) : modified s c = ⟨c, 0, []⟩ := by unfold modified; rw [if_pos hb]
end Red
end Go.Proofs.YtpdlpmbjhopnnaaDoor
