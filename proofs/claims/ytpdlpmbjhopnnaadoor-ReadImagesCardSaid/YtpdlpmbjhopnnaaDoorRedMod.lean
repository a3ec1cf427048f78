/- Plain: what is modified is a right submission. -/
import Derived.Test.YtpdlpmbjhopnnaaDoorRedSpec
import Derived.Test.YtpdlpmbjhopnnaaDoorBunEdp
namespace Go.Proofs.YtpdlpmbjhopnnaaDoor
set_option linter.unusedVariables false
namespace Red
open Grd Fld
open Go.Proofs.YtpdlpmbjhopnnaaDoor.Inp (F I letter fwrong fw iright iwrite ibytes flen flens)
/-- The letters of these cells, in order. -/
def chars (cs : List C) (l : List Nat) : List Nat := (l.map fun j => (cs.getD j noC).c).filter (fun x => x != 0)
def fieldOf (cs : List C) (i : Nat) : F := ⟨((on cs.length (i : Int) 1 : Nat) : Int), chars cs (cellsAt cs (i : Int))⟩
/-- Where modified fields begin. -/
def modBs (cs : List C) : List Nat := (begins cs).filter (fun i => (cs.getD i noC).m)
def lettersAll (cs : List C) : List Nat := (cs.map (fun o => o.c)).filter letter
def alone (cs : List C) : List F := if lettersAll cs = [] then [] else [⟨-1, lettersAll cs⟩]
/-- What is modified. -/
def modified (s : S) (aid : Nat) : I := if Att.bare aid then ⟨aid, 0, []⟩ else ⟨aid, s.cur, if fmt s.cs then (modBs s.cs).map (fieldOf s.cs) else alone s.cs⟩
theorem cell_r {s : S} (h : sright s = true) {i : Nat} (hi : i < s.cs.length) : cright (s.cs.getD i noC) = true := by
  obtain ⟨_, _, _, _, h5⟩ := sright_parts h
  rw [List.getD_eq_getElem?_getD, List.getElem?_eq_getElem hi]
  exact h5 _ (List.getElem_mem hi)
/-- A field's cells begin no field. -/
theorem cellsAt_mem {cs : List C} {b : Nat} (hb : b < cs.length) (hf : fat cs b = true) {x : Nat} (hx : x ∈ cellsAt cs (b : Int)) : x < cs.length ∧ fat cs x = false := by
  unfold cellsAt at hx
  rw [List.mem_map] at hx
  obtain ⟨i, hi, rfl⟩ := hx
  obtain ⟨_, g2, _⟩ := clen_some hb hf
  exact ⟨on_lt (by omega) _ _, g2 i (List.mem_range.1 hi)⟩
theorem chars_letter {s : S} (h : sright s = true) {l : List Nat} (hl : ∀ x ∈ l, x < s.cs.length ∧ fat s.cs x = false) : (chars s.cs l).all letter = true := by
  rw [List.all_eq_true]
  intro x hx
  unfold chars at hx
  rw [List.mem_filter, List.mem_map] at hx
  obtain ⟨⟨j, hj, rfl⟩, h0⟩ := hx
  obtain ⟨g1, g2⟩ := hl j hj
  unfold letter
  rw [h0, (cright_n (cell_r h g1) g2).2]; rfl
theorem modBs_mem {cs : List C} {i : Nat} (h : i ∈ modBs cs) : i < cs.length ∧ fat cs i = true := by
  unfold modBs at h
  rw [List.mem_filter] at h
  exact mem_begins.1 h.1
theorem field_right {s : S} (h : sright s = true) {i : Nat} (hi : i < s.cs.length) (hf : fat s.cs i = true) (al : Bool) : fwrong s.cs.length al (fieldOf s.cs i) = 0 := by
  have hz : 0 < s.cs.length := by omega
  have h1 := on_lt hz (i : Int) 1
  have h2 := chars_letter h (l := cellsAt s.cs (i : Int)) fun x hx => cellsAt_mem hi hf hx
  have ha : ((al && (fieldOf s.cs i).a == -1)) = false := by
    have : ((fieldOf s.cs i).a == -1) = false := by
      simp only [fieldOf, beq_eq_false_iff_ne, ne_eq]; omega
    rw [this]; simp
  unfold fwrong
  rw [ha, if_neg (by simp only [fieldOf]; omega), if_neg (by show ¬ (chars s.cs (cellsAt s.cs (i : Int))).all letter = false; rw [h2]; decide), if_neg (by simp)]
theorem fw_all {z : Nat} {al : Bool} : ∀ (fs : List F) (i : Nat), (∀ f ∈ fs, fwrong z al f = 0) → (fw z al i fs).1 = 0
  | [], _, _ => rfl
  | f :: fs, i, h => by
    unfold fw
    rw [h f (by simp), if_neg (by simp)]
    exact fw_all fs _ fun x hx => h x (by simp [hx])
theorem letters_all (cs : List C) : (lettersAll cs).all letter = true := by
  unfold lettersAll
  rw [List.all_eq_true]
  intro x hx
  exact (List.mem_filter.1 hx).2
theorem alone_right (cs : List C) (z : Nat) : (fw z ((alone cs).length == 1) 0 (alone cs)).1 = 0 := by
  unfold alone
  by_cases h : lettersAll cs = []
  · rw [if_pos h]; rfl
  · rw [if_neg h]
    refine fw_all _ _ fun f hf => ?_
    simp only [List.mem_singleton] at hf
    subst hf
    unfold fwrong
    rw [if_neg (by simp), if_neg (by show ¬ (lettersAll cs).all letter = false; rw [letters_all]; decide), if_neg (by simpa using h)]
/-- What is modified is right. -/
theorem modified_right {s : S} (h : sright s = true) {c : Nat} (ha : Att.aid c = true) : iright (modified s c) s.cs.length = (0, -1) := by
  obtain ⟨_, _, h3, h4, _⟩ := sright_parts h
  unfold modified
  cases hb : Att.bare c with
  | true =>
    rw [if_pos rfl]
    unfold iright
    rw [if_neg (by rw [ha]; decide), if_pos hb, if_neg (by simp)]
  | false =>
    rw [if_neg (by decide)]
    unfold iright
    rw [if_neg (by rw [ha]; decide), if_neg (by rw [hb]; decide), if_neg (by simp only; omega)]
    have : (fw s.cs.length ((if fmt s.cs then (modBs s.cs).map (fieldOf s.cs) else alone s.cs).length == 1) 0 (if fmt s.cs then (modBs s.cs).map (fieldOf s.cs) else alone s.cs)).1 = 0 := by
      cases hf : fmt s.cs with
      | true =>
        rw [if_pos rfl]
        refine fw_all _ _ fun f hf => ?_
        obtain ⟨i, hi, rfl⟩ := List.mem_map.1 hf
        exact field_right h (modBs_mem hi).1 (modBs_mem hi).2 _
      | false => rw [if_neg (by decide)]; exact alone_right s.cs _
    simp only [this]
    rfl
/-! ### Its length -/
theorem cnt_or {p : Nat → Bool} {c : Nat} (hp : p c = false) : ∀ {z : Nat}, c < z → cnt (fun x => p x || x == c) z = cnt p z + 1
  | 0, h => by omega
  | z + 1, h => by
    by_cases hc : c = z
    · subst hc
      unfold cnt
      rw [cnt_congr (p := fun x => p x || x == c) (q := p) (m := c) fun x hx => by
        have : (x == c) = false := by simp; omega
        rw [this, Bool.or_false]]
      simp [hp]
    · have ih := cnt_or hp (z := z) (by omega)
      unfold cnt
      rw [ih]
      have : (z == c) = false := by simp; omega
      rw [this, Bool.or_false]; omega
/-- The cells of fields, and where they begin, in all. -/
def tot (cs : List C) : List Nat → Nat
  | [] => 0
  | b :: l => clen cs (b : Int) + 1 + tot cs l
theorem tot_app (cs : List C) : ∀ (a b : List Nat), tot cs (a ++ b) = tot cs a + tot cs b
  | [], b => by simp [tot]
  | x :: a, b => by simp [tot, tot_app cs a b]; omega
theorem cnt_covk {cs : List C} {i : Nat} (hi : i < (begins cs).length) : ∀ k, k ≤ clen cs (((begins cs).getD i 0 : Nat) : Int) → cnt (covk cs i k) cs.length = cnt (cov cs i) cs.length + 1 + k
  | 0, _ => by
    rw [cnt_congr (q := fun c => cov cs i c || c == (begins cs).getD i 0) fun c _ => covk_start cs i c, cnt_or (cov_new hi) (begins_at hi).1]
  | k + 1, hk => by
    have hz : 0 < cs.length := by have := (begins_at hi).1; omega
    rw [cnt_congr (q := fun c => covk cs i k c || c == on cs.length (((begins cs).getD i 0 : Nat) : Int) ((k : Int) + 1)) fun c _ => covk_step cs i k c, cnt_or (covk_new hi (by omega)) (on_lt hz _ _), cnt_covk hi k (by omega)]
    omega
theorem tot_take {cs : List C} : ∀ i, i ≤ (begins cs).length → tot cs ((begins cs).take i) = cnt (cov cs i) cs.length
  | 0, _ => by
    have : ∀ z, cnt (cov cs 0) z = 0 := fun z => by
      induction z with
      | zero => rfl
      | succ z ih => unfold cnt; rw [ih, cov_zero]; rfl
    rw [this]; rfl
  | i + 1, hi => by
    have h1 := tot_take (cs := cs) i (by omega)
    have h2 := cnt_covk (cs := cs) (i := i) (by omega) _ (Nat.le_refl _)
    rw [cnt_congr (q := cov cs (i + 1)) fun c hc => covk_end (by omega) hc] at h2
    rw [List.take_add_one, tot_app, h1, h2, List.getElem?_eq_getElem (show i < (begins cs).length by omega)]
    have e : (begins cs)[i] = (begins cs).getD i 0 := by rw [List.getD_eq_getElem?_getD, List.getElem?_eq_getElem (show i < (begins cs).length by omega)]; rfl
    simp only [Option.toList_some, tot, e]
    omega
theorem cnt_max (p : Nat → Bool) : ∀ z, cnt p z ≤ z
  | 0 => Nat.le_refl _
  | z + 1 => by
    have := cnt_max p z
    unfold cnt
    split <;> omega
theorem tot_begins (cs : List C) : tot cs (begins cs) ≤ cs.length := by
  have := tot_take (cs := cs) (begins cs).length (Nat.le_refl _)
  rw [List.take_length] at this
  rw [this]; exact cnt_max _ _
theorem tot_filter (cs : List C) (p : Nat → Bool) : ∀ l, tot cs (l.filter p) ≤ tot cs l
  | [] => Nat.le_refl _
  | b :: l => by
    have := tot_filter cs p l
    rw [List.filter_cons]
    split
    · simp only [tot]; omega
    · simp only [tot]; omega
theorem len_tot (cs : List C) : ∀ l : List Nat, l.length ≤ tot cs l
  | [] => Nat.le_refl _
  | b :: l => by have := len_tot cs l; simp only [tot, List.length_cons]; omega
theorem flens_map (cs : List C) : ∀ l : List Nat, flens (l.map (fieldOf cs)) ≤ tot cs l + 2 * l.length
  | [] => Nat.le_refl _
  | b :: l => by
    have ih := flens_map cs l
    have h1 : (fieldOf cs b).t.length ≤ clen cs (b : Int) := by
      show (chars cs (cellsAt cs (b : Int))).length ≤ _
      unfold chars
      refine Nat.le_trans (List.length_filter_le _ _) ?_
      simp [cellsAt]
    have h2 : flen (fieldOf cs b) ≤ (fieldOf cs b).t.length + 3 := by
      unfold flen; split <;> omega
    simp only [List.map_cons, flens, tot, List.length_cons]
    omega
theorem modified_len (s : S) (c : Nat) : (ibytes (modified s c) s.cs.length).length ≤ 3 + 3 * s.cs.length := by
  rw [Go.Proofs.YtpdlpmbjhopnnaaDoor.Inp.ibytes_len]
  split
  · omega
  · unfold modified
    split
    · simp only [flens]; omega
    · have h1 : flens (if fmt s.cs then (modBs s.cs).map (fieldOf s.cs) else alone s.cs) ≤ 3 * s.cs.length := by
        split
        · have g1 := flens_map s.cs (modBs s.cs)
          have g2 : tot s.cs (modBs s.cs) ≤ tot s.cs (begins s.cs) := tot_filter _ _ _
          have g3 := tot_begins s.cs
          have g4 := len_tot s.cs (modBs s.cs)
          omega
        · unfold alone
          split
          · simp only [flens]; omega
          · have : (lettersAll s.cs).length ≤ s.cs.length := by
              unfold lettersAll
              refine Nat.le_trans (List.length_filter_le _ _) ?_
              simp
            simp only [flens, flen]
            rw [if_neg (by decide)]
            omega
      simp only
      omega
/-- Its bytes, and what they are read as. -/
theorem modified_write {s : S} (h : sright s = true) (hl : s.cs.length ≤ 2700) {c : Nat} (ha : Att.aid c = true) : iwrite (modified s c) s.cs.length = (ibytes (modified s c) s.cs.length, 0, -1) := by
  have h1 := modified_right h ha
  have h2 := modified_len s c
  unfold iwrite
  rw [h1, if_neg (by simp), if_neg (by omega)]
theorem modified_read {s : S} (h : sright s = true) (hl : s.cs.length ≤ 2700) {c : Nat} (ha : Att.aid c = true) : Go.Proofs.YtpdlpmbjhopnnaaDoor.Inp.iread (ibytes (modified s c) s.cs.length) s.cs.length = (modified s c, 0, -1) := by
  have h1 := modified_write h hl ha
  have h2 := Go.Proofs.YtpdlpmbjhopnnaaDoor.Inp.iread_write (c := modified s c) (z := s.cs.length) (by omega) (by rw [h1])
  rw [h1] at h2
  exact h2
/-- The image, read. -/
theorem image_read {s : S} (h : sright s = true) (hl : s.cs.length ≤ 4000) : Go.Proofs.YtpdlpmbjhopnnaaDoor.Str.cread (241 :: Six.put (Att.wnum false false false) :: Go.Proofs.YtpdlpmbjhopnnaaDoor.Str.obs s.cs.length (image s)) s.cs.length = (⟨241, false, false, false, image s⟩, 0, -1) := by
  have h1 := image_write h hl
  have h2 := Go.Proofs.YtpdlpmbjhopnnaaDoor.Str.cread_write (c := ⟨241, false, false, false, image s⟩) (z := s.cs.length) (by omega) (by rw [h1])
  rw [h1] at h2
  exact h2
end Red
end Go.Proofs.YtpdlpmbjhopnnaaDoor
