/- RedSpec, RedMod, RedMore, RedLay, RedPnt in one text (by tools/bundle.py). -/
import Derived.Test.YtpdlpmbjhopnnaaGreatDoorBunFld
import Derived.Test.YtpdlpmbjhopnnaaGreatDoorBunPnt
import Derived.Test.YtpdlpmbjhopnnaaGreatDoorBunInp
import Derived.Test.YtpdlpmbjhopnnaaGreatDoorBunPlain
import Derived.Test.YtpdlpmbjhopnnaaGreatDoorBunEdp
/- Plain: what a screen tells: its image, and what is modified on it. -/
namespace Go.Proofs.YtpdlpmbjhopnnaaGreatDoor
set_option linter.unusedVariables false
namespace Red
open Grd Fld Pnt
open Go.Proofs.YtpdlpmbjhopnnaaGreatDoor.Ord (O wrong none_ own same)
open Go.Proofs.YtpdlpmbjhopnnaaGreatDoor.Inp (F I letter)
/-- The orders of an image. -/
def textO (t : List Nat) : O := ⟨1, t, false, false, 0, false, 0, 0⟩
def startO (o : C) : O := ⟨2, [], o.p, o.n, o.s, o.m, 0, 0⟩
def setO (a : Int) : O := ⟨3, [], false, false, 0, false, a, 0⟩
def curO : O := ⟨4, [], false, false, 0, false, 0, 0⟩
def flush (t : List Nat) : List O := if t = [] then [] else [textO t]
/-- The cells' orders; t: the characters that stand side by side so far. -/
def runs : List Nat → List C → List O
  | t, [] => flush t
  | t, o :: cs => if o.f then flush t ++ startO o :: runs [] cs else runs (t ++ [o.c]) cs
/-- The image. -/
def image (s : S) : List O := setO 0 :: (runs [] s.cs ++ ((if 0 < s.cur then [setO s.cur] else []) ++ [curO]))
theorem flush_nil : flush [] = [] := rfl
theorem flush_some {t : List Nat} (h : t ≠ []) : flush t = [textO t] := if_neg h
theorem cright_f {o : C} (h : cright o = true) (hf : o.f = true) : o = ⟨true, o.p, o.n, o.s, o.m, 0⟩ ∧ 0 ≤ o.s ∧ o.s ≤ 3 := by
  obtain ⟨f, p, n, s, m, c⟩ := o
  simp only at hf
  subst hf
  simp [cright] at h
  obtain ⟨rfl, h1, h2⟩ := h
  exact ⟨rfl, h1, h2⟩
theorem cright_n {o : C} (h : cright o = true) (hf : o.f = false) : o = chr o.c ∧ Att.char o.c = true := by
  obtain ⟨f, p, n, s, m, c⟩ := o
  simp only at hf
  subst hf
  simp [cright] at h
  obtain ⟨⟨rfl, rfl, rfl, rfl⟩, h1⟩ := h
  exact ⟨rfl, h1⟩
/-! ### The image's orders are right -/
theorem wrong_text {t : List Nat} (h : t ≠ []) (hc : t.all Att.char = true) (z : Nat) : wrong (textO t) z = 0 := by
  simp [wrong, textO, own, same, h, hc]
theorem wrong_start {o : C} (h1 : 0 ≤ o.s) (h2 : o.s ≤ 3) (z : Nat) : wrong (startO o) z = 0 := by
  simp [wrong, startO, own, same]; omega
theorem wrong_set {a : Int} {z : Nat} (h1 : 0 ≤ a) (h2 : a < (z : Int)) : wrong (setO a) z = 0 := by
  simp [wrong, setO, own, same]; omega
theorem wrong_cur (z : Nat) : wrong curO z = 0 := by
  simp [wrong, curO, own, same]
/-- Nothing is wrong with the cells' orders, nor with what stands behind them. -/
theorem ow_runs (z : Nat) (os : List O) (ho : ∀ p i, (Go.Proofs.YtpdlpmbjhopnnaaGreatDoor.Str.ow z p i os).1 = 0) : ∀ (cs : List C) (t : List Nat) (i : Nat), (∀ o ∈ cs, cright o = true) → t.all Att.char = true →
    (Go.Proofs.YtpdlpmbjhopnnaaGreatDoor.Str.ow z false i (runs t cs ++ os)).1 = 0
  | [], t, i, _, ht => by
    unfold runs
    by_cases h : t = []
    · rw [h, flush_nil]; exact ho _ _
    · rw [flush_some h]
      show (Go.Proofs.YtpdlpmbjhopnnaaGreatDoor.Str.ow z false i (textO t :: os)).1 = 0
      unfold Go.Proofs.YtpdlpmbjhopnnaaGreatDoor.Str.ow
      rw [wrong_text h ht, if_neg (by simp), if_neg (by simp)]
      exact ho _ _
  | o :: cs, t, i, hc, ht => by
    have hr := hc o (by simp)
    have hc' : ∀ o ∈ cs, cright o = true := fun x hx => hc x (by simp [hx])
    unfold runs
    cases hf : o.f with
    | true =>
      obtain ⟨_, g1, g2⟩ := cright_f hr hf
      rw [if_pos rfl]
      have key : ∀ p j, (Go.Proofs.YtpdlpmbjhopnnaaGreatDoor.Str.ow z p j (startO o :: (runs [] cs ++ os))).1 = 0 := fun p j => by
        unfold Go.Proofs.YtpdlpmbjhopnnaaGreatDoor.Str.ow
        rw [wrong_start g1 g2, if_neg (by simp), if_neg (by simp [startO])]
        exact ow_runs z os ho cs [] _ hc' rfl
      by_cases h : t = []
      · rw [h, flush_nil]; exact key _ _
      · rw [flush_some h]
        show (Go.Proofs.YtpdlpmbjhopnnaaGreatDoor.Str.ow z false i (textO t :: (startO o :: (runs [] cs ++ os)))).1 = 0
        unfold Go.Proofs.YtpdlpmbjhopnnaaGreatDoor.Str.ow
        rw [wrong_text h ht, if_neg (by simp), if_neg (by simp)]
        exact key _ _
    | false =>
      rw [if_neg (by simp)]
      refine ow_runs z os ho cs (t ++ [o.c]) i hc' ?_
      rw [List.all_append, ht]
      simp [(cright_n hr hf).2]
theorem ow_tail {z : Nat} {c : Int} (h0 : 0 ≤ c) (h1 : c < (z : Int)) (p : Bool) (i : Nat) : (Go.Proofs.YtpdlpmbjhopnnaaGreatDoor.Str.ow z p i ((if 0 < c then [setO c] else []) ++ [curO])).1 = 0 := by
  have e : ∀ p i, (Go.Proofs.YtpdlpmbjhopnnaaGreatDoor.Str.ow z p i [curO]).1 = 0 := fun p i => by
    unfold Go.Proofs.YtpdlpmbjhopnnaaGreatDoor.Str.ow
    rw [wrong_cur, if_neg (by simp), if_neg (by simp [curO])]
    rfl
  split
  · show (Go.Proofs.YtpdlpmbjhopnnaaGreatDoor.Str.ow z p i (setO c :: [curO])).1 = 0
    unfold Go.Proofs.YtpdlpmbjhopnnaaGreatDoor.Str.ow
    rw [wrong_set h0 h1, if_neg (by simp), if_neg (by simp [setO])]
    exact e _ _
  · exact e _ _
theorem image_right {s : S} (h : sright s = true) : (Go.Proofs.YtpdlpmbjhopnnaaGreatDoor.Str.ow s.cs.length false 0 (image s)).1 = 0 := by
  obtain ⟨_, _, h3, h4, h5⟩ := sright_parts h
  unfold image Go.Proofs.YtpdlpmbjhopnnaaGreatDoor.Str.ow
  rw [wrong_set (Int.le_refl 0) (by omega), if_neg (by simp), if_neg (by simp [setO])]
  exact ow_runs _ _ (fun p i => ow_tail h3 h4 p i) s.cs [] _ h5 rfl
/-! ### The image's length -/
theorem obs_app (z : Nat) : ∀ (a b : List O), (Go.Proofs.YtpdlpmbjhopnnaaGreatDoor.Str.obs z (a ++ b)).length = (Go.Proofs.YtpdlpmbjhopnnaaGreatDoor.Str.obs z a).length + (Go.Proofs.YtpdlpmbjhopnnaaGreatDoor.Str.obs z b).length
  | [], b => by simp [Go.Proofs.YtpdlpmbjhopnnaaGreatDoor.Str.obs]
  | o :: a, b => by
    show (Go.Proofs.YtpdlpmbjhopnnaaGreatDoor.Ord.obytes o z ++ Go.Proofs.YtpdlpmbjhopnnaaGreatDoor.Str.obs z (a ++ b)).length = (Go.Proofs.YtpdlpmbjhopnnaaGreatDoor.Ord.obytes o z ++ Go.Proofs.YtpdlpmbjhopnnaaGreatDoor.Str.obs z a).length + _
    rw [List.length_append, List.length_append, obs_app z a b]; omega
theorem obs_flush (z : Nat) (t : List Nat) : (Go.Proofs.YtpdlpmbjhopnnaaGreatDoor.Str.obs z (flush t)).length = t.length := by
  unfold flush
  split
  · rename_i h; rw [h]; rfl
  · simp [Go.Proofs.YtpdlpmbjhopnnaaGreatDoor.Str.obs, Go.Proofs.YtpdlpmbjhopnnaaGreatDoor.Ord.obytes, textO]
theorem obs_runs (z : Nat) : ∀ (cs : List C) (t : List Nat), (Go.Proofs.YtpdlpmbjhopnnaaGreatDoor.Str.obs z (runs t cs)).length ≤ t.length + 2 * cs.length
  | [], t => by unfold runs; rw [obs_flush]; simp
  | o :: cs, t => by
    unfold runs
    split
    · rw [obs_app, obs_flush]
      show t.length + (Go.Proofs.YtpdlpmbjhopnnaaGreatDoor.Ord.obytes (startO o) z ++ Go.Proofs.YtpdlpmbjhopnnaaGreatDoor.Str.obs z (runs [] cs)).length ≤ _
      have := obs_runs z cs []
      rw [List.length_append, show (Go.Proofs.YtpdlpmbjhopnnaaGreatDoor.Ord.obytes (startO o) z).length = 2 by simp [Go.Proofs.YtpdlpmbjhopnnaaGreatDoor.Ord.obytes, startO]]
      simp only [List.length_cons, List.length_nil] at *
      omega
    · have := obs_runs z cs (t ++ [o.c])
      simp only [List.length_append, List.length_cons, List.length_nil] at *
      omega
theorem obs_image (s : S) (z : Nat) : (Go.Proofs.YtpdlpmbjhopnnaaGreatDoor.Str.obs z (image s)).length ≤ 2 * s.cs.length + 7 := by
  unfold image
  show (Go.Proofs.YtpdlpmbjhopnnaaGreatDoor.Ord.obytes (setO 0) z ++ Go.Proofs.YtpdlpmbjhopnnaaGreatDoor.Str.obs z _).length ≤ _
  rw [List.length_append, obs_app, obs_app]
  have h1 := obs_runs z s.cs []
  have h2 : (Go.Proofs.YtpdlpmbjhopnnaaGreatDoor.Ord.obytes (setO 0) z).length = 3 := by simp [Go.Proofs.YtpdlpmbjhopnnaaGreatDoor.Ord.obytes, setO]
  have h3 : (Go.Proofs.YtpdlpmbjhopnnaaGreatDoor.Str.obs z (if 0 < s.cur then [setO s.cur] else [])).length ≤ 3 := by
    split
    · simp [Go.Proofs.YtpdlpmbjhopnnaaGreatDoor.Str.obs, Go.Proofs.YtpdlpmbjhopnnaaGreatDoor.Ord.obytes, setO]
    · simp [Go.Proofs.YtpdlpmbjhopnnaaGreatDoor.Str.obs]
  have h4 : (Go.Proofs.YtpdlpmbjhopnnaaGreatDoor.Str.obs z [curO]).length = 1 := by simp [Go.Proofs.YtpdlpmbjhopnnaaGreatDoor.Str.obs, Go.Proofs.YtpdlpmbjhopnnaaGreatDoor.Ord.obytes, curO]
  simp only [List.length_nil] at h1
  omega
/-- The image as a write's bytes. -/
theorem image_write {s : S} (h : sright s = true) (hl : s.cs.length ≤ 4000) : Go.Proofs.YtpdlpmbjhopnnaaGreatDoor.Str.cwrite ⟨241, false, false, false, image s⟩ s.cs.length = (241 :: Six.put (Att.wnum false false false) :: Go.Proofs.YtpdlpmbjhopnnaaGreatDoor.Str.obs s.cs.length (image s), 0, -1) := by
  have := obs_image s s.cs.length
  unfold Go.Proofs.YtpdlpmbjhopnnaaGreatDoor.Str.cwrite
  rw [if_neg (show ¬ Go.Proofs.YtpdlpmbjhopnnaaGreatDoor.Str.known 241 = false by decide), if_neg (show ¬ Go.Proofs.YtpdlpmbjhopnnaaGreatDoor.Str.writes 241 = false by decide), if_neg (by rw [image_right h]; simp), if_neg (by simp only; omega)]
  rfl
end Red
end Go.Proofs.YtpdlpmbjhopnnaaGreatDoor
/- Plain: what is modified is a right submission. -/
namespace Go.Proofs.YtpdlpmbjhopnnaaGreatDoor
set_option linter.unusedVariables false
namespace Red
open Grd Fld
open Go.Proofs.YtpdlpmbjhopnnaaGreatDoor.Inp (F I letter fwrong fw iright iwrite ibytes flen flens)
/-- The letters of these cells, in order. -/
def chars (cs : List C) (l : List Nat) : List Nat := (l.map fun j => (cs.getD j noC).c).filter (fun x => x != 0)
def fieldOf (cs : List C) (i : Nat) : F := ⟨((on cs.length (i : Int) 1 : Nat) : Int), chars cs (cellsAt cs (i : Int))⟩
/-- Where modified fields begin. -/
def modBs (cs : List C) : List Nat := (begins cs).filter (fun i => (cs.getD i noC).m)
def lettersAll (cs : List C) : List Nat := (cs.map (fun o => o.c)).filter letter
def alone (cs : List C) : List F := if lettersAll cs = [] then [] else [⟨-1, lettersAll cs⟩]
/-- What is modified. -/
def modified (s : S) (aid : Nat) : I := if Att.bare aid then ⟨aid, 0, []⟩ else ⟨aid, s.cur, if fmt s.cs then (modBs s.cs).map (fieldOf s.cs) else alone s.cs⟩
theorem cell_r {s : S} (h : sright s = true) {i : Nat} (hi : i < s.cs.length) : cright (s.cs.getD i noC) = true := by
  obtain ⟨_, _, _, _, h5⟩ := sright_parts h
  rw [List.getD_eq_getElem?_getD, List.getElem?_eq_getElem hi]
  exact h5 _ (List.getElem_mem hi)
/-- A field's cells begin no field. -/
theorem cellsAt_mem {cs : List C} {b : Nat} (hb : b < cs.length) (hf : fat cs b = true) {x : Nat} (hx : x ∈ cellsAt cs (b : Int)) : x < cs.length ∧ fat cs x = false := by
  unfold cellsAt at hx
  rw [List.mem_map] at hx
  obtain ⟨i, hi, rfl⟩ := hx
  obtain ⟨_, g2, _⟩ := clen_some hb hf
  exact ⟨on_lt (by omega) _ _, g2 i (List.mem_range.1 hi)⟩
theorem chars_letter {s : S} (h : sright s = true) {l : List Nat} (hl : ∀ x ∈ l, x < s.cs.length ∧ fat s.cs x = false) : (chars s.cs l).all letter = true := by
  rw [List.all_eq_true]
  intro x hx
  unfold chars at hx
  rw [List.mem_filter, List.mem_map] at hx
  obtain ⟨⟨j, hj, rfl⟩, h0⟩ := hx
  obtain ⟨g1, g2⟩ := hl j hj
  unfold letter
  rw [h0, (cright_n (cell_r h g1) g2).2]; rfl
theorem modBs_mem {cs : List C} {i : Nat} (h : i ∈ modBs cs) : i < cs.length ∧ fat cs i = true := by
  unfold modBs at h
  rw [List.mem_filter] at h
  exact mem_begins.1 h.1
theorem field_right {s : S} (h : sright s = true) {i : Nat} (hi : i < s.cs.length) (hf : fat s.cs i = true) (al : Bool) : fwrong s.cs.length al (fieldOf s.cs i) = 0 := by
  have hz : 0 < s.cs.length := by omega
  have h1 := on_lt hz (i : Int) 1
  have h2 := chars_letter h (l := cellsAt s.cs (i : Int)) fun x hx => cellsAt_mem hi hf hx
  have ha : ((al && (fieldOf s.cs i).a == -1)) = false := by
    have : ((fieldOf s.cs i).a == -1) = false := by
      simp only [fieldOf, beq_eq_false_iff_ne, ne_eq]; omega
    rw [this]; simp
  unfold fwrong
  rw [ha, if_neg (by simp only [fieldOf]; omega), if_neg (by show ¬ (chars s.cs (cellsAt s.cs (i : Int))).all letter = false; rw [h2]; decide), if_neg (by simp)]
theorem fw_all {z : Nat} {al : Bool} : ∀ (fs : List F) (i : Nat), (∀ f ∈ fs, fwrong z al f = 0) → (fw z al i fs).1 = 0
  | [], _, _ => rfl
  | f :: fs, i, h => by
    unfold fw
    rw [h f (by simp), if_neg (by simp)]
    exact fw_all fs _ fun x hx => h x (by simp [hx])
theorem letters_all (cs : List C) : (lettersAll cs).all letter = true := by
  unfold lettersAll
  rw [List.all_eq_true]
  intro x hx
  exact (List.mem_filter.1 hx).2
theorem alone_right (cs : List C) (z : Nat) : (fw z ((alone cs).length == 1) 0 (alone cs)).1 = 0 := by
  unfold alone
  by_cases h : lettersAll cs = []
  · rw [if_pos h]; rfl
  · rw [if_neg h]
    refine fw_all _ _ fun f hf => ?_
    simp only [List.mem_singleton] at hf
    subst hf
    unfold fwrong
    rw [if_neg (by simp), if_neg (by show ¬ (lettersAll cs).all letter = false; rw [letters_all]; decide), if_neg (by simpa using h)]
/-- What is modified is right. -/
theorem modified_right {s : S} (h : sright s = true) {c : Nat} (ha : Att.aid c = true) : iright (modified s c) s.cs.length = (0, -1) := by
  obtain ⟨_, _, h3, h4, _⟩ := sright_parts h
  unfold modified
  cases hb : Att.bare c with
  | true =>
    rw [if_pos rfl]
    unfold iright
    rw [if_neg (by rw [ha]; decide), if_pos hb, if_neg (by simp)]
  | false =>
    rw [if_neg (by decide)]
    unfold iright
    rw [if_neg (by rw [ha]; decide), if_neg (by rw [hb]; decide), if_neg (by simp only; omega)]
    have : (fw s.cs.length ((if fmt s.cs then (modBs s.cs).map (fieldOf s.cs) else alone s.cs).length == 1) 0 (if fmt s.cs then (modBs s.cs).map (fieldOf s.cs) else alone s.cs)).1 = 0 := by
      cases hf : fmt s.cs with
      | true =>
        rw [if_pos rfl]
        refine fw_all _ _ fun f hf => ?_
        obtain ⟨i, hi, rfl⟩ := List.mem_map.1 hf
        exact field_right h (modBs_mem hi).1 (modBs_mem hi).2 _
      | false => rw [if_neg (by decide)]; exact alone_right s.cs _
    simp only [this]
    rfl
/-! ### Its length -/
theorem cnt_or {p : Nat → Bool} {c : Nat} (hp : p c = false) : ∀ {z : Nat}, c < z → cnt (fun x => p x || x == c) z = cnt p z + 1
  | 0, h => by omega
  | z + 1, h => by
    by_cases hc : c = z
    · subst hc
      unfold cnt
      rw [cnt_congr (p := fun x => p x || x == c) (q := p) (m := c) fun x hx => by
        have : (x == c) = false := by simp; omega
        rw [this, Bool.or_false]]
      simp [hp]
    · have ih := cnt_or hp (z := z) (by omega)
      unfold cnt
      rw [ih]
      have : (z == c) = false := by simp; omega
      rw [this, Bool.or_false]; omega
/-- The cells of fields, and where they begin, in all. -/
def tot (cs : List C) : List Nat → Nat
  | [] => 0
  | b :: l => clen cs (b : Int) + 1 + tot cs l
theorem tot_app (cs : List C) : ∀ (a b : List Nat), tot cs (a ++ b) = tot cs a + tot cs b
  | [], b => by simp [tot]
  | x :: a, b => by simp [tot, tot_app cs a b]; omega
theorem cnt_covk {cs : List C} {i : Nat} (hi : i < (begins cs).length) : ∀ k, k ≤ clen cs (((begins cs).getD i 0 : Nat) : Int) → cnt (covk cs i k) cs.length = cnt (cov cs i) cs.length + 1 + k
  | 0, _ => by
    rw [cnt_congr (q := fun c => cov cs i c || c == (begins cs).getD i 0) fun c _ => covk_start cs i c, cnt_or (cov_new hi) (begins_at hi).1]
  | k + 1, hk => by
    have hz : 0 < cs.length := by have := (begins_at hi).1; omega
    rw [cnt_congr (q := fun c => covk cs i k c || c == on cs.length (((begins cs).getD i 0 : Nat) : Int) ((k : Int) + 1)) fun c _ => covk_step cs i k c, cnt_or (covk_new hi (by omega)) (on_lt hz _ _), cnt_covk hi k (by omega)]
    omega
theorem tot_take {cs : List C} : ∀ i, i ≤ (begins cs).length → tot cs ((begins cs).take i) = cnt (cov cs i) cs.length
  | 0, _ => by
    have : ∀ z, cnt (cov cs 0) z = 0 := fun z => by
      induction z with
      | zero => rfl
      | succ z ih => unfold cnt; rw [ih, cov_zero]; rfl
    rw [this]; rfl
  | i + 1, hi => by
    have h1 := tot_take (cs := cs) i (by omega)
    have h2 := cnt_covk (cs := cs) (i := i) (by omega) _ (Nat.le_refl _)
    rw [cnt_congr (q := cov cs (i + 1)) fun c hc => covk_end (by omega) hc] at h2
    rw [List.take_add_one, tot_app, h1, h2, List.getElem?_eq_getElem (show i < (begins cs).length by omega)]
    have e : (begins cs)[i] = (begins cs).getD i 0 := by rw [List.getD_eq_getElem?_getD, List.getElem?_eq_getElem (show i < (begins cs).length by omega)]; rfl
    simp only [Option.toList_some, tot, e]
    omega
theorem cnt_max (p : Nat → Bool) : ∀ z, cnt p z ≤ z
  | 0 => Nat.le_refl _
  | z + 1 => by
    have := cnt_max p z
    unfold cnt
    split <;> omega
theorem tot_begins (cs : List C) : tot cs (begins cs) ≤ cs.length := by
  have := tot_take (cs := cs) (begins cs).length (Nat.le_refl _)
  rw [List.take_length] at this
  rw [this]; exact cnt_max _ _
theorem tot_filter (cs : List C) (p : Nat → Bool) : ∀ l, tot cs (l.filter p) ≤ tot cs l
  | [] => Nat.le_refl _
  | b :: l => by
    have := tot_filter cs p l
    rw [List.filter_cons]
    split
    · simp only [tot]; omega
    · simp only [tot]; omega
theorem len_tot (cs : List C) : ∀ l : List Nat, l.length ≤ tot cs l
  | [] => Nat.le_refl _
  | b :: l => by have := len_tot cs l; simp only [tot, List.length_cons]; omega
theorem flens_map (cs : List C) : ∀ l : List Nat, flens (l.map (fieldOf cs)) ≤ tot cs l + 2 * l.length
  | [] => Nat.le_refl _
  | b :: l => by
    have ih := flens_map cs l
    have h1 : (fieldOf cs b).t.length ≤ clen cs (b : Int) := by
      show (chars cs (cellsAt cs (b : Int))).length ≤ _
      unfold chars
      refine Nat.le_trans (List.length_filter_le _ _) ?_
      simp [cellsAt]
    have h2 : flen (fieldOf cs b) ≤ (fieldOf cs b).t.length + 3 := by
      unfold flen; split <;> omega
    simp only [List.map_cons, flens, tot, List.length_cons]
    omega
theorem modified_len (s : S) (c : Nat) : (ibytes (modified s c) s.cs.length).length ≤ 3 + 3 * s.cs.length := by
  rw [Go.Proofs.YtpdlpmbjhopnnaaGreatDoor.Inp.ibytes_len]
  split
  · omega
  · unfold modified
    split
    · simp only [flens]; omega
    · have h1 : flens (if fmt s.cs then (modBs s.cs).map (fieldOf s.cs) else alone s.cs) ≤ 3 * s.cs.length := by
        split
        · have g1 := flens_map s.cs (modBs s.cs)
          have g2 : tot s.cs (modBs s.cs) ≤ tot s.cs (begins s.cs) := tot_filter _ _ _
          have g3 := tot_begins s.cs
          have g4 := len_tot s.cs (modBs s.cs)
          omega
        · unfold alone
          split
          · simp only [flens]; omega
          · have : (lettersAll s.cs).length ≤ s.cs.length := by
              unfold lettersAll
              refine Nat.le_trans (List.length_filter_le _ _) ?_
              simp
            simp only [flens, flen]
            rw [if_neg (by decide)]
            omega
      simp only
      omega
/-- Its bytes, and what they are read as. -/
theorem modified_write {s : S} (h : sright s = true) (hl : s.cs.length ≤ 2700) {c : Nat} (ha : Att.aid c = true) : iwrite (modified s c) s.cs.length = (ibytes (modified s c) s.cs.length, 0, -1) := by
  have h1 := modified_right h ha
  have h2 := modified_len s c
  unfold iwrite
  rw [h1, if_neg (by simp), if_neg (by omega)]
theorem modified_read {s : S} (h : sright s = true) (hl : s.cs.length ≤ 2700) {c : Nat} (ha : Att.aid c = true) : Go.Proofs.YtpdlpmbjhopnnaaGreatDoor.Inp.iread (ibytes (modified s c) s.cs.length) s.cs.length = (modified s c, 0, -1) := by
  have h1 := modified_write h hl ha
  have h2 := Go.Proofs.YtpdlpmbjhopnnaaGreatDoor.Inp.iread_write (c := modified s c) (z := s.cs.length) (by omega) (by rw [h1])
  rw [h1] at h2
  exact h2
/-- The image, read. -/
theorem image_read {s : S} (h : sright s = true) (hl : s.cs.length ≤ 4000) : Go.Proofs.YtpdlpmbjhopnnaaGreatDoor.Str.cread (241 :: Six.put (Att.wnum false false false) :: Go.Proofs.YtpdlpmbjhopnnaaGreatDoor.Str.obs s.cs.length (image s)) s.cs.length = (⟨241, false, false, false, image s⟩, 0, -1) := by
  have h1 := image_write h hl
  have h2 := Go.Proofs.YtpdlpmbjhopnnaaGreatDoor.Str.cread_write (c := ⟨241, false, false, false, image s⟩) (z := s.cs.length) (by omega) (by rw [h1])
  rw [h1] at h2
  exact h2
end Red
end Go.Proofs.YtpdlpmbjhopnnaaGreatDoor
/- Plain: what loops over a screen's cells gather, step by step. -/
namespace Go.Proofs.YtpdlpmbjhopnnaaGreatDoor
set_option linter.unusedVariables false
namespace Red
open Grd Fld
open Go.Proofs.YtpdlpmbjhopnnaaGreatDoor.Ord (O)
open Go.Proofs.YtpdlpmbjhopnnaaGreatDoor.Inp (F letter)
theorem drop_cell {cs : List C} {i : Nat} (hi : i < cs.length) : cs.drop i = cs.getD i noC :: cs.drop (i + 1) := by
  rw [List.drop_eq_getElem_cons hi, List.getD_eq_getElem?_getD, List.getElem?_eq_getElem hi]; rfl
theorem drop_end {cs : List C} {i : Nat} (hi : cs.length ≤ i) : cs.drop i = [] := List.drop_eq_nil_of_le hi
/-- A field begins. -/
theorem runs_field {cs : List C} {i : Nat} (hi : i < cs.length) (hf : fat cs i = true) (t : List Nat) : runs t (cs.drop i) = flush t ++ startO (cs.getD i noC) :: runs [] (cs.drop (i + 1)) := by
  rw [drop_cell hi]
  show (if (cs.getD i noC).f then _ else _) = _
  rw [if_pos (show (cs.getD i noC).f = true from hf)]
/-- A character. -/
theorem runs_char {cs : List C} {i : Nat} (hi : i < cs.length) (hf : fat cs i = false) (t : List Nat) : runs t (cs.drop i) = runs (t ++ [(cs.getD i noC).c]) (cs.drop (i + 1)) := by
  rw [drop_cell hi]
  show (if (cs.getD i noC).f then _ else _) = _
  rw [if_neg (by have : (cs.getD i noC).f = false := hf; rw [this]; decide)]
/-- A run's end. -/
theorem runs_end {cs : List C} {i : Nat} (h : i < cs.length → fat cs i = true) (t : List Nat) (ht : t ≠ []) : runs t (cs.drop i) = textO t :: runs [] (cs.drop i) := by
  rcases Nat.lt_or_ge i cs.length with hi | hi
  · rw [runs_field hi (h hi), runs_field hi (h hi), flush_some ht, flush_nil]; rfl
  · rw [drop_end hi]
    show flush t = textO t :: flush []
    rw [flush_some ht, flush_nil]
theorem runs_done {cs : List C} {i : Nat} (hi : cs.length ≤ i) : runs [] (cs.drop i) = [] := by rw [drop_end hi]; rfl
/-- The modified fields among the first i cells. -/
def modsTo (cs : List C) (i : Nat) : List F := ((List.range i).filter (fun j => fat cs j && (cs.getD j noC).m)).map (fieldOf cs)
theorem modsTo_all (cs : List C) : modsTo cs cs.length = (modBs cs).map (fieldOf cs) := by
  unfold modsTo modBs begins
  rw [List.filter_filter]
  congr 1
  exact List.filter_congr fun x _ => Bool.and_comm _ _
theorem modsTo_step (cs : List C) (i : Nat) : modsTo cs (i + 1) = if fat cs i && (cs.getD i noC).m then modsTo cs i ++ [fieldOf cs i] else modsTo cs i := by
  unfold modsTo
  rw [List.range_succ, List.filter_append, List.map_append]
  have e : ∀ p : Nat → Bool, List.filter p [i] = if p i then [i] else [] := fun p => by
    rw [List.filter_cons]; rfl
  rw [e]
  cases (fat cs i && (cs.getD i noC).m) with
  | true => rw [if_pos rfl, if_pos rfl]; rfl
  | false => rw [if_neg (by decide), if_neg (by decide)]; simp
theorem modsTo_len (cs : List C) : ∀ i, (modsTo cs i).length = cnt (fun j => fat cs j && (cs.getD j noC).m) i
  | 0 => rfl
  | i + 1 => by
    rw [modsTo_step, cnt, ← modsTo_len cs i]
    split
    · simp
    · simp
/-- The letters of the first k of these cells. -/
theorem chars_step (cs : List C) (l : List Nat) {k : Nat} (hk : k < l.length) : chars cs (l.take (k + 1)) = if ((cs.getD (l.getD k 0) noC).c != 0) = true then chars cs (l.take k) ++ [(cs.getD (l.getD k 0) noC).c] else chars cs (l.take k) := by
  unfold chars
  rw [List.take_add_one, List.map_append, List.filter_append, List.getElem?_eq_getElem hk]
  have e : l.getD k 0 = l[k] := by rw [List.getD_eq_getElem?_getD, List.getElem?_eq_getElem hk]; rfl
  rw [e]
  simp only [Option.toList_some, List.map_cons, List.map_nil, List.filter_cons, List.filter_nil]
  split
  · rfl
  · simp
theorem letters_step (cs : List C) {k : Nat} (hk : k < cs.length) : lettersAll (cs.take (k + 1)) = if letter (cs.getD k noC).c = true then lettersAll (cs.take k) ++ [(cs.getD k noC).c] else lettersAll (cs.take k) := by
  unfold lettersAll
  rw [List.take_add_one, List.map_append, List.filter_append, List.getElem?_eq_getElem hk]
  have e : cs.getD k noC = cs[k] := by rw [List.getD_eq_getElem?_getD, List.getElem?_eq_getElem hk]; rfl
  rw [e]
  simp only [Option.toList_some, List.map_cons, List.map_nil, List.filter_cons, List.filter_nil]
  split
  · rfl
  · simp
/-- What is modified doesn't hang on whether the screen is locked, or inserts; nor does the image. -/
theorem modified_lk (s : S) (lk ins : Bool) (c : Nat) : modified ⟨s.rows, s.cols, s.cs, s.cur, lk, ins⟩ c = modified s c := rfl
theorem image_lk (s : S) (lk ins : Bool) : image ⟨s.rows, s.cols, s.cs, s.cur, lk, ins⟩ = image s := rfl
/-- As many fields as are modified. -/
theorem modified_count (s : S) (c : Nat) (hb : Att.bare c = false) : (modified s c).fs.length = if fmt s.cs then cnt (fun j => fat s.cs j && (s.cs.getD j noC).m) s.cs.length else (alone s.cs).length := by
  unfold modified
  rw [if_neg (by rw [hb]; decide)]
  simp only
  split
  · rw [← modsTo_all, modsTo_len]
  · rfl
theorem modified_bare (s : S) (c : Nat) (hb : Att.bare c = true) : modified s c = ⟨c, 0, []⟩ := by unfold modified; rw [if_pos hb]
end Red
end Go.Proofs.YtpdlpmbjhopnnaaGreatDoor
/- Plain: what the code of package read gathers, step by step. -/
namespace Go.Proofs.YtpdlpmbjhopnnaaGreatDoor
set_option linter.unusedVariables false
namespace Red
open Grd Fld
open Go.Proofs.YtpdlpmbjhopnnaaGreatDoor.Ord (O)
open Go.Proofs.YtpdlpmbjhopnnaaGreatDoor.Inp (F I letter)
theorem cells_field {cs : List C} {b : Nat} (hb : b < cs.length) (hf : fat cs b = true) : cells cs b = cellsAt cs (b : Int) := by unfold cells; rw [begin_self hb hf]
theorem cells_whole {cs : List C} (hz : 0 < cs.length) (hf : fmt cs = false) : cells cs 0 = List.range cs.length := by
  have hn : ∀ i, i < cs.length → fat cs i = false := fun i hi => by
    cases h : fat cs i with
    | false => rfl
    | true => rw [fmt_iff.2 ⟨i, hi, h⟩] at hf; cases hf
  have hc : clen cs (-1) = cs.length := by
    unfold clen
    rw [firstK_no fun i _ _ => hn _ (on_lt hz _ _)]
  unfold cells
  rw [begin_none hz hf]
  unfold cellsAt
  rw [hc]
  conv => rhs; rw [← List.map_id (List.range cs.length)]
  refine List.map_congr_left fun i hi => ?_
  have := List.mem_range.1 hi
  unfold on
  rw [show (-1 : Int) + ((i : Int) + 1) = (i : Int) by omega, Int.emod_eq_of_lt (by omega) (by omega)]
  rfl
theorem map_range (cs : List C) : ((List.range cs.length).map fun j => (cs.getD j noC).c) = cs.map (fun o => o.c) := by
  refine List.ext_getElem (by simp) fun i h1 h2 => ?_
  simp only [List.length_map, List.length_range] at h1 h2
  simp [List.getD_eq_getElem?_getD, List.getElem?_eq_getElem h2]
/-- Of a right screen without fields all characters but 0 are letters. -/
theorem whole_letters {s : S} (hr : sright s = true) (hf : fmt s.cs = false) : chars s.cs (cells s.cs 0) = lettersAll s.cs := by
  have hz : 0 < s.cs.length := by obtain ⟨h1, _⟩ := sright_parts hr; omega
  rw [cells_whole hz hf]
  unfold chars lettersAll
  rw [map_range]
  refine List.filter_congr fun x hx => ?_
  obtain ⟨o, ho, rfl⟩ := List.mem_map.1 hx
  obtain ⟨i, hi, rfl⟩ := List.getElem_of_mem ho
  have h1 := cell_r hr hi
  have h2 : fat s.cs i = false := by
    cases h : fat s.cs i with
    | false => rfl
    | true => rw [fmt_iff.2 ⟨i, hi, h⟩] at hf; cases hf
  have h3 := (cright_n h1 h2).2
  rw [List.getD_eq_getElem?_getD, List.getElem?_eq_getElem hi] at h3
  unfold letter
  rw [show Att.char (s.cs[i]).c = true from h3, Bool.and_true]
/-- The modified fields among the first k that begin. -/
def modsB (cs : List C) (k : Nat) : List F := (((begins cs).take k).filter (fun i => (cs.getD i noC).m)).map (fieldOf cs)
theorem modsB_all (cs : List C) : modsB cs (begins cs).length = (modBs cs).map (fieldOf cs) := by
  unfold modsB modBs
  rw [List.take_length]
theorem modsB_step {cs : List C} {k : Nat} (hk : k < (begins cs).length) : modsB cs (k + 1) = if (cs.getD ((begins cs).getD k 0) noC).m = true then modsB cs k ++ [fieldOf cs ((begins cs).getD k 0)] else modsB cs k := by
  unfold modsB
  have e : (begins cs).getD k 0 = (begins cs)[k] := by rw [List.getD_eq_getElem?_getD, List.getElem?_eq_getElem hk]; rfl
  rw [List.take_add_one, List.filter_append, List.map_append, List.getElem?_eq_getElem hk, e]
  simp only [Option.toList_some, List.filter_cons, List.filter_nil]
  split
  · rfl
  · simp
theorem modsB_len (cs : List C) (k : Nat) : (modsB cs k).length ≤ k := by
  unfold modsB
  rw [List.length_map]
  refine Nat.le_trans (List.length_filter_le _ _) ?_
  rw [List.length_take]; omega
theorem begins_len (cs : List C) : (begins cs).length ≤ cs.length := by
  unfold begins
  refine Nat.le_trans (List.length_filter_le _ _) ?_
  simp
theorem begins_mem {cs : List C} {k : Nat} (hk : k < (begins cs).length) : (begins cs).getD k 0 < cs.length ∧ fat cs ((begins cs).getD k 0) = true := by
  have e : (begins cs).getD k 0 = (begins cs)[k] := by rw [List.getD_eq_getElem?_getD, List.getElem?_eq_getElem hk]; rfl
  rw [e]
  exact mem_begins.1 (List.getElem_mem hk)
/-! ### The image: the orders so far, and the last of them -/
/-- Where an image stands behind i cells: os and q are the orders so far, whose last one may grow. -/
def Laid (cs : List C) (i : Nat) (os : List O) (q : O) : Prop :=
  (∃ t, t ≠ [] ∧ q = textO t ∧ os ++ runs t (cs.drop i) = setO 0 :: runs [] cs) ∨ (q.k ≠ 1 ∧ q.t = [] ∧ os ++ q :: runs [] (cs.drop i) = setO 0 :: runs [] cs)
theorem laid_zero (cs : List C) : Laid cs 0 [] (setO 0) := .inr ⟨by decide, rfl, rfl⟩
theorem laid_field {cs : List C} {i : Nat} {os : List O} {q : O} (h : Laid cs i os q) (hi : i < cs.length) (hf : fat cs i = true) : Laid cs (i + 1) (os ++ [q]) (startO (cs.getD i noC)) := by
  refine .inr ⟨by simp [startO], rfl, ?_⟩
  rcases h with ⟨t, ht, rfl, h⟩ | ⟨_, _, h⟩
  · rw [← h, runs_field hi hf, flush_some ht]; simp
  · rw [← h, runs_field hi hf, flush_nil]; simp
theorem laid_more {cs : List C} {i : Nat} {os : List O} {q : O} (h : Laid cs i os q) (hi : i < cs.length) (hf : fat cs i = false) (hq : q.k = 1) : ∃ t, q = textO t ∧ Laid cs (i + 1) os (textO (t ++ [(cs.getD i noC).c])) := by
  rcases h with ⟨t, ht, rfl, h⟩ | ⟨h1, _, h⟩
  · exact ⟨t, rfl, .inl ⟨_, by simp, rfl, by rw [← h, runs_char hi hf]⟩⟩
  · exact absurd hq h1
theorem laid_new {cs : List C} {i : Nat} {os : List O} {q : O} (h : Laid cs i os q) (hi : i < cs.length) (hf : fat cs i = false) (hq : q.k ≠ 1) : Laid cs (i + 1) (os ++ [q]) (textO [(cs.getD i noC).c]) := by
  rcases h with ⟨t, ht, rfl, h⟩ | ⟨_, _, h⟩
  · exact absurd rfl hq
  · refine .inl ⟨_, by simp, rfl, ?_⟩
    rw [← h, runs_char hi hf]; simp
theorem laid_end {cs : List C} {os : List O} {q : O} (h : Laid cs cs.length os q) : os ++ [q] = setO 0 :: runs [] cs := by
  rcases h with ⟨t, ht, rfl, h⟩ | ⟨_, _, h⟩
  · rw [← h, runs_end (fun h => absurd h (Nat.lt_irrefl _)) t ht, runs_done (Nat.le_refl _)]
  · rw [← h, runs_done (Nat.le_refl _)]
end Red
end Go.Proofs.YtpdlpmbjhopnnaaGreatDoor
/- Plain: the image, painted on an empty screen, is the screen. -/
namespace Go.Proofs.YtpdlpmbjhopnnaaGreatDoor
set_option linter.unusedVariables false
namespace Red
open Grd Fld Pnt
open Go.Proofs.YtpdlpmbjhopnnaaGreatDoor.Ord (O wrong none_ own same)
theorem set_mid (pre : List C) (j x : C) (junk : List C) : (pre ++ j :: junk).set pre.length x = (pre ++ [x]) ++ junk := by
  rw [List.set_append_right _ _ (Nat.le_refl _), Nat.sub_self, List.set_cons_zero, List.append_assoc]; rfl
/-- Characters painted behind what stands already. -/
theorem ptext_app : ∀ (t : List Nat) (pre junk : List C), t.length ≤ junk.length →
    ptext (pre ++ junk, pre.length % (pre ++ junk).length) t = (pre ++ t.map chr ++ junk.drop t.length, (pre.length + t.length) % (pre ++ junk).length)
  | [], pre, junk, _ => by simp [ptext]
  | x :: t, pre, [], h => by simp at h
  | x :: t, pre, j :: junk, h => by
    have hlt : pre.length % (pre ++ j :: junk).length = pre.length := Nat.mod_eq_of_lt (by simp)
    have hs : put1 (pre ++ j :: junk, pre.length) x = ((pre ++ [chr x]) ++ junk, (pre ++ [chr x]).length % ((pre ++ [chr x]) ++ junk).length) := by
      unfold put1
      simp only
      rw [set_mid]
      have := on_nat (z := (pre ++ j :: junk).length) pre.length 1
      simp only [show ((1 : Nat) : Int) = 1 from rfl] at this
      rw [this]
      simp
    have ih := ptext_app t (pre ++ [chr x]) junk (by simpa using h)
    show ptext (put1 (pre ++ j :: junk, pre.length % (pre ++ j :: junk).length) x) t = _
    rw [hlt, hs, ih]
    simp
    congr 1
    omega
/-- The cells' orders, painted behind what stands already. -/
theorem pall_runs (s0 : S) : ∀ (cs : List C) (t : List Nat) (pre junk : List C), (∀ o ∈ cs, cright o = true) → junk.length = t.length + cs.length →
    pall ({ s0 with cs := pre ++ junk }, pre.length % (pre ++ junk).length) (runs t cs) = ({ s0 with cs := pre ++ t.map chr ++ cs }, (pre.length + t.length + cs.length) % (pre ++ junk).length)
  | [], t, pre, junk, _, hj => by
    have hp := ptext_app t pre junk (by simp at hj; omega)
    have hd : junk.drop t.length = [] := List.drop_eq_nil_of_le (by simp at hj; omega)
    rw [hd] at hp
    unfold runs
    by_cases h : t = []
    · subst h
      have hj0 : junk = [] := List.eq_nil_of_length_eq_zero (by simpa using hj)
      subst hj0
      simp [flush_nil, pall]
    · rw [flush_some h]
      show pone { s0 with cs := pre ++ junk } (pre.length % (pre ++ junk).length) (textO t) = _
      unfold pone
      rw [if_pos (show (textO t).k = 1 from rfl)]
      show (({ s0 with cs := (ptext (pre ++ junk, pre.length % (pre ++ junk).length) t).1 } : S), (ptext (pre ++ junk, pre.length % (pre ++ junk).length) t).2) = _
      rw [hp]
      simp
  | o :: cs, t, pre, junk, hc, hj => by
    have hr := hc o (by simp)
    have hc' : ∀ o ∈ cs, cright o = true := fun x hx => hc x (by simp [hx])
    have hjl : junk.length = t.length + (cs.length + 1) := by simpa using hj
    unfold runs
    cases hf : o.f with
    | false =>
      rw [if_neg (by simp)]
      have ih := pall_runs s0 cs (t ++ [o.c]) pre junk hc' (by simp; omega)
      rw [ih]
      have e := (cright_n hr hf).1
      rw [List.map_append, List.map_cons, List.map_nil, ← e]
      simp
      congr 1
      omega
    | true =>
      rw [if_pos rfl]
      -- behind the text
      have h1 : pall ({ s0 with cs := pre ++ junk }, pre.length % (pre ++ junk).length) (flush t) = ({ s0 with cs := pre ++ t.map chr ++ junk.drop t.length }, (pre.length + t.length) % (pre ++ junk).length) := by
        by_cases h : t = []
        · subst h; simp [flush_nil, pall]
        · rw [flush_some h]
          show pone { s0 with cs := pre ++ junk } (pre.length % (pre ++ junk).length) (textO t) = _
          unfold pone
          rw [if_pos (show (textO t).k = 1 from rfl)]
          show (({ s0 with cs := (ptext (pre ++ junk, pre.length % (pre ++ junk).length) t).1 } : S), (ptext (pre ++ junk, pre.length % (pre ++ junk).length) t).2) = _
          rw [ptext_app t pre junk (by omega)]
      have hz : (pre ++ junk).length = pre.length + t.length + (cs.length + 1) := by simp; omega
      obtain ⟨j, junk', hd⟩ : ∃ j junk', junk.drop t.length = j :: junk' := by
        cases hd : junk.drop t.length with
        | nil => have := congrArg List.length hd; simp at this; omega
        | cons j junk' => exact ⟨j, junk', rfl⟩
      have hjl' : junk'.length = cs.length := by
        have := congrArg List.length hd
        simp at this; omega
      have hlt : (pre.length + t.length) % (pre ++ junk).length = (pre ++ t.map chr).length := by
        rw [hz, Nat.mod_eq_of_lt (by omega)]; simp
      have h2 : pone { s0 with cs := pre ++ t.map chr ++ junk.drop t.length } ((pre ++ t.map chr).length) (startO o) = ({ s0 with cs := (pre ++ t.map chr ++ [o]) ++ junk' }, (pre ++ t.map chr ++ [o]).length % ((pre ++ t.map chr ++ [o]) ++ junk').length) := by
        unfold pone
        rw [if_neg (show ¬ (startO o).k = 1 by simp [startO]), if_pos (show (startO o).k = 2 from rfl), hd]
        have e := (cright_f hr hf).1
        show (({ s0 with cs := (pre ++ t.map chr ++ j :: junk').set (pre ++ t.map chr).length ⟨true, o.p, o.n, o.s, o.m, 0⟩ } : S), on (pre ++ t.map chr ++ j :: junk').length ((pre ++ t.map chr).length : Int) 1) = _
        rw [← e, set_mid]
        have := on_nat (z := (pre ++ t.map chr ++ j :: junk').length) (pre ++ t.map chr).length 1
        simp only [show ((1 : Nat) : Int) = 1 from rfl] at this
        rw [this]
        simp [Nat.add_assoc]
      have ih := pall_runs s0 cs [] (pre ++ t.map chr ++ [o]) junk' hc' (by simpa using hjl')
      have h3 : pall ({ s0 with cs := pre ++ junk }, pre.length % (pre ++ junk).length) (flush t ++ startO o :: runs [] cs) = pall (pone (pall ({ s0 with cs := pre ++ junk }, pre.length % (pre ++ junk).length) (flush t)).1 (pall ({ s0 with cs := pre ++ junk }, pre.length % (pre ++ junk).length) (flush t)).2 (startO o)) (runs [] cs) := by
        simp only [pall, List.foldl_append, List.foldl_cons]
        rfl
      rw [h3, h1]
      show pall (pone { s0 with cs := pre ++ t.map chr ++ junk.drop t.length } ((pre.length + t.length) % (pre ++ junk).length) (startO o)) (runs [] cs) = _
      rw [hlt, h2, ih]
      have hlen : ((pre ++ t.map chr ++ [o]) ++ junk').length = (pre ++ junk).length := by
        rw [hz]; simp; omega
      rw [hlen]
      simp
      congr 1
      omega
/-- The empty screen. -/
def blank (s : S) : S := ⟨s.rows, s.cols, List.replicate s.cs.length noC, 0, false, false⟩
/-- Where a painted screen's cursor is. -/
theorem pall_image {s : S} (h : sright s = true) (lk ins : Bool) : pall (⟨s.rows, s.cols, List.replicate s.cs.length noC, 0, lk, ins⟩, 0) (image s) = (⟨s.rows, s.cols, s.cs, s.cur, lk, ins⟩, s.cur.toNat) := by
  obtain ⟨_, _, h3, h4, h5⟩ := sright_parts h
  have hz : 0 < s.cs.length := by omega
  have h1 := pall_runs ⟨s.rows, s.cols, [], 0, lk, ins⟩ s.cs [] [] (List.replicate s.cs.length noC) h5 (by simp)
  simp only [List.nil_append, List.length_nil, Nat.zero_mod, List.map_nil, Nat.zero_add, List.length_replicate, Nat.mod_self] at h1
  have h2 : pall (⟨s.rows, s.cols, List.replicate s.cs.length noC, 0, lk, ins⟩, 0) (image s) = pall (pall (⟨s.rows, s.cols, List.replicate s.cs.length noC, 0, lk, ins⟩, 0) (runs [] s.cs)) ((if 0 < s.cur then [setO s.cur] else []) ++ [curO]) := by
    unfold image
    simp only [pall, List.foldl_cons, List.foldl_append]
    rfl
  rw [h2, h1]
  by_cases hc : 0 < s.cur
  · rw [if_pos hc]
    show (({ (⟨s.rows, s.cols, s.cs, 0, lk, ins⟩ : S) with cur := (s.cur.toNat : Nat) } : S), s.cur.toNat) = _
    rw [show ((s.cur.toNat : Nat) : Int) = s.cur by omega]
  · rw [if_neg hc]
    have : s.cur = 0 := by omega
    rw [this]
    rfl
end Red
end Go.Proofs.YtpdlpmbjhopnnaaGreatDoor
