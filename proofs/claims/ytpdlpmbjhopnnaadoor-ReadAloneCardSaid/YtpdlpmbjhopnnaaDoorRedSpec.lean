/- Plain: what a screen tells: its image, and what is modified on it. -/
import Derived.Test.YtpdlpmbjhopnnaaDoorBunFld
import Derived.Test.YtpdlpmbjhopnnaaDoorBunFld
import Derived.Test.YtpdlpmbjhopnnaaDoorBunPnt
import Derived.Test.YtpdlpmbjhopnnaaDoorInpSpec
import Derived.Test.YtpdlpmbjhopnnaaDoorBunPlain
namespace Go.Proofs.YtpdlpmbjhopnnaaDoor
set_option linter.unusedVariables false
namespace Red
open Grd Fld Pnt
open Go.Proofs.YtpdlpmbjhopnnaaDoor.Ord (O wrong none_ own same)
open Go.Proofs.YtpdlpmbjhopnnaaDoor.Inp (F I letter)
/-- The orders of an image. -/
def textO (t : List Nat) : O := ⟨1, t, false, false, 0, false, 0, 0⟩
def startO (o : C) : O := ⟨2, [], o.p, o.n, o.s, o.m, 0, 0⟩
def setO (a : Int) : O := ⟨3, [], false, false, 0, false, a, 0⟩
def curO : O := ⟨4, [], false, false, 0, false, 0, 0⟩
def flush (t : List Nat) : List O := if t = [] then [] else [textO t]
/-- The cells' orders; t: the characters that stand side by side so far. -/
def runs : List Nat → List C → List O
  | t, [] => flush t
  | t, o :: cs => if o.f then flush t ++ startO o :: runs [] cs else runs (t ++ [o.c]) cs
/-- The image. -/
def image (s : S) : List O := setO 0 :: (runs [] s.cs ++ ((if 0 < s.cur then [setO s.cur] else []) ++ [curO]))
theorem flush_nil : flush [] = [] := rfl
theorem flush_some {t : List Nat} (h : t ≠ []) : flush t = [textO t] := if_neg h
theorem cright_f {o : C} (h : cright o = true) (hf : o.f = true) : o = ⟨true, o.p, o.n, o.s, o.m, 0⟩ ∧ 0 ≤ o.s ∧ o.s ≤ 3 := by
  obtain ⟨f, p, n, s, m, c⟩ := o
  simp only at hf
  subst hf
  simp [cright] at h
  obtain ⟨rfl, h1, h2⟩ := h
  exact ⟨rfl, h1, h2⟩
theorem cright_n {o : C} (h : cright o = true) (hf : o.f = false) : o = chr o.c ∧ Att.char o.c = true := by
  obtain ⟨f, p, n, s, m, c⟩ := o
  simp only at hf
  subst hf
  simp [cright] at h
  obtain ⟨⟨rfl, rfl, rfl, rfl⟩, h1⟩ := h
  exact ⟨rfl, h1⟩
/-! ### The image's orders are right -/
theorem wrong_text {t : List Nat} (h : t ≠ []) (hc : t.all Att.char = true) (z : Nat) : wrong (textO t) z = 0 := by
  simp [wrong, textO, own, same, h, hc]
theorem wrong_start {o : C} (h1 : 0 ≤ o.s) (h2 : o.s ≤ 3) (z : Nat) : wrong (startO o) z = 0 := by
  simp [wrong, startO, own, same]; omega
theorem wrong_set {a : Int} {z : Nat} (h1 : 0 ≤ a) (h2 : a < (z : Int)) : wrong (setO a) z = 0 := by
  simp [wrong, setO, own, same]; omega
theorem wrong_cur (z : Nat) : wrong curO z = 0 := by
  simp [wrong, curO, own, same]
/-- Nothing is wrong with the cells' orders, nor with what stands behind them. -/
theorem ow_runs (z : Nat) (os : List O) (ho : ∀ p i, (Go.Proofs.YtpdlpmbjhopnnaaDoor.Str.ow z p i os).1 = 0) : ∀ (cs : List C) (t : List Nat) (i : Nat), (∀ o ∈ cs, cright o = true) → t.all Att.char = true →
    (Go.Proofs.YtpdlpmbjhopnnaaDoor.Str.ow z false i (runs t cs ++ os)).1 = 0
  | [], t, i, _, ht => by
    unfold runs
    by_cases h : t = []
    · rw [h, flush_nil]; exact ho _ _
    · rw [flush_some h]
      show (Go.Proofs.YtpdlpmbjhopnnaaDoor.Str.ow z false i (textO t :: os)).1 = 0
      unfold Go.Proofs.YtpdlpmbjhopnnaaDoor.Str.ow
      rw [wrong_text h ht, if_neg (by simp), if_neg (by simp)]
      exact ho _ _
  | o :: cs, t, i, hc, ht => by
    have hr := hc o (by simp)
    have hc' : ∀ o ∈ cs, cright o = true := fun x hx => hc x (by simp [hx])
    unfold runs
    cases hf : o.f with
    | true =>
      obtain ⟨_, g1, g2⟩ := cright_f hr hf
      rw [if_pos rfl]
      have key : ∀ p j, (Go.Proofs.YtpdlpmbjhopnnaaDoor.Str.ow z p j (startO o :: (runs [] cs ++ os))).1 = 0 := fun p j => by
        unfold Go.Proofs.YtpdlpmbjhopnnaaDoor.Str.ow
        rw [wrong_start g1 g2, if_neg (by simp), if_neg (by simp [startO])]
        exact ow_runs z os ho cs [] _ hc' rfl
      by_cases h : t = []
      · rw [h, flush_nil]; exact key _ _
      · rw [flush_some h]
        show (Go.Proofs.YtpdlpmbjhopnnaaDoor.Str.ow z false i (textO t :: (startO o :: (runs [] cs ++ os)))).1 = 0
        unfold Go.Proofs.YtpdlpmbjhopnnaaDoor.Str.ow
        rw [wrong_text h ht, if_neg (by simp), if_neg (by simp)]
        exact key _ _
    | false =>
      rw [if_neg (by simp)]
      refine ow_runs z os ho cs (t ++ [o.c]) i hc' ?_
      rw [List.all_append, ht]
      simp [(cright_n hr hf).2]
theorem ow_tail {z : Nat} {c : Int} (h0 : 0 ≤ c) (h1 : c < (z : Int)) (p : Bool) (i : Nat) : (Go.Proofs.YtpdlpmbjhopnnaaDoor.Str.ow z p i ((if 0 < c then [setO c] else []) ++ [curO])).1 = 0 := by
  have e : ∀ p i, (Go.Proofs.YtpdlpmbjhopnnaaDoor.Str.ow z p i [curO]).1 = 0 := fun p i => by
    unfold Go.Proofs.YtpdlpmbjhopnnaaDoor.Str.ow
    rw [wrong_cur, if_neg (by simp), if_neg (by simp [curO])]
    rfl
  split
  · show (Go.Proofs.YtpdlpmbjhopnnaaDoor.Str.ow z p i (setO c :: [curO])).1 = 0
    unfold Go.Proofs.YtpdlpmbjhopnnaaDoor.Str.ow
    rw [wrong_set h0 h1, if_neg (by simp), if_neg (by simp [setO])]
    exact e _ _
  · exact e _ _
theorem image_right {s : S} (h : sright s = true) : (Go.Proofs.YtpdlpmbjhopnnaaDoor.Str.ow s.cs.length false 0 (image s)).1 = 0 := by
  obtain ⟨_, _, h3, h4, h5⟩ := sright_parts h
  unfold image Go.Proofs.YtpdlpmbjhopnnaaDoor.Str.ow
  rw [wrong_set (Int.le_refl 0) (by omega), if_neg (by simp), if_neg (by simp [setO])]
  exact ow_runs _ _ (fun p i => ow_tail h3 h4 p i) s.cs [] _ h5 rfl
/-! ### The image's length -/
theorem obs_app (z : Nat) : ∀ (a b : List O), (Go.Proofs.YtpdlpmbjhopnnaaDoor.Str.obs z (a ++ b)).length = (Go.Proofs.YtpdlpmbjhopnnaaDoor.Str.obs z a).length + (Go.Proofs.YtpdlpmbjhopnnaaDoor.Str.obs z b).length
  | [], b => by simp [Go.Proofs.YtpdlpmbjhopnnaaDoor.Str.obs]
  | o :: a, b => by
    show (Go.Proofs.YtpdlpmbjhopnnaaDoor.Ord.obytes o z ++ Go.Proofs.YtpdlpmbjhopnnaaDoor.Str.obs z (a ++ b)).length = (Go.Proofs.YtpdlpmbjhopnnaaDoor.Ord.obytes o z ++ Go.Proofs.YtpdlpmbjhopnnaaDoor.Str.obs z a).length + _
    rw [List.length_append, List.length_append, obs_app z a b]; omega
theorem obs_flush (z : Nat) (t : List Nat) : (Go.Proofs.YtpdlpmbjhopnnaaDoor.Str.obs z (flush t)).length = t.length := by
  unfold flush
  split
  · rename_i h; rw [h]; rfl
  · simp [Go.Proofs.YtpdlpmbjhopnnaaDoor.Str.obs, Go.Proofs.YtpdlpmbjhopnnaaDoor.Ord.obytes, textO]
theorem obs_runs (z : Nat) : ∀ (cs : List C) (t : List Nat), (Go.Proofs.YtpdlpmbjhopnnaaDoor.Str.obs z (runs t cs)).length ≤ t.length + 2 * cs.length
  | [], t => by unfold runs; rw [obs_flush]; simp
  | o :: cs, t => by
    unfold runs
    split
    · rw [obs_app, obs_flush]
      show t.length + (Go.Proofs.YtpdlpmbjhopnnaaDoor.Ord.obytes (startO o) z ++ Go.Proofs.YtpdlpmbjhopnnaaDoor.Str.obs z (runs [] cs)).length ≤ _
      have := obs_runs z cs []
      rw [List.length_append, show (Go.Proofs.YtpdlpmbjhopnnaaDoor.Ord.obytes (startO o) z).length = 2 by simp [Go.Proofs.YtpdlpmbjhopnnaaDoor.Ord.obytes, startO]]
      simp only [List.length_cons, List.length_nil] at *
      omega
    · have := obs_runs z cs (t ++ [o.c])
      simp only [List.length_append, List.length_cons, List.length_nil] at *
      omega
theorem obs_image (s : S) (z : Nat) : (Go.Proofs.YtpdlpmbjhopnnaaDoor.Str.obs z (image s)).length ≤ 2 * s.cs.length + 7 := by
  unfold image
  show (Go.Proofs.YtpdlpmbjhopnnaaDoor.Ord.obytes (setO 0) z ++ Go.Proofs.YtpdlpmbjhopnnaaDoor.Str.obs z _).length ≤ _
  rw [List.length_append, obs_app, obs_app]
  have h1 := obs_runs z s.cs []
  have h2 : (Go.Proofs.YtpdlpmbjhopnnaaDoor.Ord.obytes (setO 0) z).length = 3 := by simp [Go.Proofs.YtpdlpmbjhopnnaaDoor.Ord.obytes, setO]
  have h3 : (Go.Proofs.YtpdlpmbjhopnnaaDoor.Str.obs z (if 0 < s.cur then [setO s.cur] else [])).length ≤ 3 := by
    split
    · simp [Go.Proofs.YtpdlpmbjhopnnaaDoor.Str.obs, Go.Proofs.YtpdlpmbjhopnnaaDoor.Ord.obytes, setO]
    · simp [Go.Proofs.YtpdlpmbjhopnnaaDoor.Str.obs]
  have h4 : (Go.Proofs.YtpdlpmbjhopnnaaDoor.Str.obs z [curO]).length = 1 := by simp [Go.Proofs.YtpdlpmbjhopnnaaDoor.Str.obs, Go.Proofs.YtpdlpmbjhopnnaaDoor.Ord.obytes, curO]
  simp only [List.length_nil] at h1
  omega
/-- The image as a write's bytes. -/
theorem image_write {s : S} (h : sright s = true) (hl : s.cs.length ≤ 4000) : Go.Proofs.YtpdlpmbjhopnnaaDoor.Str.cwrite ⟨241, false, false, false, image s⟩ s.cs.length = (241 :: Six.put (Att.wnum false false false) :: Go.Proofs.YtpdlpmbjhopnnaaDoor.Str.obs s.cs.length (image s), 0, -1) := by
  have := obs_image s s.cs.length
  unfold Go.Proofs.YtpdlpmbjhopnnaaDoor.Str.cwrite
  rw [if_neg (show ¬ Go.Proofs.YtpdlpmbjhopnnaaDoor.Str.known 241 = false by decide), if_neg (show ¬ Go.Proofs.YtpdlpmbjhopnnaaDoor.Str.writes 241 = false by decide), if_neg (by rw [image_right h]; simp), if_neg (by simp only; omega)]
  rfl
end Red
end Go.Proofs.YtpdlpmbjhopnnaaDoor
