/- GrdSpec, GrdMem, GrdSetm, GrdBox, GrdOn, GrdEq, GrdRow, GrdRnext, GrdFew, GrdRsm, GrdFits, GrdCopy, GrdSpan, GrdNew in one text (by tools/bundle.py). -/
import Derived.Test.YtpdlpmbjhopnnaaGreatDoorBunPlain
import Derived.Test.YtpdlpmbjhopnnaaGreatDoorBunBase
import Derived.Laws.AppendOwnNone
import Derived.Laws.ResultCell
import Derived.Deep.QuietTactic
import Derived.BigQuiet
import Derived.IntWalk
import Derived.Laws.OwnMore
import Derived.OwnWalk
import Derived.Deep.LoopGhost
import Derived.Test.YtpdlpmbjhopnnaaGreatDoorBunRlp
import Derived.Deep.Cut
import Derived.Deep.RegionHeld3
/- Plain: cells, screens, and places on them around their ends. -/
namespace Go.Proofs.YtpdlpmbjhopnnaaGreatDoor
namespace Grd
/-- A cell: whether a field begins, the attribute, the character. -/
structure C where
  f : Bool
  p : Bool
  n : Bool
  s : Int
  m : Bool
  c : Nat
deriving DecidableEq
def noC : C := ⟨false, false, false, 0, false, 0⟩
/-- A cell is right. -/
def cright (o : C) : Bool := if o.f then o.c == 0 && (decide (0 ≤ o.s) && decide (o.s ≤ 3)) else (o.p == false && (o.n == false && (o.s == 0 && o.m == false))) && Att.char o.c
/-- A screen. -/
structure S where
  rows : Int
  cols : Int
  cs : List C
  cur : Int
  lk : Bool
  ins : Bool
deriving DecidableEq
def noS : S := ⟨0, 0, [], 0, false, false⟩
def sized (r c : Int) : Bool := decide (1 ≤ r) && (decide (1 ≤ c) && decide (r * c ≤ 16383))
def sright (s : S) : Bool := sized s.rows s.cols && (decide ((s.cs.length : Int) = s.rows * s.cols) && (decide (0 ≤ s.cur) && (decide (s.cur < (s.cs.length : Int)) && s.cs.all cright)))
def few (s : S) : Bool := decide (s.cs.length ≤ 200) && sright s
/-- The n-th cell behind a, of z. -/
def on (z : Nat) (a n : Int) : Nat := ((a + n) % (z : Int)).toNat
/-- How many cells there are from a on, up to b. -/
def spanLen (z : Nat) (a b : Int) : Nat := if on z b (-a) = 0 then z else on z b (-a)
def span (z : Nat) (a b : Int) : List Nat := (List.range (spanLen z a b)).map fun (i : Nat) => on z a (i : Int)
/-- The cells that are right, one behind the other, are sized. -/
theorem sized_le {r c : Int} (h : sized r c = true) : 1 ≤ r ∧ 1 ≤ c ∧ r * c ≤ 16383 ∧ r ≤ 16383 ∧ c ≤ 16383 := by
  simp only [sized, Bool.and_eq_true, decide_eq_true_eq] at h
  obtain ⟨h1, h2, h3⟩ := h
  refine ⟨h1, h2, h3, ?_, ?_⟩
  · have : r * 1 ≤ r * c := Int.mul_le_mul_of_nonneg_left h2 (by omega)
    omega
  · have : 1 * c ≤ r * c := Int.mul_le_mul_of_nonneg_right h1 (by omega)
    omega
theorem sright_parts {s : S} (h : sright s = true) : sized s.rows s.cols = true ∧ (s.cs.length : Int) = s.rows * s.cols ∧ 0 ≤ s.cur ∧ s.cur < (s.cs.length : Int) ∧ ∀ o ∈ s.cs, cright o = true := by
  simp only [sright, Bool.and_eq_true, decide_eq_true_eq, List.all_eq_true] at h
  exact ⟨h.1, h.2.1, h.2.2.1, h.2.2.2.1, h.2.2.2.2⟩
theorem few_parts {s : S} (h : few s = true) : s.cs.length ≤ 200 ∧ 1 ≤ s.cs.length ∧ sright s = true := by
  simp only [few, Bool.and_eq_true, decide_eq_true_eq] at h
  obtain ⟨h1, h2⟩ := h
  obtain ⟨_, _, h3, h4, _⟩ := sright_parts h2
  exact ⟨h1, by omega, h2⟩
theorem on_lt {z : Nat} (hz : 0 < z) (a n : Int) : on z a n < z := by
  have h1 := Int.emod_nonneg (a + n) (b := (z : Int)) (by omega)
  have h2 := Int.emod_lt_of_pos (a + n) (b := (z : Int)) (by omega)
  unfold on; omega
theorem on_cast {z : Nat} (hz : 0 < z) (a n : Int) : ((on z a n : Nat) : Int) = (a + n) % (z : Int) := by
  have h1 := Int.emod_nonneg (a + n) (b := (z : Int)) (by omega)
  unfold on; omega
theorem on_on {z : Nat} (hz : 0 < z) (a n m : Int) : on z ((on z a n : Nat) : Int) m = on z a (n + m) := by
  unfold on
  rw [show ((((a + n) % (z : Int)).toNat : Nat) : Int) = (a + n) % (z : Int) from on_cast hz a n, Int.emod_add_emod, Int.add_assoc]
theorem on_zero {z a : Nat} (ha : a < z) : on z (a : Int) 0 = a := by
  unfold on
  rw [Int.add_zero, Int.emod_eq_of_lt (by omega) (by omega)]; omega
theorem on_all {z a : Nat} (ha : a < z) : on z (a : Int) (z : Int) = a := by
  unfold on
  rw [Int.add_emod_right, Int.emod_eq_of_lt (by omega) (by omega)]; omega
theorem on_nat {z : Nat} (a i : Nat) : on z (a : Int) (i : Int) = (a + i) % z := by
  unfold on
  rw [show ((a : Int) + (i : Int)) % (z : Int) = (((a + i) % z : Nat) : Int) by simp]; omega
theorem on_back {z a : Nat} (ha : a < z) (k : Int) : on z ((on z a k : Nat) : Int) (-k) = a := by
  rw [on_on (by omega), show k + -k = 0 by omega, on_zero ha]
theorem tmod_emod (z : Nat) (x : Int) : x.tmod z % z = x % z := by
  rw [Int.tmod_def, show x - z * x.tdiv z = x + z * (-(x.tdiv z)) by rw [Int.mul_neg]; omega, Int.add_mul_emod_self_left]
/-- The numbers' own way to a cell (Go's %). -/
theorem on_go {z : Nat} (hz : 0 < z) (a n : Int) : (a.tmod z + n.tmod z + 2 * z).tmod z = ((on z a n : Nat) : Int) := by
  have h1 : -(z : Int) < a.tmod z := by
    have := Int.lt_tmod_of_pos a (b := (z : Int)) (by omega); omega
  have h2 : -(z : Int) < n.tmod z := by
    have := Int.lt_tmod_of_pos n (b := (z : Int)) (by omega); omega
  rw [on_cast hz, Int.tmod_eq_emod_of_nonneg (by omega)]
  have e : ∀ x : Int, x.tmod z % z = x % z := fun x => tmod_emod z x
  rw [show (2 : Int) * z = z + z by omega, ← Int.add_assoc, Int.add_emod_right, Int.add_emod_right, Int.add_emod, e, e, ← Int.add_emod]
/-- Bounds of what stands in between. -/
theorem on_room {z : Nat} (hz : 0 < z) (hz2 : z < 1000000000) (a n : Int) : -1000000000 < a.tmod z ∧ a.tmod z < 1000000000 ∧ -1000000000 < n.tmod z ∧ n.tmod z < 1000000000 ∧ 0 < a.tmod z + n.tmod z + 2 * z := by
  have h1 := Int.lt_tmod_of_pos a (b := (z : Int)) (by omega)
  have h2 := Int.lt_tmod_of_pos n (b := (z : Int)) (by omega)
  have h3 := Int.tmod_lt_of_pos a (b := (z : Int)) (by omega)
  have h4 := Int.tmod_lt_of_pos n (b := (z : Int)) (by omega)
  omega
theorem spanLen_pos {z : Nat} (hz : 0 < z) (a b : Int) : 0 < spanLen z a b ∧ spanLen z a b ≤ z := by
  unfold spanLen
  have := on_lt hz b (-a)
  split <;> omega
theorem span_length (z : Nat) (a b : Int) : (span z a b).length = spanLen z a b := by simp [span]
theorem span_getD {z : Nat} {a b : Int} {i : Nat} (hi : i < spanLen z a b) : (span z a b).getD i 0 = on z a (i : Int) := by
  simp [span, List.getD_eq_getElem?_getD, hi]
/-- A span has each cell once at most. -/
theorem on_inj {z a i j : Nat} (hi : i < z) (hj : j < z) (h : on z (a : Int) (i : Int) = on z (a : Int) (j : Int)) : i = j := by
  rw [on_nat, on_nat] at h
  have h1 : on z ((((a + i) % z : Nat)) : Int) (-(a : Int)) = on z ((((a + j) % z : Nat)) : Int) (-(a : Int)) := by rw [h]
  have e : ∀ k, k < z → on z ((((a + k) % z : Nat)) : Int) (-(a : Int)) = k := fun k hk => by
    rw [← on_nat, on_on (by omega)]
    unfold on
    rw [show (a : Int) + ((k : Int) + -(a : Int)) = k by omega, Int.emod_eq_of_lt (by omega) (by omega)]; omega
  rw [e i hi, e j hj] at h1
  exact h1
/-- Where a span ends. -/
theorem span_end {z a b k : Nat} (ha : a < z) (hb : b < z) (h0 : 1 ≤ k) (hk : k ≤ spanLen z a b) : (on z (a : Int) (k : Int) = b ∨ on z (a : Int) (k : Int) = a) ↔ k = spanLen z a b := by
  have hz : 0 < z := by omega
  have hl : on z (b : Int) (-(a : Int)) = if a ≤ b then b - a else z + b - a := by
    unfold on
    split
    · rw [Int.emod_eq_of_lt (by omega) (by omega)]; omega
    · rw [← Int.add_emod_right, Int.emod_eq_of_lt (by omega) (by omega)]; omega
  have hs : spanLen z a b = if a < b then b - a else z + b - a := by
    unfold spanLen; rw [hl]
    by_cases h1 : a < b
    · simp only [h1, if_true]; split <;> simp_all <;> omega
    · by_cases h2 : a = b
      · subst h2; simp
      · rw [if_neg (show ¬ a ≤ b by omega), if_neg (by omega), if_neg h1]
  have he : on z (a : Int) (k : Int) = if a + k < z then a + k else a + k - z := by
    rw [on_nat]
    have hkz : k ≤ z := Nat.le_trans hk (spanLen_pos hz _ _).2
    split
    · exact Nat.mod_eq_of_lt (by assumption)
    · by_cases h2 : a + k - z < z
      · rw [Nat.mod_eq_sub_mod (by omega), Nat.mod_eq_of_lt h2]
      · omega
  rw [he]
  rw [hs] at hk ⊢
  split <;> split <;> (try split at hk) <;> omega
end Grd
end Go.Proofs.YtpdlpmbjhopnnaaGreatDoor
/- Cells of a screen in memory: each is six cells. -/
namespace Go.Proofs.YtpdlpmbjhopnnaaGreatDoor
open Go.RowKit Sha Six Apd Cut
namespace Grd
def ccells (o : C) : List Value := [.bool o.f, .bool o.p, .bool o.n, .int .i64 o.s, .bool o.m, .int .u8 (o.c : Int)]
def crow : List C → List Value
  | [] => []
  | o :: cs => ccells o ++ crow cs
theorem crow_len : ∀ cs : List C, (crow cs).length = cs.length * 6
  | [] => rfl
  | o :: cs => by simp only [crow, List.length_append, crow_len cs, List.length_cons]; show 6 + _ = _; omega
theorem crow_at : ∀ (cs : List C) (i j : Nat), i < cs.length → j < 6 → (crow cs)[i * 6 + j]? = (ccells (cs.getD i noC))[j]?
  | o :: cs, 0, j, _, hj => by
    rw [crow, List.getElem?_append_left (by simpa [ccells] using hj)]; simp
  | o :: cs, i + 1, j, hi, hj => by
    rw [crow, List.getElem?_append_right (by simp [ccells]; omega), show (i + 1) * 6 + j - (ccells o).length = i * 6 + j by simp [ccells]; omega, crow_at cs i j (by simpa using hi) hj]
    rfl
theorem crow_one : ∀ (cs : List C), ∀ u ∈ crow cs, u.oneCell' = true
  | [], u, h => by cases h
  | o :: cs, u, h => by
    rw [crow, List.mem_append] at h
    rcases h with h | h
    · simp only [ccells, List.mem_cons, List.not_mem_nil, or_false] at h
      rcases h with rfl | rfl | rfl | rfl | rfl | rfl <;> rfl
    · exact crow_one cs u h
theorem crow_append : ∀ (xs ys : List C), crow (xs ++ ys) = crow xs ++ crow ys
  | [], _ => rfl
  | y :: xs, ys => by rw [List.cons_append, crow, crow_append xs ys, crow, List.append_assoc]
theorem set6 (o : C) (l : List Value) (k : Nat) (v : Value) : (ccells o ++ l).set (k + 6) v = ccells o ++ l.set k v := rfl
/-- A cell that is stored, cell by cell. -/
theorem crow_set : ∀ (cs : List C) (i : Nat) (o : C), i < cs.length → crow (cs.set i o) = ((((((crow cs).set (i * 6) (.bool o.f)).set (i * 6 + 1) (.bool o.p)).set (i * 6 + 2) (.bool o.n)).set (i * 6 + 3) (.int .i64 o.s)).set (i * 6 + 4) (.bool o.m)).set (i * 6 + 5) (.int .u8 (o.c : Int))
  | x :: cs, 0, o, _ => rfl
  | x :: cs, i + 1, o, hi => by
    have ih := crow_set cs i o (by simpa using hi)
    rw [List.set_cons_succ, crow, ih, crow]
    rw [show (i + 1) * 6 = i * 6 + 6 by omega]
    rw [show i * 6 + 6 + 1 = i * 6 + 1 + 6 by omega, show i * 6 + 6 + 2 = i * 6 + 2 + 6 by omega, show i * 6 + 6 + 3 = i * 6 + 3 + 6 by omega, show i * 6 + 6 + 4 = i * 6 + 4 + 6 by omega, show i * 6 + 6 + 5 = i * 6 + 5 + 6 by omega]
    simp only [set6]
theorem crow_char : ∀ (cs : List C) (i c : Nat), i < cs.length → crow (cs.set i { cs.getD i noC with c := c }) = (crow cs).set (i * 6 + 5) (.int .u8 (c : Int))
  | x :: cs, 0, c, _ => rfl
  | x :: cs, i + 1, c, hi => by
    have ih := crow_char cs i c (by simpa using hi)
    rw [List.set_cons_succ, crow, show (x :: cs).getD (i + 1) noC = cs.getD i noC from rfl, ih, crow, show (i + 1) * 6 + 5 = i * 6 + 5 + 6 by omega, set6]
/-- v is a slice of the cells cs. -/
def CelsIn (w : World) (v : Value) (cs : List C) : Prop :=
  ∃ ad cap, v = .slice ad cs.length cap ∧ cs.length ≤ cap ∧ (ad = none → cs.length = 0 ∧ cap = 0) ∧
    (cs = [] ∨ ∃ b off, ad = some ⟨b, off, none⟩ ∧ ∀ i, i < cs.length → ∀ j u, (ccells (cs.getD i noC))[j]? = some u → w.cell? ⟨b, off + i * 6 + j, none⟩ = some u)
theorem cell_lt {w : World} {b o : Nat} {v : Value} (h : w.cell? ⟨b, o, none⟩ = some v) : b < w.heap.size := by
  rcases Nat.lt_or_ge b w.heap.size with h0 | h0
  · exact h0
  · simp [World.cell?, Array.getElem?_eq_none h0] at h
theorem CelsIn.below {w w' : World} {v : Value} {cs : List C} (h : CelsIn w v cs) (hb : Below w.heap.size w w') : CelsIn w' v cs := by
  obtain ⟨ad, cap, rfl, hcap, hn, hc⟩ := h
  refine ⟨ad, cap, rfl, hcap, hn, ?_⟩
  rcases hc with h0 | ⟨b, off, h1, h2⟩
  · exact .inl h0
  · exact .inr ⟨b, off, h1, fun i hi j u hu => (hb.cell (p := ⟨b, _, none⟩) (cell_lt (h2 i hi j u hu))).trans (h2 i hi j u hu)⟩
theorem CelsIn.form {w : World} {v : Value} {cs : List C} (h : CelsIn w v cs) : ∃ ad cap, v = .slice ad cs.length cap ∧ cs.length ≤ cap ∧ (ad = none → cs.length = 0 ∧ cap = 0) := by
  obtain ⟨ad, cap, rfl, hcap, hn, _⟩ := h
  exact ⟨ad, cap, rfl, hcap, hn⟩
theorem CelsIn.len {w : World} {n c : Nat} {ad : Option Addr} {cs : List C} (h : CelsIn w (.slice ad n c) cs) : n = cs.length := by
  obtain ⟨_, _, e, _⟩ := h.form
  injection e
/-- Cell i, cell by cell, as the walk spells it. -/
theorem CelsIn.cells {w : World} {n c : Nat} {ad : Option Addr} {cs : List C} (h : CelsIn w (.slice ad n c) cs) {i : Nat} (hi : i < cs.length) {f p m' n' : Bool} {s : Int} {ch : Nat} (ho : cs.getD i noC = ⟨f, p, n', s, m', ch⟩) :
    ∃ b off, ad = some ⟨b, off, none⟩ ∧ w.cell? ⟨b, off + i * 6, none⟩ = some (.bool f) ∧ w.cell? ⟨b, off + i * 6 + 1, none⟩ = some (.bool p) ∧ w.cell? ⟨b, off + i * 6 + 2, none⟩ = some (.bool n') ∧ w.cell? ⟨b, off + i * 6 + 3, none⟩ = some (.int .i64 s) ∧ w.cell? ⟨b, off + i * 6 + 4, none⟩ = some (.bool m') ∧ w.cell? ⟨b, off + i * 6 + 5, none⟩ = some (.int .u8 (ch : Int)) := by
  obtain ⟨ad2, cap2, e, _, _, hc⟩ := h
  injection e with e1 e2 e3
  subst e1 e2 e3
  rcases hc with h0 | ⟨b, off, h1, h2⟩
  · rw [h0] at hi; cases hi
  · have h3 := h2 i hi
    rw [ho] at h3
    exact ⟨b, off, h1, h3 0 _ rfl, h3 1 _ rfl, h3 2 _ rfl, h3 3 _ rfl, h3 4 _ rfl, h3 5 _ rfl⟩
theorem c_eta (o : C) : ∃ f p n s m c, o = ⟨f, p, n, s, m, c⟩ := ⟨_, _, _, _, _, _, rfl⟩
/-- v is a row of the call's own, of the cells cs. -/
def OwnCels (w : World) (base : Nat) (v : Value) (cs : List C) : Prop := w.ownsRow base 64 6 v cs.length (crow cs)
theorem OwnCels.to {w : World} {base : Nat} {v : Value} {cs : List C} (h : OwnCels w base v cs) : CelsIn w v cs := by
  obtain ⟨hl, hv⟩ := h
  rcases hv with ⟨rfl, h0⟩ | ⟨g, cap, cur, rfl, hg, hcur, h1, h2, h3, h4⟩
  · have : cs = [] := List.eq_nil_of_length_eq_zero h0
    subst this
    exact ⟨none, 0, rfl, Nat.le_refl _, fun _ => ⟨rfl, rfl⟩, .inl rfl⟩
  · refine ⟨_, _, rfl, h1, nofun, .inr ⟨g, 0, rfl, fun i hi j u hj => ?_⟩⟩
    have hj6 : j < 6 := by
      rcases Nat.lt_or_ge j 6 with h' | h'
      · exact h'
      · rw [List.getElem?_eq_none (by simp [ccells]; omega)] at hj; cases hj
    have k5 := (crow_at cs i j hi hj6).trans hj
    rw [← h4, List.getElem?_take_of_lt (by omega)] at k5
    rw [cell_of_row w g (0 + i * 6 + j) cur _ (0, 0) hcur, Nat.zero_add, ← Array.getElem?_toList]
    exact k5
theorem OwnCels.below {w w' : World} {base : Nat} {v : Value} {cs : List C} (h : OwnCels w base v cs) (hb : Below w.heap.size w w') : OwnCels w' base v cs := own_below h hb
theorem OwnCels.away {w w' : World} {base b : Nat} {v : Value} {cs : List C} (h : OwnCels w base v cs) (hg : w.grownBy w' (some b)) (hb : v.ownBlock ≠ some b) : OwnCels w' base v cs := World.ownsRow.kept h hg (.inr hb)
theorem OwnCels.mono {w : World} {b base : Nat} {v : Value} {cs : List C} (h : OwnCels w base v cs) (hb : b ≤ base) : OwnCels w b v cs := own_mono h hb
theorem OwnCels.form {w : World} {base : Nat} {v : Value} {cs : List C} (h : OwnCels w base v cs) : ∃ ad c, v = .slice ad cs.length c := own_form h
/-- Where an own row lies that isn't empty. -/
theorem OwnCels.at {w : World} {base : Nat} {v : Value} {cs : List C} (h : OwnCels w base v cs) (h0 : 0 < cs.length) : ∃ g c, v = .slice (some ⟨g, 0, none⟩) cs.length c ∧ base ≤ g ∧ g < w.heap.size ∧ cs.length ≤ c := by
  obtain ⟨hl, hv⟩ := h
  rcases hv with ⟨_, h1⟩ | ⟨g, cap, cur, rfl, hg, hcur, h1, _⟩
  · omega
  · exact ⟨g, cap, rfl, hg, there_lt hcur, h1⟩
/-- A cell is stored into an own row. -/
theorem OwnCels.set {w : World} {base g n c : Nat} {cs : List C} (h : OwnCels w base (.slice (some ⟨g, 0, none⟩) n c) cs) {i : Nat} (hi : i < cs.length) (o : C) :
    OwnCels ((((((w.setCell ⟨g, i * 6, none⟩ (.bool o.f)).setCell ⟨g, i * 6 + 1, none⟩ (.bool o.p)).setCell ⟨g, i * 6 + 2, none⟩ (.bool o.n)).setCell ⟨g, i * 6 + 3, none⟩ (.int .i64 o.s)).setCell ⟨g, i * 6 + 4, none⟩ (.bool o.m)).setCell ⟨g, i * 6 + 5, none⟩ (.int .u8 (o.c : Int))) base (.slice (some ⟨g, 0, none⟩) n c) (cs.set i o) ∧
    w.grownBy ((((((w.setCell ⟨g, i * 6, none⟩ (.bool o.f)).setCell ⟨g, i * 6 + 1, none⟩ (.bool o.p)).setCell ⟨g, i * 6 + 2, none⟩ (.bool o.n)).setCell ⟨g, i * 6 + 3, none⟩ (.int .i64 o.s)).setCell ⟨g, i * 6 + 4, none⟩ (.bool o.m)).setCell ⟨g, i * 6 + 5, none⟩ (.int .u8 (o.c : Int))) (some g) := by
  have hn : n = cs.length := by
    obtain ⟨_, _, e⟩ := h.form
    injection e
  subst hn
  unfold OwnCels at h ⊢
  rw [crow_set cs i o hi, List.length_set]
  obtain ⟨h, g0⟩ := World.ownsRow.stored h (i * 6) (.bool o.f)
  obtain ⟨h, g1⟩ := World.ownsRow.stored h (i * 6 + 1) (.bool o.p)
  obtain ⟨h, g2⟩ := World.ownsRow.stored h (i * 6 + 2) (.bool o.n)
  obtain ⟨h, g3⟩ := World.ownsRow.stored h (i * 6 + 3) (.int .i64 o.s)
  obtain ⟨h, g4⟩ := World.ownsRow.stored h (i * 6 + 4) (.bool o.m)
  obtain ⟨h, g5⟩ := World.ownsRow.stored h (i * 6 + 5) (.int .u8 (o.c : Int))
  exact ⟨h, gtrans g0 (gtrans g1 (gtrans g2 (gtrans g3 (gtrans g4 g5))))⟩
theorem OwnCels.setc {w : World} {base g n c : Nat} {cs : List C} (h : OwnCels w base (.slice (some ⟨g, 0, none⟩) n c) cs) {i : Nat} (hi : i < cs.length) (ch : Nat) :
    OwnCels (w.setCell ⟨g, i * 6 + 5, none⟩ (.int .u8 (ch : Int))) base (.slice (some ⟨g, 0, none⟩) n c) (cs.set i { cs.getD i noC with c := ch }) ∧ w.grownBy (w.setCell ⟨g, i * 6 + 5, none⟩ (.int .u8 (ch : Int))) (some g) := by
  have hn : n = cs.length := by
    obtain ⟨_, _, e⟩ := h.form
    injection e
  subst hn
  unfold OwnCels at h ⊢
  rw [crow_char cs i ch hi, List.length_set]
  exact World.ownsRow.stored h (i * 6 + 5) (.int .u8 (ch : Int))
/-- Where a cell of an own row lies. -/
theorem OwnCels.spot {w : World} {base g n c : Nat} {cs : List C} (h : OwnCels w base (.slice (some ⟨g, 0, none⟩) n c) cs) {i : Nat} (hi : i < cs.length) {f p m' n' : Bool} {s : Int} {ch : Nat} (ho : cs.getD i noC = ⟨f, p, n', s, m', ch⟩) :
    (w.cell? ⟨g, i * 6, none⟩ = some (.bool f) ∧ w.cell? ⟨g, i * 6 + 1, none⟩ = some (.bool p) ∧ w.cell? ⟨g, i * 6 + 2, none⟩ = some (.bool n') ∧ w.cell? ⟨g, i * 6 + 3, none⟩ = some (.int .i64 s) ∧ w.cell? ⟨g, i * 6 + 4, none⟩ = some (.bool m') ∧ w.cell? ⟨g, i * 6 + 5, none⟩ = some (.int .u8 (ch : Int))) ∧
    ∀ j, w.frozen? ⟨g, j, none⟩ = false := by
  obtain ⟨b, off, e, h0, h1, h2, h3, h4, h5⟩ := h.to.cells hi ho
  injection e with e
  injection e with e1 e2
  subst e1; subst e2
  simp only [Nat.zero_add] at h0 h1 h2 h3 h4 h5
  have hn : n = cs.length := by
    obtain ⟨_, _, e⟩ := h.form
    injection e
  subst hn
  have h' : w.ownsRow base 64 6 (.slice (some ⟨g, 0, none⟩) cs.length c) cs.length (crow cs) := h
  exact ⟨⟨h0, h1, h2, h3, h4, h5⟩, World.ownsRow.frozenAt h'⟩
/-- The zero cells of make. -/
theorem made_cells (n : Nat) : (madeCells (Value.cells (.agg #[.bool false, .bool false, .bool false, .int .i64 0, .bool false, .int .u8 0])) (n * 6)).toList = crow (List.replicate n noC) := by
  apply List.ext_getElem?
  intro k
  rcases Nat.lt_or_ge k (n * 6) with hk | hk
  · have e : k = k / 6 * 6 + k % 6 := by omega
    have h6 : k % 6 < 6 := Nat.mod_lt _ (by decide)
    have hq : k / 6 < n := by omega
    rw [show (crow (List.replicate n noC))[k]? = (ccells ((List.replicate n noC).getD (k / 6) noC))[k % 6]? by
      conv => lhs; rw [e]
      exact crow_at _ _ _ (by simpa using hq) h6]
    rw [show (List.replicate n noC).getD (k / 6) noC = noC by simp [List.getD_eq_getElem?_getD, hq]]
    simp only [madeCells, Value.cells, Array.toList_map, Array.toList_range, List.getElem?_map, List.getElem?_range hk, Option.map_some]
    rw [show (#[Value.bool false, .bool false, .bool false, .int .i64 0, .bool false, .int .u8 0] : Array Value).size = 6 from rfl]
    generalize k % 6 = r at h6
    have : r = 0 ∨ r = 1 ∨ r = 2 ∨ r = 3 ∨ r = 4 ∨ r = 5 := by omega
    rcases this with rfl | rfl | rfl | rfl | rfl | rfl <;> rfl
  · rw [List.getElem?_eq_none (by rw [Array.length_toList, size_madeCells]; exact hk), List.getElem?_eq_none (by rw [crow_len]; simpa using hk)]
/-- Cells whose characters are bytes. -/
def Sound (cs : List C) : Prop := ∀ o ∈ cs, o.c < 256
theorem sound_at {cs : List C} (h : Sound cs) (i : Nat) : (cs.getD i noC).c < 256 := by
  rcases Nat.lt_or_ge i cs.length with hi | hi
  · rw [List.getD_eq_getElem?_getD, List.getElem?_eq_getElem hi]; exact h _ (List.getElem_mem hi)
  · rw [List.getD_eq_getElem?_getD, List.getElem?_eq_none hi]; simp [noC]
theorem all_at {cs : List C} (h : ∀ i, i < cs.length → cright (cs.getD i noC) = true) : cs.all cright = true := by
  rw [List.all_eq_true]
  intro o ho
  obtain ⟨i, hi, rfl⟩ := List.getElem_of_mem ho
  have := h i hi
  rwa [List.getD_eq_getElem?_getD, List.getElem?_eq_getElem hi] at this
theorem not_all {cs : List C} {i : Nat} (hi : i < cs.length) (h : cright (cs.getD i noC) = false) : cs.all cright = false := by
  cases hA : cs.all cright with
  | false => rfl
  | true =>
    rw [List.all_eq_true] at hA
    rw [List.getD_eq_getElem?_getD, List.getElem?_eq_getElem hi] at h
    have := hA _ (List.getElem_mem hi)
    rw [show (some cs[i]).getD noC = cs[i] from rfl] at h
    rw [h] at this; cases this
end Grd
end Go.Proofs.YtpdlpmbjhopnnaaGreatDoor
/- One cell's Modified is stored; one cell's character. -/
namespace Go.Proofs.YtpdlpmbjhopnnaaGreatDoor
open Go.RowKit Sha Six Apd Cut Err
set_option linter.unusedVariables false
namespace Grd
theorem crow_m : ∀ (cs : List C) (i : Nat) (b : Bool), i < cs.length → crow (cs.set i { cs.getD i noC with m := b }) = (crow cs).set (i * 6 + 4) (.bool b)
  | x :: cs, 0, b, _ => rfl
  | x :: cs, i + 1, b, hi => by
    have ih := crow_m cs i b (by simpa using hi)
    rw [List.set_cons_succ, crow, show (x :: cs).getD (i + 1) noC = cs.getD i noC from rfl, ih, crow, show (i + 1) * 6 + 4 = i * 6 + 4 + 6 by omega, set6]
/-- One cell's Modified is stored. -/
theorem setm {w : World} {base g n c : Nat} {cs : List C} (h : OwnCels w base (.slice (some ⟨g, 0, none⟩) n c) cs) {i : Nat} (hi : i < cs.length) (b : Bool) :
    OwnCels (w.setCell ⟨g, i * 6 + 4, none⟩ (.bool b)) base (.slice (some ⟨g, 0, none⟩) n c) (cs.set i { cs.getD i noC with m := b }) ∧ w.grownBy (w.setCell ⟨g, i * 6 + 4, none⟩ (.bool b)) (some g) := by
  have hn : n = cs.length := by
    obtain ⟨_, _, e⟩ := h.form
    injection e
  subst hn
  unfold OwnCels at h ⊢
  rw [crow_m cs i b hi, List.length_set]
  exact World.ownsRow.stored h (i * 6 + 4) (.bool b)
end Grd
end Go.Proofs.YtpdlpmbjhopnnaaGreatDoor
/- Six cells of a block: loaded, stored one behind the other; zero screens; append of cells. -/
namespace Go.Proofs.YtpdlpmbjhopnnaaGreatDoor
open Go.RowKit Sha Six Apd Cut Err
namespace Grd
theorem free6 {w : World} {B : Nat} {t : TypeId} {cs : Array Value} (h : w.heap[B]? = some (.cells cs t (0, 0))) :
    w.frozen? ⟨B, 0, none⟩ = false ∧ w.frozen? ⟨B, 1, none⟩ = false ∧ w.frozen? ⟨B, 2, none⟩ = false ∧ w.frozen? ⟨B, 3, none⟩ = false ∧ w.frozen? ⟨B, 4, none⟩ = false ∧ w.frozen? ⟨B, 5, none⟩ = false :=
  ⟨frozen_of_row _ _ 0 _ _ h, frozen_of_row _ _ 1 _ _ h, frozen_of_row _ _ 2 _ _ h, frozen_of_row _ _ 3 _ _ h, frozen_of_row _ _ 4 _ _ h, frozen_of_row _ _ 5 _ _ h⟩
theorem cells6 {w : World} {B : Nat} {t : TypeId} {a0 a1 a2 a3 a4 a5 : Value} (h : w.heap[B]? = some (.cells #[a0, a1, a2, a3, a4, a5] t (0, 0))) :
    w.cell? ⟨B, 0, none⟩ = some a0 ∧ w.cell? ⟨B, 1, none⟩ = some a1 ∧ w.cell? ⟨B, 2, none⟩ = some a2 ∧ w.cell? ⟨B, 3, none⟩ = some a3 ∧ w.cell? ⟨B, 4, none⟩ = some a4 ∧ w.cell? ⟨B, 5, none⟩ = some a5 :=
  ⟨cell_of_row _ _ 0 _ _ _ h, cell_of_row _ _ 1 _ _ _ h, cell_of_row _ _ 2 _ _ _ h, cell_of_row _ _ 3 _ _ _ h, cell_of_row _ _ 4 _ _ _ h, cell_of_row _ _ 5 _ _ _ h⟩
theorem below6 {w1 : World} {B : Nat} {t : TypeId} {a0 a1 a2 a3 a4 a5 : Value} (k : w1.heap[B]? = some (.cells #[a0, a1, a2, a3, a4, a5] t (0, 0))) (w' : World) (h : Below w1.heap.size w1 w') :
    Below w1.heap.size w1 w' ∧ w'.cell? ⟨B, 0, none⟩ = some a0 ∧ w'.cell? ⟨B, 1, none⟩ = some a1 ∧ w'.cell? ⟨B, 2, none⟩ = some a2 ∧ w'.cell? ⟨B, 3, none⟩ = some a3 ∧ w'.cell? ⟨B, 4, none⟩ = some a4 ∧ w'.cell? ⟨B, 5, none⟩ = some a5 := ⟨h, cells6 (blk k h)⟩
/-- Six cells of a block, stored one behind the other. -/
theorem over6 (a : World) (B : Nat) (t : TypeId) (a0 a1 a2 a3 a4 a5 u0 u1 u2 u3 u4 u5 : Value) (h : a.heap[B]? = some (.cells #[a0, a1, a2, a3, a4, a5] t (0, 0))) :
    ((((((a.setCell ⟨B, 0, none⟩ u0).setCell ⟨B, 1, none⟩ u1).setCell ⟨B, 2, none⟩ u2).setCell ⟨B, 3, none⟩ u3).setCell ⟨B, 4, none⟩ u4).setCell ⟨B, 5, none⟩ u5).heap[B]? = some (.cells #[u0, u1, u2, u3, u4, u5] t (0, 0)) ∧
    a.grownBy ((((((a.setCell ⟨B, 0, none⟩ u0).setCell ⟨B, 1, none⟩ u1).setCell ⟨B, 2, none⟩ u2).setCell ⟨B, 3, none⟩ u3).setCell ⟨B, 4, none⟩ u4).setCell ⟨B, 5, none⟩ u5) (some B) := by
  have g0 := gsetCell a B 0 u0
  have h : (a.setCell ⟨B, 0, none⟩ u0).heap[B]? = some (.cells #[u0, a1, a2, a3, a4, a5] t (0, 0)) := heap_setCell_same _ B 0 _ t u0 h
  generalize a.setCell ⟨B, 0, none⟩ u0 = b0 at *
  have g1 := gsetCell b0 B 1 u1
  have h : (b0.setCell ⟨B, 1, none⟩ u1).heap[B]? = some (.cells #[u0, u1, a2, a3, a4, a5] t (0, 0)) := heap_setCell_same _ B 1 _ t u1 h
  generalize b0.setCell ⟨B, 1, none⟩ u1 = b1 at *
  have g2 := gsetCell b1 B 2 u2
  have h : (b1.setCell ⟨B, 2, none⟩ u2).heap[B]? = some (.cells #[u0, u1, u2, a3, a4, a5] t (0, 0)) := heap_setCell_same _ B 2 _ t u2 h
  generalize b1.setCell ⟨B, 2, none⟩ u2 = b2 at *
  have g3 := gsetCell b2 B 3 u3
  have h : (b2.setCell ⟨B, 3, none⟩ u3).heap[B]? = some (.cells #[u0, u1, u2, u3, a4, a5] t (0, 0)) := heap_setCell_same _ B 3 _ t u3 h
  generalize b2.setCell ⟨B, 3, none⟩ u3 = b3 at *
  have g4 := gsetCell b3 B 4 u4
  have h : (b3.setCell ⟨B, 4, none⟩ u4).heap[B]? = some (.cells #[u0, u1, u2, u3, u4, a5] t (0, 0)) := heap_setCell_same _ B 4 _ t u4 h
  generalize b3.setCell ⟨B, 4, none⟩ u4 = b4 at *
  have g5 := gsetCell b4 B 5 u5
  have h : (b4.setCell ⟨B, 5, none⟩ u5).heap[B]? = some (.cells #[u0, u1, u2, u3, u4, u5] t (0, 0)) := heap_setCell_same _ B 5 _ t u5 h
  generalize b4.setCell ⟨B, 5, none⟩ u5 = b5 at *
  exact ⟨h, gtrans g0 (gtrans g1 (gtrans g2 (gtrans g3 (gtrans g4 g5))))⟩
/-- A change of a block of the call's own is none below. -/
theorem below_grown {w a b : World} {g : Nat} (h : Below w.heap.size w a) (hg : a.grownBy b (some g)) (hw : w.heap.size ≤ g) : Below w.heap.size w b :=
  h.grown hg h.size (by intro k hk; injection hk with hk; omega)
theorem nil_eqC (w : World) : (binOp BinOp.eql 22 (.slice none 0 0) (.slice none 0 0)).run Tryz.prog w = .ok (.bool true) w := by kernel_rfl
theorem nil_neC (a : Addr) (n c : Nat) (w : World) : (binOp BinOp.eql 22 (.slice (some a) n c) (.slice none 0 0)).run Tryz.prog w = .ok (.bool false) w := by kernel_rfl
theorem infoC : (Tryz.prog.info? 64).map (fun i => (i.zero, i.size, i.bytes)) = some (some (.agg #[.bool false, .bool false, .bool false, .int .i64 0, .bool false, .int .u8 0]), 6, 40) := by kernel_rfl
theorem cels_src {w : World} {ao : Option Addr} {len cap : Nat} {cs : List C} (h : CelsIn w (.slice ao len cap) cs) : ∀ ad, ao = some ad → ∀ j u, (crow cs)[j]? = some u → w.cell? (ad.add j) = some u := by
  intro ad hA j u hj
  have hjl : j < cs.length * 6 := by
    rcases Nat.lt_or_ge j (cs.length * 6) with h' | h'
    · exact h'
    · rw [List.getElem?_eq_none (by rw [crow_len]; exact h')] at hj; cases hj
  obtain ⟨ad2, cap2, hv, _, _, hc⟩ := h
  injection hv with h1 h2 h3
  subst h1
  rcases hc with h0 | ⟨g, off, hg, hc⟩
  · rw [h0] at hjl; simp at hjl
  · rw [hA] at hg
    injection hg with hg
    have e : j = j / 6 * 6 + j % 6 := by omega
    have h6 : j % 6 < 6 := Nat.mod_lt _ (by decide)
    have hq : j / 6 < cs.length := by omega
    rw [e, crow_at cs _ _ hq h6] at hj
    have := hc (j / 6) hq (j % 6) u hj
    rw [hg, Addr.add_mid, show off + j = off + j / 6 * 6 + j % 6 by omega]
    exact this
theorem append_cels {ops : Array Oper} {rest : List Oper} {o : Oper} {a : Act} {Q : Exit → Act → World → Prop} {w : World} (hgd : o.guard = none) (s x : Operand)
    (ho : o.op = .call { callee := .builtin .append, args := #[s, x], argTypes := #[22, 22] }) (base : Nat) (v : Value) (n : Nat) (xs : List C) (hs : a.eval s = v) (hown : w.ownsRow base 64 6 v n (crow xs))
    (ao : Option Addr) (m c : Nat) (news : List C) (hx : a.eval x = .slice ao m c) (hsrc : CelsIn w (.slice ao m c) news) (h63 : n + m < 1000000000) (hbase : base ≤ w.heap.size)
    (h : ∀ v' w', w'.ownsRow base 64 6 v' (n + m) (crow (xs ++ news)) → w.grownBy w' v.ownBlock → wpList Tryz.prog ops Q rest (a.put o.dst v') w') : wpList Tryz.prog ops Q (o :: rest) a w := by
  obtain ⟨i0, hi, hz0, hz1, hz2⟩ := info_parts infoC
  have hl : m = news.length := hsrc.len
  have hcr := crow_append xs news
  have hnn : ao = none → m = 0 ∧ c = 0 := by
    obtain ⟨_, _, e, _, hn⟩ := hsrc.form
    injection e with e1 e2 e3
    subst e1 e2 e3
    exact hn
  cases ao with
  | none =>
    obtain ⟨rfl, rfl⟩ := hnn rfl
    have hn : news = [] := List.eq_nil_of_length_eq_zero hl.symm
    subst hn
    exact wpList_append_own_none hgd s x 22 ho base 64 i0 6 Tryz.underlying22 hi v n (crow xs) hs hown hx (h v w (by simpa using hown) (grefl _ _))
  | some ad =>
    exact wpList_append_own _ hgd s x 22 ho base 64 i0 _ 6 40 Tryz.underlying22 hi hz0 hz1 hz2 rfl (by decide) v n (crow xs) hs hown ad m c (crow news) hx (by rw [crow_len, hl]) (cels_src hsrc ad rfl) (crow_one _) (by unfold maxLen; omega) (by omega) hbase fun v' w' k1 k2 _ => h v' w' (by rw [hcr]; exact k1) k2
/-- The answer of a copy. -/
def Copied (w w' : World) (s : S) (e : Ending) : Prop := ∃ va vc, e = .returned (.agg #[.int .i64 s.rows, .int .i64 s.cols, .slice va s.cs.length vc, .int .i64 s.cur, .bool s.lk, .bool s.ins]) ∧ OwnCels w' w.heap.size (.slice va s.cs.length vc) s.cs ∧ Below w.heap.size w w'
end Grd
end Go.Proofs.YtpdlpmbjhopnnaaGreatDoor
/- Size and On of package grid. -/
namespace Go.Proofs.YtpdlpmbjhopnnaaGreatDoor
open Go.RowKit Sha Six Apd Cut Err Att
set_option linter.unusedVariables false
namespace Grd
set_option maxHeartbeats 1000000 in
theorem size_any (r c : Int) (ad : Option Addr) (n k : Nat) (cur : Int) (lk ins : Bool) (w : World) :
    Calls Tryz.prog 28 #[.agg #[.int .i64 r, .int .i64 c, .slice ad n k, .int .i64 cur, .bool lk, .bool ins]] w fun e w' => e = .returned (.int .i64 (n : Int)) ∧ Below w.heap.size w w' := by
  go_enter Tryz.func28, Tryz.ntmps28
  go_wp2
  go_ret
  exact ⟨rfl, al_any _ _⟩
set_option maxHeartbeats 1000000 in
theorem on_any (r c : Int) (ad : Option Addr) (n k : Nat) (cur : Int) (lk ins : Bool) (a m : Int) (w : World) (hn : 0 < n) (hn2 : n < 1000000000) (ha : IntKind.i64.wrap a = a) (hm : IntKind.i64.wrap m = m) :
    Calls Tryz.prog 89 #[.agg #[.int .i64 r, .int .i64 c, .slice ad n k, .int .i64 cur, .bool lk, .bool ins], .int .i64 a, .int .i64 m] w fun e w' => e = .returned (.int .i64 ((on n a m : Nat) : Int)) ∧ Below w.heap.size w w' := by
  have HS := Lib.hid fun W => size_any r c ad n k cur lk ins W
  have HG := Lib.hid (on_go hn a m)
  have HR := Lib.hid (on_room hn hn2 a m)
  have hz : ((n : Int) == 0) = false := by simp; omega
  have hz0 : ¬ ((n : Int) = 0) := by omega
  generalize on n a m = res at HG ⊢
  go_enter Tryz.func89, Tryz.ntmps89
  go_wp2_with fail
  refine (HS.out _).mono ?_
  rintro e w1 ⟨rfl, hb⟩
  have HB := Lib.hid (kept_trans (al_any w _) hb)
  clear hb
  go_wp2_with fail
  go_quiet (fail)
  go_wp2_with fail
  go_ret
  refine ⟨ret_i64 ?_, kept_trans HB.out (below_drewN _ _ _)⟩
  have hr := HR.out
  have hg := HG.out
  generalize a.tmod (n : Int) = x at *
  generalize m.tmod (n : Int) = y at *
  have q1 : wrap64 (x + y) = x + y := by unfold wrap64; omega
  have q2 : wrap64 (x + y + 2 * (n : Int)) = x + y + 2 * (n : Int) := by unfold wrap64; omega
  rw [q1, q2, hg]
end Grd
end Go.Proofs.YtpdlpmbjhopnnaaGreatDoor
/- Two cells are alike: what the walk's own operation says. -/
namespace Go.Proofs.YtpdlpmbjhopnnaaGreatDoor
open Go.RowKit Sha Six Apd Cut Err Att
set_option linter.unusedVariables false
namespace Grd
theorem c_ext {xs ys : List C} (hl : xs.length = ys.length) (h : ∀ i, i < xs.length → xs.getD i noC = ys.getD i noC) : xs = ys := by
  apply List.ext_getElem hl
  intro i h1 h2
  have := h i h1
  rwa [List.getD_eq_getElem?_getD, List.getD_eq_getElem?_getD, List.getElem?_eq_getElem h1, List.getElem?_eq_getElem h2] at this
/-- Two cells are alike, as the walk spells it. -/
theorem ceq (f p n : Bool) (s : Int) (m : Bool) (c : Nat) (f' p' n' : Bool) (s' : Int) (m' : Bool) (c' : Nat) :
    decide ((⟨f, p, n, s, m, c⟩ : C) = ⟨f', p', n', s', m', c'⟩) = ((f == f') && ((p == p') && ((n == n') && ((s == s') && (m == m')))) && ((c : Int) == (c' : Int))) := by
  rw [Bool.eq_iff_iff]
  simp only [decide_eq_true_eq, C.mk.injEq, Bool.and_eq_true, beq_iff_eq]
  constructor
  · rintro ⟨h1, h2, h3, h4, h5, h6⟩; exact ⟨⟨h1, h2, h3, h4, h5⟩, by omega⟩
  · rintro ⟨⟨h1, h2, h3, h4, h5⟩, h6⟩; exact ⟨h1, h2, h3, h4, h5, by omega⟩
set_option maxRecDepth 100000 in
set_option maxHeartbeats 2000000 in
theorem run_eqA (d : Nat) (p n : Bool) (s : Int) (m : Bool) (p' n' : Bool) (s' : Int) (m' : Bool) (w : World) :
    (Op.equalIn (d + 2) 62 (.agg #[.bool p, .bool n, .int .i64 s, .bool m]) (.agg #[.bool p', .bool n', .int .i64 s', .bool m'])).run Tryz.prog w = .ok ((p == p') && ((n == n') && ((s == s') && (m == m')))) w := by
  rw [run_equalIn_agg w (d + 1) 62 _ _ (by kernel_rfl) (by kernel_rfl)]
  cases e0 : p == p' <;> cases e1 : n == n' <;> cases e2 : s == s' <;> cases e3 : m == m'
  all_goals
    go_simp
set_option maxRecDepth 100000 in
set_option maxHeartbeats 2000000 in
theorem run_eqC (x y : C) (w : World) :
    (Op.equalIn 10000 64 (.agg #[.bool x.f, .bool x.p, .bool x.n, .int .i64 x.s, .bool x.m, .int .u8 (x.c : Int)]) (.agg #[.bool y.f, .bool y.p, .bool y.n, .int .i64 y.s, .bool y.m, .int .u8 (y.c : Int)])).run Tryz.prog w = .ok (decide (x = y)) w := by
  obtain ⟨xf, xp, xn, xs, xm, xc⟩ := x
  obtain ⟨yf, yp, yn, ys, ym, yc⟩ := y
  rw [ceq, run_equalIn_agg w 9999 64 _ _ (by kernel_rfl) (by kernel_rfl)]
  have hA := run_eqA 9997 xp xn xs xm yp yn ys ym
  generalize ((xp == yp) && ((xn == yn) && ((xs == ys) && (xm == ym)))) = ea at hA ⊢
  cases e0 : xf == yf <;> cases ea <;> cases e3 : (xc : Int) == (yc : Int)
  all_goals
    go_simp
theorem run_neqC (x y : C) (w : World) :
    (binOp BinOp.neq 64 (.agg #[.bool x.f, .bool x.p, .bool x.n, .int .i64 x.s, .bool x.m, .int .u8 (x.c : Int)]) (.agg #[.bool y.f, .bool y.p, .bool y.n, .int .i64 y.s, .bool y.m, .int .u8 (y.c : Int)])).run Tryz.prog w = .ok (.bool (!decide (x = y))) w := by
  rw [run_neq_struct, run_eqC]; rfl
end Grd
end Go.Proofs.YtpdlpmbjhopnnaaGreatDoor
/- Rows of numbers, of truths, of the call's own. -/
namespace Go.Proofs.YtpdlpmbjhopnnaaGreatDoor
open Go.RowKit Sha Six Apd Cut Err Att
set_option linter.unusedVariables false
namespace Grd
/-- The cells of a row of numbers. -/
def i64s (l : List Nat) : List Value := l.map fun (x : Nat) => .int .i64 (x : Int)
theorem i64s_len (l : List Nat) : (i64s l).length = l.length := by simp [i64s]
theorem i64s_at {l : List Nat} {i : Nat} (h : i < l.length) : (i64s l)[i]? = some (.int .i64 ((l.getD i 0 : Nat) : Int)) := by
  simp [i64s, h]
theorem i64s_one (l : List Nat) : ∀ v ∈ i64s l, v.oneCell' = true := by intro v hv; simp [i64s] at hv; obtain ⟨x, _, rfl⟩ := hv; rfl
/-- v is a row of the call's own, of the numbers xs. -/
def OwnInts (w : World) (base : Nat) (v : Value) (xs : List Nat) : Prop := w.ownsRow base 3 1 v xs.length (i64s xs)
theorem OwnInts.below {w w' : World} {base : Nat} {v : Value} {xs : List Nat} (h : OwnInts w base v xs) (hb : Below w.heap.size w w') : OwnInts w' base v xs := own_below h hb
theorem OwnInts.mono {w : World} {b base : Nat} {v : Value} {xs : List Nat} (h : OwnInts w base v xs) (hb : b ≤ base) : OwnInts w b v xs := own_mono h hb
theorem OwnInts.form {w : World} {base : Nat} {v : Value} {xs : List Nat} (h : OwnInts w base v xs) : ∃ ad c, v = .slice ad xs.length c := own_form h
theorem OwnInts.cell {w : World} {base n c : Nat} {ad : Option Addr} {xs : List Nat} (h : OwnInts w base (.slice ad n c) xs) {i : Nat} (hi : i < xs.length) : ∃ g, ad = some ⟨g, 0, none⟩ ∧ base ≤ g ∧ g < w.heap.size ∧ w.cell? ⟨g, 0 + i, none⟩ = some (.int .i64 ((xs.getD i 0 : Nat) : Int)) ∧ w.frozen? ⟨g, 0 + i, none⟩ = false := by
  obtain ⟨hl, hv⟩ := h
  rcases hv with ⟨_, h0⟩ | ⟨g, cap, cur, hv, hg, hcur, h1, h2, h3, h4⟩
  · omega
  · injection hv with e1 e2 e3
    subst e1
    refine ⟨g, rfl, hg, there_lt hcur, ?_, frozen_of_row w g (0 + i) cur _ hcur⟩
    have k5 := i64s_at hi
    rw [← h4, List.getElem?_take_of_lt (by omega)] at k5
    rw [cell_of_row w g (0 + i) cur _ (0, 0) hcur, Nat.zero_add, ← Array.getElem?_toList]
    exact k5
theorem OwnInts.set {w : World} {base g n c : Nat} {xs : List Nat} (h : OwnInts w base (.slice (some ⟨g, 0, none⟩) n c) xs) (i x : Nat) :
    OwnInts (w.setCell ⟨g, i, none⟩ (.int .i64 (x : Int))) base (.slice (some ⟨g, 0, none⟩) n c) (xs.set i x) ∧ w.grownBy (w.setCell ⟨g, i, none⟩ (.int .i64 (x : Int))) (some g) := by
  have hn : n = xs.length := by
    obtain ⟨_, _, e⟩ := h.form
    injection e
  subst hn
  unfold OwnInts at h ⊢
  rw [show i64s (xs.set i x) = (i64s xs).set i (.int .i64 (x : Int)) by simp [i64s, List.map_set], List.length_set]
  exact World.ownsRow.stored h i (.int .i64 (x : Int))
theorem fill_set {sp : List Nat} {N q : Nat} (hl : sp.length = N) (hq : q < N) : (sp.take q ++ List.replicate (N - q) 0).set q (sp.getD q 0) = sp.take (q + 1) ++ List.replicate (N - (q + 1)) 0 := by
  have e : sp.getD q 0 = sp[q] := by simp [List.getD_eq_getElem?_getD, show q < sp.length by omega]
  rw [e, List.set_append_right _ _ (by simp; omega), show q - (sp.take q).length = 0 by simp; omega, show N - q = (N - (q + 1)) + 1 by omega, List.replicate_succ, List.set_cons_zero, List.take_succ_eq_append_getElem (show q < sp.length by omega), List.append_assoc]
  rfl
theorem fill_len {sp : List Nat} {N q : Nat} (hl : sp.length = N) (hq : q ≤ N) : (sp.take q ++ List.replicate (N - q) 0).length = N := by simp; omega
/-- The cells of a row of truths. -/
def bools (l : List Bool) : List Value := l.map fun x => .bool x
theorem bools_at {l : List Bool} {i : Nat} (h : i < l.length) : (bools l)[i]? = some (.bool (l.getD i false)) := by
  simp [bools, h]
def OwnBools (w : World) (base : Nat) (v : Value) (xs : List Bool) : Prop := w.ownsRow base 4 1 v xs.length (bools xs)
theorem OwnBools.below {w w' : World} {base : Nat} {v : Value} {xs : List Bool} (h : OwnBools w base v xs) (hb : Below w.heap.size w w') : OwnBools w' base v xs := own_below h hb
theorem OwnBools.cell {w : World} {base g n c : Nat} {xs : List Bool} (h : OwnBools w base (.slice (some ⟨g, 0, none⟩) n c) xs) {i : Nat} (hi : i < xs.length) : w.cell? ⟨g, i, none⟩ = some (.bool (xs.getD i false)) ∧ w.frozen? ⟨g, i, none⟩ = false := by
  obtain ⟨hl, hv⟩ := h
  rcases hv with ⟨_, h0⟩ | ⟨g', cap, cur, hv, hg, hcur, h1, h2, h3, h4⟩
  · omega
  · injection hv with e1 e2 e3
    injection e1 with e1
    injection e1 with e1
    subst e1
    refine ⟨?_, frozen_of_row w g i cur _ hcur⟩
    have k5 := bools_at hi
    rw [← h4, List.getElem?_take_of_lt (by omega)] at k5
    rw [cell_of_row w g i cur _ (0, 0) hcur, ← Array.getElem?_toList]
    exact k5
theorem OwnBools.set {w : World} {base g n c : Nat} {xs : List Bool} (h : OwnBools w base (.slice (some ⟨g, 0, none⟩) n c) xs) (i : Nat) (x : Bool) :
    OwnBools (w.setCell ⟨g, i, none⟩ (.bool x)) base (.slice (some ⟨g, 0, none⟩) n c) (xs.set i x) ∧ w.grownBy (w.setCell ⟨g, i, none⟩ (.bool x)) (some g) := by
  have hn : n = xs.length := by
    obtain ⟨_, _, e⟩ := own_form h
    injection e
  subst hn
  unfold OwnBools at h ⊢
  rw [show bools (xs.set i x) = (bools xs).set i (.bool x) by simp [bools, List.map_set], List.length_set]
  exact World.ownsRow.stored h i (.bool x)
theorem infoB : (Tryz.prog.info? 4).map (fun i => (i.zero, i.size, i.bytes)) = some (some (.bool false), 1, 1) := by kernel_rfl
theorem made_bools (N : Nat) : (madeCells (Value.cells (.bool false)) (N * 1)).toList = bools (List.replicate N false) := by
  rw [Nat.mul_one]; show (madeCells #[.bool false] N).toList = _; rw [toList_madeCells_one]; simp [bools]
theorem infoI : (Tryz.prog.info? 3).map (fun i => (i.zero, i.size, i.bytes)) = some (some (.int .i64 0), 1, 8) := by kernel_rfl
/-- append of one number whose cell lies in block L. -/
theorem append_int {ops : Array Oper} {rest : List Oper} {o : Oper} {a : Act} {Q : Exit → Act → World → Prop} {w : World} (hgd : o.guard = none) (s x : Operand)
    (ho : o.op = .call { callee := .builtin .append, args := #[s, x], argTypes := #[81, 81] }) (base : Nat) (v : Value) (xs : List Nat) (hs : a.eval s = v) (hown : OwnInts w base v xs)
    (L : Nat) (y : Nat) (hx : a.eval x = .slice (some ⟨L, 0, none⟩) 1 1) (hL : w.heap[L]? = some (.cells #[.int .i64 (y : Int)] 3 (0, 0)))
    (hn : xs.length < 1000000000) (hbase : base ≤ w.heap.size)
    (h : ∀ v' w', OwnInts w' base v' (xs ++ [y]) → w.grownBy w' v.ownBlock → wpList Tryz.prog ops Q rest (a.put o.dst v') w') : wpList Tryz.prog ops Q (o :: rest) a w := by
  obtain ⟨i0, hi, hz0, hz1, hz2⟩ := info_parts infoI
  refine wpList_append_own _ hgd s x 81 ho base 3 i0 _ 1 8 Tryz.underlying81 hi hz0 hz1 hz2 rfl (by decide) v xs.length (i64s xs) hs hown ⟨L, 0, none⟩ 1 1 [.int .i64 (y : Int)] hx rfl (fun j u hj => ?_) (by intro u hu; simp at hu; subst hu; rfl) (by unfold maxLen; omega) (by omega) hbase fun v' w' k1 k2 _ => h v' w' (by unfold OwnInts; rw [List.length_append, show i64s (xs ++ [y]) = i64s xs ++ [.int .i64 (y : Int)] by simp [i64s]]; exact k1) k2
  rw [Addr.add_mid, Nat.zero_add, cell_of_row w L j _ _ (0, 0) hL, List.getElem?_toArray]; exact hj
end Grd
end Go.Proofs.YtpdlpmbjhopnnaaGreatDoor
/- Next of the document, layer 10. -/
namespace Go.Proofs.YtpdlpmbjhopnnaaGreatDoor
open Go.RowKit Sha Six Apd Cut Err Att
set_option linter.unusedVariables false
namespace Grd
set_option maxHeartbeats 1000000 in
theorem rnext_any (r c : Int) (ad : Option Addr) (n k : Nat) (cur : Int) (lk ins : Bool) (a : Nat) (w : World) (ha : a < n) (hn : n < 100000000) :
    Calls Tryz.prog 40 #[.agg #[.int .i64 r, .int .i64 c, .slice ad n k, .int .i64 cur, .bool lk, .bool ins], .int .i64 (a : Int)] w fun e w' => e = .returned (.int .i64 ((on n a 1 : Nat) : Int)) ∧ Below w.heap.size w w' := by
  have h1 := on_nat (z := n) a 1
  rw [show ((1 : Nat) : Int) = 1 from rfl] at h1
  by_cases h0 : a + 1 = n
  · have HE := Lib.hid (show on n (a : Int) 1 = 0 by rw [h1, h0, Nat.mod_self])
    have hq : ((a : Int) + 1 == (n : Int)) = true := by simp; omega
    clear h0 h1
    generalize on n (a : Int) 1 = res at HE ⊢
    go_enter Tryz.func40, Tryz.ntmps40
    go_wp2_with fail
    go_ret
    exact ⟨by rw [HE.out]; rfl, al_any _ _⟩
  · have HE := Lib.hid (show ((on n (a : Int) 1 : Nat) : Int) = (a : Int) + 1 by rw [h1, Nat.mod_eq_of_lt (by omega)]; omega)
    have hq : ((a : Int) + 1 == (n : Int)) = false := by simp; omega
    clear h0 h1
    generalize on n (a : Int) 1 = res at HE ⊢
    go_enter Tryz.func40, Tryz.ntmps40
    go_wp2_with fail
    go_ret
    exact ⟨by rw [HE.out]; rfl, al_any _ _⟩
end Grd
end Go.Proofs.YtpdlpmbjhopnnaaGreatDoor
/- The document's Cell, Sized, Right and Few of layer 10. -/
namespace Go.Proofs.YtpdlpmbjhopnnaaGreatDoor
open Go.RowKit Sha Six Cut Err Att
set_option linter.unusedVariables false
namespace Grd
set_option maxHeartbeats 4000000 in
theorem rsized_any (r c : Int) (w : World) :
    Calls Tryz.prog 60 #[.int .i64 r, .int .i64 c] w fun e w' => e = .returned (.bool (sized r c)) ∧ w = w' := by
  by_cases h1 : 1 ≤ r
  · by_cases h2 : 1 ≤ c
    · by_cases h3 : r ≤ 16383
      · by_cases h4 : c ≤ 16383
        · have HE := Lib.hid (show sized r c = decide (r * c ≤ 16383) by unfold sized; simp [h1, h2])
          have hm : wrap64 (r * c) = r * c := by
            have a1 : 0 ≤ r * c := Int.mul_nonneg (by omega) (by omega)
            have a2 : r * c ≤ 16383 * c := Int.mul_le_mul_of_nonneg_right h3 (by omega)
            unfold wrap64; omega
          generalize sized r c = res at HE ⊢
          go_enter Tryz.func60, Tryz.ntmps60
          go_wp2_with fail
          go_ret
          exact ⟨ret_bool HE.out.symm, rfl⟩
        · have HE := Lib.hid (show sized r c = false by
            cases hs : sized r c with
            | false => rfl
            | true => have := sized_le hs; omega)
          generalize sized r c = res at HE ⊢
          go_enter Tryz.func60, Tryz.ntmps60
          go_wp2_with fail
          go_ret
          exact ⟨ret_bool HE.out.symm, rfl⟩
      · have HE := Lib.hid (show sized r c = false by
          cases hs : sized r c with
          | false => rfl
          | true => have := sized_le hs; omega)
        generalize sized r c = res at HE ⊢
        go_enter Tryz.func60, Tryz.ntmps60
        go_wp2_with fail
        go_ret
        exact ⟨ret_bool HE.out.symm, rfl⟩
    · have HE := Lib.hid (show sized r c = false by
        cases hs : sized r c with
        | false => rfl
        | true => have := sized_le hs; omega)
      generalize sized r c = res at HE ⊢
      go_enter Tryz.func60, Tryz.ntmps60
      go_wp2_with fail
      go_ret
      exact ⟨ret_bool HE.out.symm, rfl⟩
  · have HE := Lib.hid (show sized r c = false by
      cases hs : sized r c with
      | false => rfl
      | true => have := sized_le hs; omega)
    generalize sized r c = res at HE ⊢
    go_enter Tryz.func60, Tryz.ntmps60
    go_wp2_with fail
    go_ret
    exact ⟨ret_bool HE.out.symm, rfl⟩
set_option maxRecDepth 100000 in
set_option maxHeartbeats 4000000 in
theorem rcell_any (f p n : Bool) (s : Int) (m : Bool) (c : Nat) (w : World) (hc : c < 256) :
    Calls Tryz.prog 61 #[.agg #[.bool f, .bool p, .bool n, .int .i64 s, .bool m, .int .u8 (c : Int)]] w fun e w' => e = .returned (.bool (cright ⟨f, p, n, s, m, c⟩)) ∧ Below w.heap.size w w' := by
  cases f with
  | true =>
    by_cases h0 : c = 0
    · subst h0
      by_cases h1 : 0 ≤ s
      · have HE := Lib.hid (show cright ⟨true, p, n, s, m, 0⟩ = decide (s ≤ 3) by simp [cright, h1])
        generalize cright _ = res at HE ⊢
        go_enter Tryz.func61, Tryz.ntmps61
        go_wp2_with fail
        go_ret
        exact ⟨ret_bool HE.out.symm, al_any _ _⟩
      · have HE := Lib.hid (show cright ⟨true, p, n, s, m, 0⟩ = false by simp [cright, h1])
        generalize cright _ = res at HE ⊢
        go_enter Tryz.func61, Tryz.ntmps61
        go_wp2_with fail
        go_ret
        exact ⟨ret_bool HE.out.symm, al_any _ _⟩
    · have HE := Lib.hid (show cright ⟨true, p, n, s, m, c⟩ = false by simp [cright, h0])
      have hz : ((c : Int) == 0) = false := by simp; omega
      generalize cright _ = res at HE ⊢
      go_enter Tryz.func61, Tryz.ntmps61
      go_wp2_with fail
      go_ret
      exact ⟨ret_bool HE.out.symm, al_any _ _⟩
  | false =>
    by_cases ha : p = false ∧ n = false ∧ s = 0 ∧ m = false
    · obtain ⟨rfl, rfl, rfl, rfl⟩ := ha
      have HC := Lib.hid fun W => rchar_any c W hc
      have HE := Lib.hid (show cright ⟨false, false, false, 0, false, c⟩ = Att.char c by simp [cright])
      generalize cright _ = res at HE ⊢
      generalize Att.char c = ch at HC HE
      go_enter Tryz.func61, Tryz.ntmps61
      go_wp2_with fail
      refine (HC.out _).mono ?_
      rintro e w1 ⟨rfl, rfl⟩
      go_wp2_with fail
      go_ret
      exact ⟨ret_bool HE.out.symm, al_any _ _⟩
    · have HE := Lib.hid (show cright ⟨false, p, n, s, m, c⟩ = false by
        simp [cright]; intro h1 h2 h3 h4; exact absurd ⟨h1, h2, h3, h4⟩ ha)
      generalize cright _ = res at HE ⊢
      cases p <;> cases n <;> cases m <;> simp at ha
      all_goals
        go_enter Tryz.func61, Tryz.ntmps61
        go_wp2_with fail
        go_ret
        exact ⟨ret_bool HE.out.symm, al_any _ _⟩
set_option maxRecDepth 100000 in
set_option maxHeartbeats 8000000 in
theorem rright_any (s : S) (ad : Option Addr) (k : Nat) (w : World) (h : CelsIn w (.slice ad s.cs.length k) s.cs) (h8 : Sound s.cs) (hl : s.cs.length < 1000000000) :
    Calls Tryz.prog 26 #[.agg #[.int .i64 s.rows, .int .i64 s.cols, .slice ad s.cs.length k, .int .i64 s.cur, .bool s.lk, .bool s.ins]] w fun e w' => e = .returned (.bool (sright s)) ∧ Below w.heap.size w w' := by
  obtain ⟨r, c, cs, cur, lk, ins⟩ := s
  simp only at h h8 hl ⊢
  have HZ := Lib.hid fun W => rsized_any r c W
  cases hz : sized r c with
  | false =>
    rw [hz] at HZ
    have HE := Lib.hid (show sright ⟨r, c, cs, cur, lk, ins⟩ = false by simp [sright, hz])
    generalize sright _ = res at HE ⊢
    clear h h8
    go_enter Tryz.func26, Tryz.ntmps26
    go_wp2_with fail
    with_reducible refine (HZ.out _).mono ?_
    rintro e w1 ⟨rfl, rfl⟩
    go_wp2_with fail
    go_ret
    exact ⟨ret_bool HE.out.symm, al_any _ _⟩
  | true =>
    rw [hz] at HZ
    obtain ⟨z1, z2, z3, z4, z5⟩ := sized_le hz
    have hw : wrap64 (r * c) = r * c := by
      have : 0 ≤ r * c := Int.mul_nonneg (by omega) (by omega)
      unfold wrap64; omega
    clear z1 z2 z3 z4 z5
    by_cases hq : (cs.length : Int) = r * c
    · have hqb : ((cs.length : Int) != r * c) = false := by simp [hq]
      by_cases h0 : cur < 0
      · clear h h8
        have HE := Lib.hid (show sright ⟨r, c, cs, cur, lk, ins⟩ = false by
          cases hs : sright ⟨r, c, cs, cur, lk, ins⟩ with
          | false => rfl
          | true => have := sright_parts hs; simp only at this; omega)
        generalize sright _ = res at HE ⊢
        clear hq hz
        go_enter Tryz.func26, Tryz.ntmps26
        go_wp2_with fail
        with_reducible refine (HZ.out _).mono ?_
        rintro e w1 ⟨rfl, rfl⟩
        go_wp2_with fail
        go_ret
        exact ⟨ret_bool HE.out.symm, al_any _ _⟩
      · by_cases h1 : cur < (cs.length : Int)
        · have HE := Lib.hid (show sright ⟨r, c, cs, cur, lk, ins⟩ = cs.all cright by
            have g0 : 0 ≤ cur := by omega
            have g1 : cur < r * c := by omega
            simp [sright, hz, hq, g0, g1])
          generalize sright _ = res at HE ⊢
          have HB := Lib.hid (al_any w (.cells #[.int .i64 r, .int .i64 c, .slice ad cs.length k, .int .i64 cur, .bool lk, .bool ins] 24))
          have HA := Lib.hid (heap_alloc_new w (.cells #[.int .i64 r, .int .i64 c, .slice ad cs.length k, .int .i64 cur, .bool lk, .bool ins] 24))
          have HI := Lib.hid (h.below HB.out)
          have H8 := Lib.hid h8
          have HL := Lib.hid hl
          have h2 : ¬ ((cs.length : Int) ≤ cur) := by omega
          clear hq hz h h8 hl
          go_enter Tryz.func26, Tryz.ntmps26
          go_wp2_with fail
          with_reducible refine (HZ.out _).mono ?_
          rintro e w1 ⟨rfl, rfl⟩
          go_wp2_with fail
          clear h0 h1 h2 hqb hw
          generalize w.alloc _ = wc at *
          go_loopg [3] (cs.length + 1) (fun m i wr => ∃ q : Nat, q ≤ cs.length ∧ m = cs.length + 1 - q ∧ i = .int .i64 q ∧ Hid (Below wc.heap.size wc wr) ∧ Hid (∀ j, j < q → cright (cs.getD j noC) = true))
          case atStart => exact ⟨0, Nat.zero_le _, rfl, rfl, Lib.hid (Below.refl _ _), Lib.hid nofun⟩
          case round =>
            obtain ⟨q, hq, rfl, rfl, HR, HC⟩ := hrel
            have ew : IntKind.i64.wrap ((q : Int) + 1) = (q : Int) + 1 := by
              have := HL.out
              rw [IntWalk.i64_in] <;> omega
            obtain ⟨c0, c1, c2, c3, c4, c5⟩ := cells6 (blk HA.out HR.out)
            by_cases hlt : q < cs.length
            · obtain ⟨xf, xp, xn, xs, xm, xc, ex⟩ := c_eta (cs.getD q noC)
              obtain ⟨b1, o1, rfl, g0, g1, g2, g3, g4, g5⟩ := (HI.out.below HR.out).cells hlt ex
              have hi0 : (0 : Int) ≤ (q : Int) := by omega
              have hi1 : (q : Int) < (cs.length : Int) := by omega
              have h8q := sound_at H8.out q
              rw [ex] at h8q
              have HCC := Lib.hid fun W => rcell_any xf xp xn xs xm xc W h8q
              clear h8q
              go_wp2_with fail
              clear g0 g1 g2 g3 g4 g5 c0 c1 c2 c3 c4 c5
              cases hcc : cright ⟨xf, xp, xn, xs, xm, xc⟩ with
              | true =>
                rw [hcc] at HCC
                with_reducible refine (HCC.out _).mono ?_
                rintro e w2 ⟨rfl, hb⟩
                have HW2 := kept_hid HR hb
                clear hb HCC
                go_wp2_with fail
                go_roundg (cs.length + 1 - (q + 1))
                case measure => omega
                case rel =>
                  refine ⟨q + 1, by omega, rfl, rfl, HW2, Lib.hid fun j hj => ?_⟩
                  by_cases hjk : j = q
                  · subst hjk; rw [ex]; exact hcc
                  · exact HC.out j (by omega)
              | false =>
                rw [hcc] at HCC
                have HN := Lib.hid (show cs.all cright = false from not_all hlt (by rw [ex]; exact hcc))
                with_reducible refine (HCC.out _).mono ?_
                rintro e w2 ⟨rfl, hb⟩
                have HW2 := kept_hid HR hb
                clear hb HCC
                go_wp2_with fail
                go_ret
                exact ⟨ret_bool (by rw [HE.out, HN.out]), kept_trans HB.out HW2.out⟩
            · obtain rfl : q = cs.length := by omega
              have HT := Lib.hid (show cs.all cright = true from all_at HC.out)
              clear hlt
              have hn0 : ¬ (cs.length : Int) < (cs.length : Int) := by omega
              go_wp2_with fail
              go_ret
              exact ⟨ret_bool (by rw [HE.out, HT.out]), kept_trans HB.out HR.out⟩
        · clear h h8
          have HE := Lib.hid (show sright ⟨r, c, cs, cur, lk, ins⟩ = false by
            cases hs : sright ⟨r, c, cs, cur, lk, ins⟩ with
            | false => rfl
            | true => have := sright_parts hs; simp only at this; omega)
          generalize sright _ = res at HE ⊢
          have h2 : (cs.length : Int) ≤ cur := by omega
          clear hq hz
          go_enter Tryz.func26, Tryz.ntmps26
          go_wp2_with fail
          with_reducible refine (HZ.out _).mono ?_
          rintro e w1 ⟨rfl, rfl⟩
          go_wp2_with fail
          go_ret
          exact ⟨ret_bool HE.out.symm, al_any _ _⟩
    · have hqb : ((cs.length : Int) != r * c) = true := by simp [hq]
      clear h h8
      have HE := Lib.hid (show sright ⟨r, c, cs, cur, lk, ins⟩ = false by
        cases hs : sright ⟨r, c, cs, cur, lk, ins⟩ with
        | false => rfl
        | true => have := sright_parts hs; simp only at this; omega)
      generalize sright _ = res at HE ⊢
      clear hq hz
      go_enter Tryz.func26, Tryz.ntmps26
      go_wp2_with fail
      with_reducible refine (HZ.out _).mono ?_
      rintro e w1 ⟨rfl, rfl⟩
      go_wp2_with fail
      go_ret
      exact ⟨ret_bool HE.out.symm, al_any _ _⟩
set_option maxRecDepth 100000 in
set_option maxHeartbeats 8000000 in
theorem rfew_any (s : S) (ad : Option Addr) (k : Nat) (w : World) (h : CelsIn w (.slice ad s.cs.length k) s.cs) (h8 : Sound s.cs) :
    Calls Tryz.prog 7 #[.agg #[.int .i64 s.rows, .int .i64 s.cols, .slice ad s.cs.length k, .int .i64 s.cur, .bool s.lk, .bool s.ins]] w fun e w' => e = .returned (.bool (few s)) ∧ Below w.heap.size w w' := by
  have HR := Lib.hid fun W hb hl => rright_any s ad k W (h.below hb) h8 hl
  obtain ⟨r, c, cs, cur, lk, ins⟩ := s
  simp only at h h8 HR ⊢
  by_cases h2 : (cs.length : Int) ≤ 200
  · have HE := Lib.hid (show few ⟨r, c, cs, cur, lk, ins⟩ = sright ⟨r, c, cs, cur, lk, ins⟩ by
      unfold few; simp only; rw [show decide (cs.length ≤ 200) = true by simp; omega, Bool.true_and])
    generalize few _ = res at HE ⊢
    generalize sright _ = sr at HR HE
    have HLL := Lib.hid (show cs.length < 1000000000 by omega)
    clear h h8
    go_enter Tryz.func7, Tryz.ntmps7
    go_wp2_with fail
    with_reducible refine (HR.out _ (al_any _ _) HLL.out).mono ?_
    rintro e w1 ⟨rfl, hb⟩
    have HK := Lib.hid (kept_trans (al_any w _) hb)
    clear hb
    go_wp2_with fail
    go_ret
    exact ⟨ret_bool HE.out.symm, HK.out⟩
  · have HE := Lib.hid (show few ⟨r, c, cs, cur, lk, ins⟩ = false by
      unfold few; simp only; rw [show decide (cs.length ≤ 200) = false by simp; omega, Bool.false_and])
    generalize few _ = res at HE ⊢
    clear h h8 HR
    go_enter Tryz.func7, Tryz.ntmps7
    go_wp2_with fail
    go_ret
    exact ⟨ret_bool HE.out.symm, al_any _ _⟩
end Grd
end Go.Proofs.YtpdlpmbjhopnnaaGreatDoor
/- The document's Same of screens. -/
namespace Go.Proofs.YtpdlpmbjhopnnaaGreatDoor
open Go.RowKit Sha Six Apd Cut Err
set_option linter.unusedVariables false
namespace Grd
set_option maxRecDepth 100000 in
set_option maxHeartbeats 8000000 in
theorem rsame_any (r c cur : Int) (lk ins : Bool) (a1 : Option Addr) (n1 k1 : Nat) (a2 : Option Addr) (n2 k2 : Nat) (xs ys : List C) (w : World) (h1 : CelsIn w (.slice a1 n1 k1) xs) (h2 : CelsIn w (.slice a2 n2 k2) ys) (hl : xs.length < 1000000000) :
    Calls Tryz.prog 19 #[.agg #[.int .i64 r, .int .i64 c, .slice a1 n1 k1, .int .i64 cur, .bool lk, .bool ins], .agg #[.int .i64 r, .int .i64 c, .slice a2 n2 k2, .int .i64 cur, .bool lk, .bool ins]] w fun e w' => e = .returned (.bool (decide (xs = ys))) ∧ Below w.heap.size w w' := by
  obtain rfl := h1.len
  obtain rfl := h2.len
  have HB := Lib.hid (kept_trans (al_any w (.cells #[.int .i64 r, .int .i64 c, .slice a1 xs.length k1, .int .i64 cur, .bool lk, .bool ins] 24)) (al_any _ (.cells #[.int .i64 r, .int .i64 c, .slice a2 ys.length k2, .int .i64 cur, .bool lk, .bool ins] 24)))
  have HX := Lib.hid (heap_alloc2_old w (.cells #[.int .i64 r, .int .i64 c, .slice a1 xs.length k1, .int .i64 cur, .bool lk, .bool ins] 24) (.cells #[.int .i64 r, .int .i64 c, .slice a2 ys.length k2, .int .i64 cur, .bool lk, .bool ins] 24))
  have HY := Lib.hid (heap_alloc2_new w (.cells #[.int .i64 r, .int .i64 c, .slice a1 xs.length k1, .int .i64 cur, .bool lk, .bool ins] 24) (.cells #[.int .i64 r, .int .i64 c, .slice a2 ys.length k2, .int .i64 cur, .bool lk, .bool ins] 24))
  have H1 := Lib.hid (h1.below HB.out)
  have H2 := Lib.hid (h2.below HB.out)
  have HL := Lib.hid hl
  have e0 : ((r : Int) != r) = false := by simp
  have e1 : ((c : Int) != c) = false := by simp
  have e2 : ((cur : Int) != cur) = false := by simp
  have e3 : (lk != lk) = false := by simp
  have e4 : (ins != ins) = false := by simp
  clear h1 h2 hl
  by_cases hlen : xs.length = ys.length
  · have hq : ((xs.length : Int) != (ys.length : Int)) = false := by simp [hlen]
    have HLEN := Lib.hid hlen
    clear hlen
    go_enter Tryz.func19, Tryz.ntmps19
    go_upto_region 1 with (fail)
    generalize (w.alloc _).alloc _ = w1 at *
    obtain ⟨c0, c1, c2, c3, c4, c5⟩ := cells6 HX.out
    obtain ⟨d0, d1, d2, d3, d4, d5⟩ := cells6 HY.out
    go_wp2_with fail
    clear e0 e1 e2 e3 e4 hq
    go_loopg [5] (xs.length + 1) (fun m i wr => ∃ k : Nat, k ≤ xs.length ∧ m = xs.length + 1 - k ∧ i = .int .i64 k ∧ Hid (∀ j, j < k → xs.getD j noC = ys.getD j noC) ∧ ∃ n, wr = w1.drewN n)
    case atStart => exact ⟨0, Nat.zero_le _, rfl, rfl, Lib.hid nofun, 0, rfl⟩
    case round =>
      obtain ⟨k, hk, rfl, rfl, HE, n, rfl⟩ := hrel
      have ew : IntKind.i64.wrap ((k : Int) + 1) = (k : Int) + 1 := by
        have := HL.out
        rw [IntWalk.i64_in] <;> omega
      by_cases hlt : k < xs.length
      · obtain ⟨xf, xp, xn, xs', xm, xc, ex⟩ := c_eta (xs.getD k noC)
        obtain ⟨yf, yp, yn, ys', ym, yc, ey⟩ := c_eta (ys.getD k noC)
        obtain ⟨b1, o1, rfl, g0, g1, g2, g3, g4, g5⟩ := H1.out.cells hlt ex
        obtain ⟨b2, o2, rfl, p0, p1, p2, p3, p4, p5⟩ := H2.out.cells (show k < ys.length by have := HLEN.out; omega) ey
        have hi0 : (0 : Int) ≤ (k : Int) := by omega
        have hi1 : (k : Int) < (xs.length : Int) := by omega
        have hi2 : (k : Int) < (ys.length : Int) := by have := HLEN.out; omega
        have HN := run_neqC ⟨xf, xp, xn, xs', xm, xc⟩ ⟨yf, yp, yn, ys', ym, yc⟩
        simp only at HN
        generalize hd : decide ((⟨xf, xp, xn, xs', xm, xc⟩ : C) = ⟨yf, yp, yn, ys', ym, yc⟩) = bd at HN
        cases bd with
        | true =>
          have HP := Lib.hid (show xs.getD k noC = ys.getD k noC by rw [ex, ey]; simpa using hd)
          clear hd
          go_wp2_with fail
          go_quiet (fail)
          go_wp2_with fail
          go_roundg (xs.length + 1 - (k + 1))
          case measure => omega
          case rel =>
            refine ⟨k + 1, by omega, rfl, by first | rfl | go_num, Lib.hid fun j hj => ?_, n + nq, by first | rfl | simp [World.drewN, Nat.add_assoc]⟩
            by_cases hjk : j = k
            · subst hjk; exact HP.out
            · exact HE.out j (by omega)
        | false =>
          have HF := Lib.hid (show decide (xs = ys) = false by
            simp only [decide_eq_false_iff_not] at hd ⊢
            intro e; apply hd; rw [← ex, ← ey, e])
          clear hd
          go_wp2_with fail
          go_quiet (fail)
          go_wp2_with fail
          go_ret
          refine ⟨by rw [HF.out]; rfl, kept_trans HB.out ?_⟩
          have := below_drewN w1.heap.size (n + nq) w1
          simpa [World.drewN, Nat.add_assoc] using this
      · obtain rfl : k = xs.length := by omega
        have HT := Lib.hid (show decide (xs = ys) = true by simp only [decide_eq_true_eq]; exact c_ext HLEN.out HE.out)
        clear hlt
        have hn0 : ¬ (xs.length : Int) < (xs.length : Int) := by omega
        go_wp2_with fail
        go_ret
        exact ⟨by rw [HT.out]; rfl, kept_trans HB.out (below_drewN _ _ _)⟩
  · have hq : ((xs.length : Int) != (ys.length : Int)) = true := by simp; omega
    have HF := Lib.hid (show decide (xs = ys) = false by simp only [decide_eq_false_iff_not]; intro e; exact hlen (by rw [e]))
    clear hlen
    go_enter Tryz.func19, Tryz.ntmps19
    go_wp2_with fail
    go_ret
    exact ⟨by rw [HF.out]; rfl, HB.out⟩
end Grd
end Go.Proofs.YtpdlpmbjhopnnaaGreatDoor
/- fits of package grid. -/
namespace Go.Proofs.YtpdlpmbjhopnnaaGreatDoor
open Go.RowKit Sha Six Cut Err Att
set_option linter.unusedVariables false
namespace Grd
set_option maxHeartbeats 1000000 in
theorem fits_any (r c : Int) (w : World) :
    Calls Tryz.prog 44 #[.int .i64 r, .int .i64 c] w fun e w' => e = .returned (.bool (sized r c)) ∧ w = w' := by
  by_cases h1 : 1 ≤ r
  · by_cases h2 : 1 ≤ c
    · have HE := Lib.hid (show sized r c = decide (r ≤ Int.tdiv 16383 c) by
        unfold sized
        simp only [h1, h2, decide_true, Bool.true_and]
        rw [Int.tdiv_eq_ediv_of_nonneg (by decide), decide_eq_decide]
        exact (Int.le_ediv_iff_mul_le (by omega)).symm)
      have HQ := Lib.hid (IntWalk.i64_quo' 16383 c (by omega))
      have hz : ¬ c = 0 := by omega
      generalize sized r c = res at HE ⊢
      generalize hk : Int.tdiv 16383 c = q at HE HQ
      go_enter Tryz.func44, Tryz.ntmps44
      go_wp2_with fail
      go_ret
      refine ⟨ret_bool ?_, rfl⟩
      rw [HE.out, show wrap64 q = q by have := HQ.out; rw [IntKind.wrap_i64] at this; unfold wrap64; exact this]
    · have HE := Lib.hid (show sized r c = false by unfold sized; simp [h2])
      generalize sized r c = res at HE ⊢
      go_enter Tryz.func44, Tryz.ntmps44
      go_wp2_with fail
      go_ret
      exact ⟨by rw [HE.out]; rfl, rfl⟩
  · have HE := Lib.hid (show sized r c = false by unfold sized; simp [h1])
    generalize sized r c = res at HE ⊢
    go_enter Tryz.func44, Tryz.ntmps44
    go_wp2_with fail
    go_ret
    exact ⟨by rw [HE.out]; rfl, rfl⟩
end Grd
end Go.Proofs.YtpdlpmbjhopnnaaGreatDoor
/- Clone of package slices, of cells; Copy of package grid, and the document's. -/
namespace Go.Proofs.YtpdlpmbjhopnnaaGreatDoor
open Go.RowKit Sha Six Apd Cut Err
set_option linter.unusedVariables false
namespace Grd
set_option maxRecDepth 100000 in
set_option maxHeartbeats 1000000 in
theorem clone_any (ad : Option Addr) (len cap : Nat) (cs : List C) (w : World) (hB : CelsIn w (.slice ad len cap) cs) (hl : cs.length < 100000000) :
    Calls Tryz.prog 118 #[.slice ad len cap] w fun e w' => ∃ v, e = .returned v ∧ OwnCels w' w.heap.size v cs ∧ Below w.heap.size w w' := by
  obtain rfl := hB.len
  cases ad with
  | none =>
    have hn : cs.length = 0 ∧ cap = 0 := by
      obtain ⟨_, _, e, _, hn⟩ := hB.form
      injection e with e1 e2 e3
      subst e1 e3
      exact hn rfl
    obtain ⟨h0, rfl⟩ := hn
    have hx : cs = [] := List.eq_nil_of_length_eq_zero h0
    subst hx
    clear hB hl h0
    have e0 := nil_eqC
    go_enter Tryz.func118, Tryz.ntmps118
    go_wp2
    go_ret
    exact ⟨_, rfl, World.ownsRow_nil _ _ _ _, Below.refl _ _⟩
  | some a =>
    have HS := Lib.hid (hB.below ((Below.refl w.heap.size w).alloc (Nat.le_refl _) (.cells #[] 64)))
    have HO := Lib.hid (World.ownsRow_lit (e := 64) (size := 6) w #[] 0 (Nat.le_refl _) (Nat.zero_le _) rfl)
    have HL := Lib.hid hl
    have HB := Lib.hid ((Below.refl w.heap.size w).alloc (Nat.le_refl _) (.cells #[] 64))
    clear hB hl
    have e0 := nil_neC
    go_enter Tryz.func118, Tryz.ntmps118
    go_wp2_with (at_builtin; refine wpList_mark ?_)
    refine Lib.hid ?_
    refine append_cels rfl (.tmp 5) (.tmp 6) rfl w.heap.size (.slice (some ⟨w.heap.size, 0, none⟩) 0 0) 0 [] rfl HO.out (some a) cs.length cap cs rfl HS.out (by have := HL.out; omega) HB.out.size ?_
    intro v' w' hown hgr
    have HR := Lib.hid (show OwnCels w' w.heap.size v' cs from by unfold OwnCels; simpa using hown)
    have HW := Lib.hid (HB.out.grown hgr HB.out.size (by intro k hk; simp [Value.ownBlock] at hk; omega))
    clear hown hgr HS HO HB HL
    obtain ⟨va, vc, rfl⟩ := HR.out.form
    go_wp2_with fail
    go_ret
    exact ⟨_, rfl, HR.out, HW.out⟩
set_option maxRecDepth 100000 in
set_option maxHeartbeats 4000000 in
theorem copy_any (s : S) (ad : Option Addr) (k : Nat) (w : World) (h : CelsIn w (.slice ad s.cs.length k) s.cs) (hl : s.cs.length < 100000000) :
    Calls Tryz.prog 88 #[.agg #[.int .i64 s.rows, .int .i64 s.cols, .slice ad s.cs.length k, .int .i64 s.cur, .bool s.lk, .bool s.ins]] w fun e w' => Copied w w' s e := by
  obtain ⟨r, c, cs, cur, lk, ins⟩ := s
  simp only at h hl ⊢
  have HB := Lib.hid (kept_trans (al_any w (.cells #[.int .i64 r, .int .i64 c, .slice ad cs.length k, .int .i64 cur, .bool lk, .bool ins] 24)) (al_any _ (.cells #[.int .i64 0, .int .i64 0, .slice none 0 0, .int .i64 0, .bool false, .bool false] 24)))
  have HX := Lib.hid (heap_alloc2_old w (.cells #[.int .i64 r, .int .i64 c, .slice ad cs.length k, .int .i64 cur, .bool lk, .bool ins] 24) (.cells #[.int .i64 0, .int .i64 0, .slice none 0 0, .int .i64 0, .bool false, .bool false] 24))
  have HY := Lib.hid (heap_alloc2_new w (.cells #[.int .i64 r, .int .i64 c, .slice ad cs.length k, .int .i64 cur, .bool lk, .bool ins] 24) (.cells #[.int .i64 0, .int .i64 0, .slice none 0 0, .int .i64 0, .bool false, .bool false] 24))
  have HC := Lib.hid (h.below HB.out)
  have HL := Lib.hid hl
  clear h hl
  go_enter Tryz.func88, Tryz.ntmps88
  go_wp2_with fail
  generalize (w.alloc _).alloc _ = w1 at *
  with_reducible refine (clone_any ad _ k cs w1 HC.out HL.out).mono ?_
  rintro e w2 ⟨v, rfl, ho, hb⟩
  obtain ⟨va, vc, rfl⟩ := ho.form
  have K2 := kept_hid HB hb
  have HO := Lib.hid (ho.mono HB.out.size)
  have HOG := Lib.hid (show ∀ g, (Value.slice va cs.length vc).ownBlock = some g → w.heap.size + 1 < g from fun g hg => by
    have h1 := own_ge ho g hg
    have h2 := there_lt HY.out
    omega)
  have X2 := Lib.hid (blk HX.out hb)
  have Y2 := Lib.hid (blk HY.out hb)
  clear ho hb HX HY HB HC HL
  obtain ⟨f0, f1, f2, f3, f4, f5⟩ := free6 X2.out
  obtain ⟨c0, c1, c2, c3, c4, c5⟩ := cells6 X2.out
  have X3 := Lib.hid (heap_setCell_same w2 w.heap.size 2 _ 24 (.slice va cs.length vc) X2.out)
  have Y3 := Lib.hid (blk_g Y2.out (gsetCell w2 w.heap.size 2 (.slice va cs.length vc)) (by intro e; injection e with e; omega))
  have G3 := Lib.hid (gsetCell w2 w.heap.size 2 (.slice va cs.length vc))
  have O3 := Lib.hid (show OwnCels (w2.setCell ⟨w.heap.size, 2, none⟩ (.slice va cs.length vc)) w.heap.size (.slice va cs.length vc) cs from HO.out.kept (gsetCell w2 w.heap.size 2 (.slice va cs.length vc)) (.inr (fun e => by have := HOG.out _ e; omega)))
  have K3 := Lib.hid (below_grown K2.out G3.out (Nat.le_refl _))
  go_upto_region 2 with (fail)
  clear f0 f1 f2 f3 f4 f5 c0 c1 c2 c3 c4 c5
  generalize w2.setCell _ _ = w3 at *
  obtain ⟨c0, c1, c2, c3, c4, c5⟩ := cells6 X3.out
  obtain ⟨f0, f1, f2, f3, f4, f5⟩ := free6 Y3.out
  obtain ⟨d0, d1, d2, d3, d4, d5⟩ := cells6 Y3.out
  have SF := Lib.hid (over6 w3 (w.heap.size + 1) _ _ _ _ _ _ _ (.int .i64 r) (.int .i64 c) (.slice va cs.length vc) (.int .i64 cur) (.bool lk) (.bool ins) Y3.out)
  go_wp2_with fail
  clear c0 c1 c2 c3 c4 c5 d0 d1 d2 d3 d4 d5 f0 f1 f2 f3 f4 f5
  generalize (((((w3.setCell _ _).setCell _ _).setCell _ _).setCell _ _).setCell _ _).setCell _ _ = w4 at *
  refine bodyPost_ret (v := .agg #[.int .i64 r, .int .i64 c, .slice va cs.length vc, .int .i64 cur, .bool lk, .bool ins]) (results_cell_row rfl _ _ (w.heap.size + 1) 24 _ (0, 0) _ rfl SF.out.1 Tryz.underlying24 rfl (by kernel_rfl)) rfl ?_
  exact ⟨va, vc, rfl, O3.out.kept SF.out.2 (.inr (fun e => by have := HOG.out _ e; omega)), below_grown K3.out SF.out.2 (by omega)⟩
end Grd
end Go.Proofs.YtpdlpmbjhopnnaaGreatDoor
/- Span of package grid; rows of numbers, of truths. -/
namespace Go.Proofs.YtpdlpmbjhopnnaaGreatDoor
open Go.RowKit Sha Six Apd Cut Err Att
set_option linter.unusedVariables false
namespace Grd
set_option maxRecDepth 100000 in
set_option maxHeartbeats 8000000 in
theorem span_any (r c : Int) (ad : Option Addr) (n k : Nat) (cur : Int) (lk ins : Bool) (a b : Nat) (w : World) (ha : a < n) (hb : b < n) (hn : n < 100000000) :
    Calls Tryz.prog 120 #[.agg #[.int .i64 r, .int .i64 c, .slice ad n k, .int .i64 cur, .bool lk, .bool ins], .int .i64 (a : Int), .int .i64 (b : Int)] w fun e w' => ∃ v, e = .returned v ∧ OwnInts w' w.heap.size v (span n a b) ∧ Below w.heap.size w w' := by
  have HS := Lib.hid fun W => size_any r c ad n k cur lk ins W
  have HO := Lib.hid fun W => on_any r c ad n k cur lk ins (b : Int) (-(a : Int)) W (by omega) (by omega) (IntWalk.i64_in _ (by omega)) (IntWalk.i64_in _ (by omega))
  have HB := Lib.hid (al_any w (.cells #[.int .i64 r, .int .i64 c, .slice ad n k, .int .i64 cur, .bool lk, .bool ins] 24))
  have HX := Lib.hid (heap_alloc_new w (.cells #[.int .i64 r, .int .i64 c, .slice ad n k, .int .i64 cur, .bool lk, .bool ins] 24))
  have HSL := Lib.hid (spanLen_pos (z := n) (by omega) (a : Int) (b : Int))
  have HLE := Lib.hid (show spanLen n a b = if on n b (-(a : Int)) = 0 then n else on n b (-(a : Int)) from rfl)
  generalize on n b (-(a : Int)) = q at HO HLE
  go_enter Tryz.func120, Tryz.ntmps120
  go_upto_region 1 with (fail)
  generalize w.alloc _ = w1 at *
  obtain ⟨c0, c1, c2, c3, c4, c5⟩ := cells6 HX.out
  go_wp2_with fail
  with_reducible refine (HO.out _).mono ?_
  rintro e w2 ⟨rfl, hb2⟩
  have K2 := kept_hid HB hb2
  have X2 := Lib.hid (blk HX.out hb2)
  clear hb2 HX HB HO c0 c1 c2 c3 c4 c5
  by_cases h0 : q = 0
  · subst h0
    obtain ⟨N, hN⟩ : ∃ N : Nat, N = n := ⟨_, rfl⟩
    have HNE := Lib.hid (show (n : Int) = (N : Int) by rw [hN])
    have HN := Lib.hid (show spanLen n a b = N ∧ N ≤ n from ⟨by rw [HLE.out, hN]; rfl, by omega⟩)
    clear hN
    obtain ⟨c0, c1, c2, c3, c4, c5⟩ := cells6 X2.out
    go_wp2_with fail
    with_reducible refine (HS.out _).mono ?_
    rintro e w3 ⟨rfl, hb3⟩
    have K3 := kept_hid K2 hb3
    have X3 := Lib.hid (blk X2.out hb3)
    clear hb3 X2 K2 c0 c1 c2 c3 c4 c5

    go_wp2_with (at_make; refine wpList_mark ?_)
    refine Lib.hid ?_
    obtain ⟨i0, hi, hz0, hz1, hz2⟩ := info_parts infoI
    refine wpList_make_full _ rfl _ _ 81 rfl w.heap.size 3 i0 _ 1 Tryz.underlying81 hi hz0 hz1 .i64 .i64 _ _ N rfl rfl HNE.out HNE.out ?_ ?_ ?_ ?_
    · rw [hz2]; have := HN.out; omega
    · have := HN.out; unfold maxLen; omega
    · exact K3.out.size
    intro w4 hown hgr
    have K4 := kept_hid K3 (belowg hgr)
    have X4 := Lib.hid (blk X3.out (belowg hgr))
    have O4 := Lib.hid (show OwnInts w4 w.heap.size (.slice (some ⟨w3.heap.size, 0, none⟩) N N) ((span n a b).take 0 ++ List.replicate (N - 0) 0) by
      unfold OwnInts
      simp only [List.take_zero, List.nil_append, Nat.sub_zero, List.length_replicate]
      rw [show (madeCells (Value.cells (.int .i64 0)) (N * 1)).toList = i64s (List.replicate N 0) by rw [Nat.mul_one]; show (madeCells #[.int .i64 0] N).toList = _; rw [toList_madeCells_one]; simp [i64s]] at hown
      exact hown)
    have HG := Lib.hid (there_lt X3.out)
    generalize w3.heap.size = g at *
    clear hown hgr K3 X3 hi hz0 hz1 hz2
    go_wp2_with fail
    have HSP := Lib.hid (fun i (h : i < N) => (show (span n a b).getD i 0 = on n a (i : Int) from span_getD (by rw [HN.out.1]; exact h)))
    have HSN := Lib.hid (show (span n a b).length = N by rw [span_length, HN.out.1])
    generalize hsp : span n a b = sp at O4 HSP HSN
    replace hsp := Lib.hid hsp
    go_loopg [9, 23] (N + 1) (fun m _ i wr => ∃ q : Nat, q ≤ N ∧ m = N + 1 - q ∧ i = .int .i64 q ∧ Hid (Below w.heap.size w wr) ∧ Hid (Below w4.heap.size w4 wr ∨ True) ∧ Hid (wr.heap[w.heap.size]? = some (.cells #[.int .i64 r, .int .i64 c, .slice ad n k, .int .i64 cur, .bool lk, .bool ins] 24 (0, 0))) ∧ Hid (OwnInts wr w.heap.size (.slice (some ⟨g, 0, none⟩) N N) (sp.take q ++ List.replicate (N - q) 0)))
    case atStart => exact ⟨0, Nat.zero_le _, rfl, rfl, K4, Lib.hid (.inr trivial), X4, O4⟩
    case round =>
      obtain ⟨q, hq, rfl, rfl, HK, _, HX, HW⟩ := hrel
      have ew : IntKind.i64.wrap ((q : Int) + 1) = (q : Int) + 1 := by
        have := HN.out
        rw [IntWalk.i64_in] <;> omega
      by_cases hlt : q < N
      · have HO := Lib.hid fun W => on_any r c ad n k cur lk ins (a : Int) (q : Int) W (by omega) (by omega) (IntWalk.i64_in _ (by omega)) (IntWalk.i64_in _ (by have := HN.out; omega))
        rw [← HSP.out q hlt] at HO
        have hi0 : (0 : Int) ≤ (q : Int) := by omega
        have hi1 : (q : Int) < (N : Int) := by omega
        obtain ⟨c0, c1, c2, c3, c4, c5⟩ := cells6 HX.out
        go_wp2_with fail
        with_reducible refine (HO.out _).mono ?_
        rintro e w5 ⟨rfl, hb⟩
        have K5 := kept_hid (Lib.hid (Below.refl wr.heap.size wr)) hb
        have X5 := Lib.hid (blk HX.out hb)
        have K6 := kept_hid HK hb
        have W5 := Lib.hid (HW.out.below hb)
        clear hb c0 c1 c2 c3 c4 c5 HX HW HK HO
        obtain ⟨g', hg', _, hgl, hcell, hfr⟩ := W5.out.cell (i := q) (by rw [fill_len HSN.out (by omega)]; exact hlt)
        injection hg' with hg'
        injection hg' with hg' _ _
        subst hg'
        rw [Nat.zero_add] at hcell hfr
        have SS := W5.out.set q (sp.getD q 0)
        rw [fill_set HSN.out hlt] at SS
        have W6 := Lib.hid SS.1
        have G6 := Lib.hid SS.2
        clear SS W5
        have X6 := Lib.hid (blk_g X5.out G6.out (by intro e; injection e with e; have := HG.out; omega))
        have K7 := Lib.hid (below_grown K6.out G6.out (Nat.le_of_lt HG.out))
        clear X5 K6 G6
        go_wp2_with fail
        clear hcell hfr
        go_roundg (N + 1 - (q + 1))
        case measure => omega
        case rel => exact ⟨q + 1, by omega, rfl, rfl, K7, Lib.hid (.inr trivial), X6, W6⟩
      · obtain rfl : q = N := by omega
        clear hlt
        have hn0 : ¬ (q : Int) < (q : Int) := by omega
        have W6 := Lib.hid (show OwnInts wr w.heap.size (.slice (some ⟨g, 0, none⟩) q q) sp from by
          have := HW.out
          rwa [Nat.sub_self, List.take_of_length_le (by rw [HSN.out]; exact Nat.le_refl _), List.replicate_zero, List.append_nil] at this)
        go_wp2_with fail
        go_ret
        exact ⟨_, rfl, by rw [hsp.out]; exact W6.out, HK.out⟩
  · have hz : ((q : Int) == 0) = false := by simp; omega
    obtain ⟨N, hN⟩ : ∃ N : Nat, N = q := ⟨_, rfl⟩
    have HNE := Lib.hid (show (q : Int) = (N : Int) by rw [hN])
    have HN := Lib.hid (show spanLen n a b = N ∧ N ≤ n from by
      have h1 := HLE.out
      rw [if_neg h0] at h1
      have h2 := HSL.out.2
      omega)
    clear hN h0
    go_wp2_with (at_make; refine wpList_mark ?_)
    refine Lib.hid ?_
    obtain ⟨i0, hi, hz0, hz1, hz2⟩ := info_parts infoI
    refine wpList_make_full _ rfl _ _ 81 rfl w.heap.size 3 i0 _ 1 Tryz.underlying81 hi hz0 hz1 .i64 .i64 _ _ N rfl rfl HNE.out HNE.out ?_ ?_ ?_ ?_
    · rw [hz2]; have := HN.out; omega
    · have := HN.out; unfold maxLen; omega
    · exact K2.out.size
    intro w4 hown hgr
    have K4 := kept_hid K2 (belowg hgr)
    have X4 := Lib.hid (blk X2.out (belowg hgr))
    have O4 := Lib.hid (show OwnInts w4 w.heap.size (.slice (some ⟨w2.heap.size, 0, none⟩) N N) ((span n a b).take 0 ++ List.replicate (N - 0) 0) by
      unfold OwnInts
      simp only [List.take_zero, List.nil_append, Nat.sub_zero, List.length_replicate]
      rw [show (madeCells (Value.cells (.int .i64 0)) (N * 1)).toList = i64s (List.replicate N 0) by rw [Nat.mul_one]; show (madeCells #[.int .i64 0] N).toList = _; rw [toList_madeCells_one]; simp [i64s]] at hown
      exact hown)
    have HG := Lib.hid (there_lt X2.out)
    generalize w2.heap.size = g at *
    clear hown hgr K2 X2 hi hz0 hz1 hz2
    go_wp2_with fail
    have HSP := Lib.hid (fun i (h : i < N) => (show (span n a b).getD i 0 = on n a (i : Int) from span_getD (by rw [HN.out.1]; exact h)))
    have HSN := Lib.hid (show (span n a b).length = N by rw [span_length, HN.out.1])
    generalize hsp : span n a b = sp at O4 HSP HSN
    replace hsp := Lib.hid hsp
    go_loopg [9, 23] (N + 1) (fun m _ i wr => ∃ q : Nat, q ≤ N ∧ m = N + 1 - q ∧ i = .int .i64 q ∧ Hid (Below w.heap.size w wr) ∧ Hid (Below w4.heap.size w4 wr ∨ True) ∧ Hid (wr.heap[w.heap.size]? = some (.cells #[.int .i64 r, .int .i64 c, .slice ad n k, .int .i64 cur, .bool lk, .bool ins] 24 (0, 0))) ∧ Hid (OwnInts wr w.heap.size (.slice (some ⟨g, 0, none⟩) N N) (sp.take q ++ List.replicate (N - q) 0)))
    case atStart => exact ⟨0, Nat.zero_le _, rfl, rfl, K4, Lib.hid (.inr trivial), X4, O4⟩
    case round =>
      obtain ⟨q, hq, rfl, rfl, HK, _, HX, HW⟩ := hrel
      have ew : IntKind.i64.wrap ((q : Int) + 1) = (q : Int) + 1 := by
        have := HN.out
        rw [IntWalk.i64_in] <;> omega
      by_cases hlt : q < N
      · have HO := Lib.hid fun W => on_any r c ad n k cur lk ins (a : Int) (q : Int) W (by omega) (by omega) (IntWalk.i64_in _ (by omega)) (IntWalk.i64_in _ (by have := HN.out; omega))
        rw [← HSP.out q hlt] at HO
        have hi0 : (0 : Int) ≤ (q : Int) := by omega
        have hi1 : (q : Int) < (N : Int) := by omega
        obtain ⟨c0, c1, c2, c3, c4, c5⟩ := cells6 HX.out
        go_wp2_with fail
        with_reducible refine (HO.out _).mono ?_
        rintro e w5 ⟨rfl, hb⟩
        have K5 := kept_hid (Lib.hid (Below.refl wr.heap.size wr)) hb
        have X5 := Lib.hid (blk HX.out hb)
        have K6 := kept_hid HK hb
        have W5 := Lib.hid (HW.out.below hb)
        clear hb c0 c1 c2 c3 c4 c5 HX HW HK HO
        obtain ⟨g', hg', _, hgl, hcell, hfr⟩ := W5.out.cell (i := q) (by rw [fill_len HSN.out (by omega)]; exact hlt)
        injection hg' with hg'
        injection hg' with hg' _ _
        subst hg'
        rw [Nat.zero_add] at hcell hfr
        have SS := W5.out.set q (sp.getD q 0)
        rw [fill_set HSN.out hlt] at SS
        have W6 := Lib.hid SS.1
        have G6 := Lib.hid SS.2
        clear SS W5
        have X6 := Lib.hid (blk_g X5.out G6.out (by intro e; injection e with e; have := HG.out; omega))
        have K7 := Lib.hid (below_grown K6.out G6.out (Nat.le_of_lt HG.out))
        clear X5 K6 G6
        go_wp2_with fail
        clear hcell hfr
        go_roundg (N + 1 - (q + 1))
        case measure => omega
        case rel => exact ⟨q + 1, by omega, rfl, rfl, K7, Lib.hid (.inr trivial), X6, W6⟩
      · obtain rfl : q = N := by omega
        clear hlt
        have hn0 : ¬ (q : Int) < (q : Int) := by omega
        have W6 := Lib.hid (show OwnInts wr w.heap.size (.slice (some ⟨g, 0, none⟩) q q) sp from by
          have := HW.out
          rwa [Nat.sub_self, List.take_of_length_le (by rw [HSN.out]; exact Nat.le_refl _), List.replicate_zero, List.append_nil] at this)
        go_wp2_with fail
        go_ret
        exact ⟨_, rfl, by rw [hsp.out]; exact W6.out, HK.out⟩
end Grd
end Go.Proofs.YtpdlpmbjhopnnaaGreatDoor
/- New of package grid. -/
namespace Go.Proofs.YtpdlpmbjhopnnaaGreatDoor
open Go.RowKit Sha Six Apd Cut Err Att
set_option linter.unusedVariables false
namespace Grd
set_option maxRecDepth 100000 in
set_option maxHeartbeats 4000000 in
theorem new_no (r c : Int) (w : World) (h : sized r c = false) :
    Calls Tryz.prog 17 #[.int .i64 r, .int .i64 c] w fun e w' => e = .returned (.tuple #[.agg #[.int .i64 0, .int .i64 0, .slice none 0 0, .int .i64 0, .bool false, .bool false], .iface 71 (.int .i64 1)]) ∧ Below w.heap.size w w' := by
  have HF := Lib.hid fun W => fits_any r c W
  rw [h] at HF
  clear h
  have HB := Lib.hid (al_any w (.cells #[.int .i64 0, .int .i64 0, .slice none 0 0, .int .i64 0, .bool false, .bool false] 24))
  have HX := Lib.hid (heap_alloc_new w (.cells #[.int .i64 0, .int .i64 0, .slice none 0 0, .int .i64 0, .bool false, .bool false] 24))
  go_enter Tryz.func17, Tryz.ntmps17
  go_upto_region 1 with (fail)
  generalize w.alloc _ = w1 at *
  go_wp2_with fail
  with_reducible refine (HF.out _).mono ?_
  rintro e w2 ⟨rfl, rfl⟩
  obtain ⟨c0, c1, c2, c3, c4, c5⟩ := cells6 HX.out
  obtain ⟨f0, f1, f2, f3, f4, f5⟩ := free6 HX.out
  have SF := Lib.hid (over6 w1 w.heap.size _ _ _ _ _ _ _ (.int .i64 0) (.int .i64 0) (.slice none 0 0) (.int .i64 0) (.bool false) (.bool false) HX.out)
  go_wp2_with fail
  clear c0 c1 c2 c3 c4 c5 f0 f1 f2 f3 f4 f5
  generalize (((((w1.setCell _ _).setCell _ _).setCell _ _).setCell _ _).setCell _ _).setCell _ _ = w4 at *
  exact bodyPost_ret (v := .tuple #[.agg #[.int .i64 0, .int .i64 0, .slice none 0 0, .int .i64 0, .bool false, .bool false], .iface 71 (.int .i64 1)]) (results_cell_row_tmp rfl _ _ _ w.heap.size _ rfl (run_loadVar_row _ w.heap.size 24 24 _ (0, 0) _ SF.out.1 Tryz.underlying24 rfl (by kernel_rfl)) (.iface 71 (.int .i64 1)) rfl) rfl ⟨rfl, below_grown HB.out SF.out.2 (Nat.le_refl _)⟩
set_option maxRecDepth 100000 in
set_option maxHeartbeats 4000000 in
theorem new_yes (r c : Int) (N : Nat) (w : World) (h : sized r c = true) (hN : r * c = (N : Int)) :
    Calls Tryz.prog 17 #[.int .i64 r, .int .i64 c] w fun e w' => ∃ g, e = .returned (.tuple #[.agg #[.int .i64 r, .int .i64 c, .slice (some ⟨g, 0, none⟩) N N, .int .i64 0, .bool false, .bool false], .nilIface]) ∧ OwnCels w' w.heap.size (.slice (some ⟨g, 0, none⟩) N N) (List.replicate N noC) ∧ Below w.heap.size w w' := by
  have HF := Lib.hid fun W => fits_any r c W
  rw [h] at HF
  obtain ⟨z1, z2, z3, z4, z5⟩ := sized_le h
  have hw : wrap64 (r * c) = r * c := by
    have : 0 ≤ r * c := Int.mul_nonneg (by omega) (by omega)
    unfold wrap64; omega
  rw [hN] at z3
  have HN := Lib.hid (show N ≤ 16383 by omega)
  have HNE := Lib.hid (hw.trans hN)
  clear h z1 z2 z3 z4 z5 hN
  have HB := Lib.hid (al_any w (.cells #[.int .i64 0, .int .i64 0, .slice none 0 0, .int .i64 0, .bool false, .bool false] 24))
  have HX := Lib.hid (heap_alloc_new w (.cells #[.int .i64 0, .int .i64 0, .slice none 0 0, .int .i64 0, .bool false, .bool false] 24))
  go_enter Tryz.func17, Tryz.ntmps17
  go_upto_region 1 with (fail)
  generalize w.alloc _ = w1 at *
  go_wp2_with fail
  with_reducible refine (HF.out _).mono ?_
  rintro e w2 ⟨rfl, rfl⟩
  go_wp2_with (at_make; refine wpList_mark ?_)
  refine Lib.hid ?_
  obtain ⟨i0, hi, hz0, hz1, hz2⟩ := info_parts infoC
  refine wpList_make_full _ rfl _ _ 22 rfl w.heap.size 64 i0 _ 6 Tryz.underlying22 hi hz0 hz1 .i64 .i64 _ _ N rfl rfl HNE.out HNE.out ?_ ?_ ?_ ?_
  · rw [hz2]; have := HN.out; omega
  · have := HN.out; unfold maxLen; omega
  · exact HB.out.size
  intro w4 hown hgr
  rw [made_cells] at hown
  have K4 := kept_hid HB (belowg hgr)
  have X4 := Lib.hid (blk HX.out (belowg hgr))
  have O4 := Lib.hid (show OwnCels w4 w.heap.size (.slice (some ⟨w1.heap.size, 0, none⟩) N N) (List.replicate N noC) from by
    unfold OwnCels; rw [List.length_replicate]; exact hown)
  have HG := Lib.hid (there_lt HX.out)
  generalize w1.heap.size = g at *
  clear hown hgr HX hi hz0 hz1 hz2 HB
  obtain ⟨c0, c1, c2, c3, c4, c5⟩ := cells6 X4.out
  obtain ⟨f0, f1, f2, f3, f4, f5⟩ := free6 X4.out
  have SF := Lib.hid (over6 w4 w.heap.size _ _ _ _ _ _ _ (.int .i64 r) (.int .i64 c) (.slice (some ⟨g, 0, none⟩) N N) (.int .i64 0) (.bool false) (.bool false) X4.out)
  go_wp2_with fail
  clear c0 c1 c2 c3 c4 c5 f0 f1 f2 f3 f4 f5
  generalize (((((w4.setCell _ _).setCell _ _).setCell _ _).setCell _ _).setCell _ _).setCell _ _ = w5 at *
  exact bodyPost_ret (v := .tuple #[.agg #[.int .i64 r, .int .i64 c, .slice (some ⟨g, 0, none⟩) N N, .int .i64 0, .bool false, .bool false], .nilIface]) (results_cell_row_tmp rfl _ _ _ w.heap.size _ rfl (run_loadVar_row _ w.heap.size 24 24 _ (0, 0) _ SF.out.1 Tryz.underlying24 rfl (by kernel_rfl)) .nilIface rfl) rfl ⟨g, rfl, O4.out.kept SF.out.2 (.inr (by simp [Value.ownBlock]; have := HG.out; omega)), below_grown K4.out SF.out.2 (Nat.le_refl _)⟩
end Grd
end Go.Proofs.YtpdlpmbjhopnnaaGreatDoor
