/- Cells of a screen in memory: each is six cells. -/
import Derived.Test.YtoacookbfpcncaaGrdSpec
import Derived.Test.YtoacookbfpcncaaBunBase
namespace Go.Proofs.Ytoacookbfpcncaa
open Go.RowKit Sha Six Apd Cut
namespace Grd
def ccells (o : C) : List Value := [.bool o.f, .bool o.p, .bool o.n, .int .i64 o.s, .bool o.m, .int .u8 (o.c : Int)]
def crow : List C → List Value
  | [] => []
  | o :: cs => ccells o ++ crow cs
theorem crow_len : ∀ cs : List C, (crow cs).length = cs.length * 6
  | [] => rfl
  | o :: cs => by simp only [crow, List.length_append, crow_len cs, List.length_cons]; show 6 + _ = _; omega
theorem crow_at : ∀ (cs : List C) (i j : Nat), i < cs.length → j < 6 → (crow cs)[i * 6 + j]? = (ccells (cs.getD i noC))[j]?
  | o :: cs, 0, j, _, hj => by
    rw [crow, List.getElem?_append_left (by simpa [ccells] using hj)]; simp
  | o :: cs, i + 1, j, hi, hj => by
    rw [crow, List.getElem?_append_right (by simp [ccells]; omega), show (i + 1) * 6 + j - (ccells o).length = i * 6 + j by simp [ccells]; omega, crow_at cs i j (by simpa using hi) hj]
    rfl
theorem crow_one : ∀ (cs : List C), ∀ u ∈ crow cs, u.oneCell' = true
  | [], u, h => by cases h
  | o :: cs, u, h => by
    rw [crow, List.mem_append] at h
    rcases h with h | h
    · simp only [ccells, List.mem_cons, List.not_mem_nil, or_false] at h
      rcases h with rfl | rfl | rfl | rfl | rfl | rfl <;> rfl
    · exact crow_one cs u h
theorem crow_append : ∀ (xs ys : List C), crow (xs ++ ys) = crow xs ++ crow ys
  | [], _ => rfl
  | y :: xs, ys => by rw [List.cons_append, crow, crow_append xs ys, crow, List.append_assoc]
theorem set6 (o : C) (l : List Value) (k : Nat) (v : Value) : (ccells o ++ l).set (k + 6) v = ccells o ++ l.set k v := rfl
/-- A cell that is stored, cell by cell. -/
theorem crow_set : ∀ (cs : List C) (i : Nat) (o : C), i < cs.length → crow (cs.set i o) = ((((((crow cs).set (i * 6) (.bool o.f)).set (i * 6 + 1) (.bool o.p)).set (i * 6 + 2) (.bool o.n)).set (i * 6 + 3) (.int .i64 o.s)).set (i * 6 + 4) (.bool o.m)).set (i * 6 + 5) (.int .u8 (o.c : Int))
  | x :: cs, 0, o, _ => rfl
  | x :: cs, i + 1, o, hi => by
    have ih := crow_set cs i o (by simpa using hi)
    rw [List.set_cons_succ, crow, ih, crow]
    rw [show (i + 1) * 6 = i * 6 + 6 by omega]
    rw [show i * 6 + 6 + 1 = i * 6 + 1 + 6 by omega, show i * 6 + 6 + 2 = i * 6 + 2 + 6 by omega, show i * 6 + 6 + 3 = i * 6 + 3 + 6 by omega, show i * 6 + 6 + 4 = i * 6 + 4 + 6 by omega, show i * 6 + 6 + 5 = i * 6 + 5 + 6 by omega]
    simp only [set6]
theorem crow_char : ∀ (cs : List C) (i c : Nat), i < cs.length → crow (cs.set i { cs.getD i noC with c := c }) = (crow cs).set (i * 6 + 5) (.int .u8 (c : Int))
  | x :: cs, 0, c, _ => rfl
  | x :: cs, i + 1, c, hi => by
    have ih := crow_char cs i c (by simpa using hi)
    rw [List.set_cons_succ, crow, show (x :: cs).getD (i + 1) noC = cs.getD i noC from rfl, ih, crow, show (i + 1) * 6 + 5 = i * 6 + 5 + 6 by omega, set6]
/-- v is a slice of the cells cs. -/
def CelsIn (w : World) (v : Value) (cs : List C) : Prop :=
  ∃ ad cap, v = .slice ad cs.length cap ∧ cs.length ≤ cap ∧ (ad = none → cs.length = 0 ∧ cap = 0) ∧
    (cs = [] ∨ ∃ b off, ad = some ⟨b, off, none⟩ ∧ ∀ i, i < cs.length → ∀ j u, (ccells (cs.getD i noC))[j]? = some u → w.cell? ⟨b, off + i * 6 + j, none⟩ = some u)
theorem cell_lt {w : World} {b o : Nat} {v : Value} (h : w.cell? ⟨b, o, none⟩ = some v) : b < w.heap.size := by
  rcases Nat.lt_or_ge b w.heap.size with h0 | h0
  · exact h0
  · simp [World.cell?, Array.getElem?_eq_none h0] at h
theorem CelsIn.below {w w' : World} {v : Value} {cs : List C} (h : CelsIn w v cs) (hb : Below w.heap.size w w') : CelsIn w' v cs := by
  obtain ⟨ad, cap, rfl, hcap, hn, hc⟩ := h
  refine ⟨ad, cap, rfl, hcap, hn, ?_⟩
  rcases hc with h0 | ⟨b, off, h1, h2⟩
  · exact .inl h0
  · exact .inr ⟨b, off, h1, fun i hi j u hu => (hb.cell (p := ⟨b, _, none⟩) (cell_lt (h2 i hi j u hu))).trans (h2 i hi j u hu)⟩
theorem CelsIn.form {w : World} {v : Value} {cs : List C} (h : CelsIn w v cs) : ∃ ad cap, v = .slice ad cs.length cap ∧ cs.length ≤ cap ∧ (ad = none → cs.length = 0 ∧ cap = 0) := by
  obtain ⟨ad, cap, rfl, hcap, hn, _⟩ := h
  exact ⟨ad, cap, rfl, hcap, hn⟩
theorem CelsIn.len {w : World} {n c : Nat} {ad : Option Addr} {cs : List C} (h : CelsIn w (.slice ad n c) cs) : n = cs.length := by
  obtain ⟨_, _, e, _⟩ := h.form
  injection e
/-- Cell i, cell by cell, as the walk spells it. -/
theorem CelsIn.cells {w : World} {n c : Nat} {ad : Option Addr} {cs : List C} (h : CelsIn w (.slice ad n c) cs) {i : Nat} (hi : i < cs.length) {f p m' n' : Bool} {s : Int} {ch : Nat} (ho : cs.getD i noC = ⟨f, p, n', s, m', ch⟩) :
    ∃ b off, ad = some ⟨b, off, none⟩ ∧ w.cell? ⟨b, off + i * 6, none⟩ = some (.bool f) ∧ w.cell? ⟨b, off + i * 6 + 1, none⟩ = some (.bool p) ∧ w.cell? ⟨b, off + i * 6 + 2, none⟩ = some (.bool n') ∧ w.cell? ⟨b, off + i * 6 + 3, none⟩ = some (.int .i64 s) ∧ w.cell? ⟨b, off + i * 6 + 4, none⟩ = some (.bool m') ∧ w.cell? ⟨b, off + i * 6 + 5, none⟩ = some (.int .u8 (ch : Int)) := by
  obtain ⟨ad2, cap2, e, _, _, hc⟩ := h
  injection e with e1 e2 e3
  subst e1 e2 e3
  rcases hc with h0 | ⟨b, off, h1, h2⟩
  · rw [h0] at hi; cases hi
  · have h3 := h2 i hi
    rw [ho] at h3
    exact ⟨b, off, h1, h3 0 _ rfl, h3 1 _ rfl, h3 2 _ rfl, h3 3 _ rfl, h3 4 _ rfl, h3 5 _ rfl⟩
theorem c_eta (o : C) : ∃ f p n s m c, o = ⟨f, p, n, s, m, c⟩ := ⟨_, _, _, _, _, _, rfl⟩
/-- v is a row of the call's own, of the cells cs. -/
def OwnCels (w : World) (base : Nat) (v : Value) (cs : List C) : Prop := w.ownsRow base 39 6 v cs.length (crow cs)
theorem OwnCels.to {w : World} {base : Nat} {v : Value} {cs : List C} (h : OwnCels w base v cs) : CelsIn w v cs := by
  obtain ⟨hl, hv⟩ := h
  rcases hv with ⟨rfl, h0⟩ | ⟨g, cap, cur, rfl, hg, hcur, h1, h2, h3, h4⟩
  · have : cs = [] := List.eq_nil_of_length_eq_zero h0
    subst this
    exact ⟨none, 0, rfl, Nat.le_refl _, fun _ => ⟨rfl, rfl⟩, .inl rfl⟩
  · refine ⟨_, _, rfl, h1, nofun, .inr ⟨g, 0, rfl, fun i hi j u hj => ?_⟩⟩
    have hj6 : j < 6 := by
      rcases Nat.lt_or_ge j 6 with h' | h'
      · exact h'
      · rw [List.getElem?_eq_none (by simp [ccells]; omega)] at hj; cases hj
    have k5 := (crow_at cs i j hi hj6).trans hj
    rw [← h4, List.getElem?_take_of_lt (by omega)] at k5
    rw [cell_of_row w g (0 + i * 6 + j) cur _ (0, 0) hcur, Nat.zero_add, ← Array.getElem?_toList]
    exact k5
theorem OwnCels.below {w w' : World} {base : Nat} {v : Value} {cs : List C} (h : OwnCels w base v cs) (hb : Below w.heap.size w w') : OwnCels w' base v cs := own_below h hb
theorem OwnCels.away {w w' : World} {base b : Nat} {v : Value} {cs : List C} (h : OwnCels w base v cs) (hg : w.grownBy w' (some b)) (hb : v.ownBlock ≠ some b) : OwnCels w' base v cs := World.ownsRow.kept h hg (.inr hb)
theorem OwnCels.mono {w : World} {b base : Nat} {v : Value} {cs : List C} (h : OwnCels w base v cs) (hb : b ≤ base) : OwnCels w b v cs := own_mono h hb
theorem OwnCels.form {w : World} {base : Nat} {v : Value} {cs : List C} (h : OwnCels w base v cs) : ∃ ad c, v = .slice ad cs.length c := own_form h
/-- Where an own row lies that isn't empty. -/
theorem OwnCels.at {w : World} {base : Nat} {v : Value} {cs : List C} (h : OwnCels w base v cs) (h0 : 0 < cs.length) : ∃ g c, v = .slice (some ⟨g, 0, none⟩) cs.length c ∧ base ≤ g ∧ g < w.heap.size ∧ cs.length ≤ c := by
  obtain ⟨hl, hv⟩ := h
  rcases hv with ⟨_, h1⟩ | ⟨g, cap, cur, rfl, hg, hcur, h1, _⟩
  · omega
  · exact ⟨g, cap, rfl, hg, there_lt hcur, h1⟩
/-- A cell is stored into an own row. -/
theorem OwnCels.set {w : World} {base g n c : Nat} {cs : List C} (h : OwnCels w base (.slice (some ⟨g, 0, none⟩) n c) cs) {i : Nat} (hi : i < cs.length) (o : C) :
    OwnCels ((((((w.setCell ⟨g, i * 6, none⟩ (.bool o.f)).setCell ⟨g, i * 6 + 1, none⟩ (.bool o.p)).setCell ⟨g, i * 6 + 2, none⟩ (.bool o.n)).setCell ⟨g, i * 6 + 3, none⟩ (.int .i64 o.s)).setCell ⟨g, i * 6 + 4, none⟩ (.bool o.m)).setCell ⟨g, i * 6 + 5, none⟩ (.int .u8 (o.c : Int))) base (.slice (some ⟨g, 0, none⟩) n c) (cs.set i o) ∧
    w.grownBy ((((((w.setCell ⟨g, i * 6, none⟩ (.bool o.f)).setCell ⟨g, i * 6 + 1, none⟩ (.bool o.p)).setCell ⟨g, i * 6 + 2, none⟩ (.bool o.n)).setCell ⟨g, i * 6 + 3, none⟩ (.int .i64 o.s)).setCell ⟨g, i * 6 + 4, none⟩ (.bool o.m)).setCell ⟨g, i * 6 + 5, none⟩ (.int .u8 (o.c : Int))) (some g) := by
  have hn : n = cs.length := by
    obtain ⟨_, _, e⟩ := h.form
    injection e
  subst hn
  unfold OwnCels at h ⊢
  rw [crow_set cs i o hi, List.length_set]
  obtain ⟨h, g0⟩ := World.ownsRow.stored h (i * 6) (.bool o.f)
  obtain ⟨h, g1⟩ := World.ownsRow.stored h (i * 6 + 1) (.bool o.p)
  obtain ⟨h, g2⟩ := World.ownsRow.stored h (i * 6 + 2) (.bool o.n)
  obtain ⟨h, g3⟩ := World.ownsRow.stored h (i * 6 + 3) (.int .i64 o.s)
  obtain ⟨h, g4⟩ := World.ownsRow.stored h (i * 6 + 4) (.bool o.m)
  obtain ⟨h, g5⟩ := World.ownsRow.stored h (i * 6 + 5) (.int .u8 (o.c : Int))
  exact ⟨h, gtrans g0 (gtrans g1 (gtrans g2 (gtrans g3 (gtrans g4 g5))))⟩
theorem OwnCels.setc {w : World} {base g n c : Nat} {cs : List C} (h : OwnCels w base (.slice (some ⟨g, 0, none⟩) n c) cs) {i : Nat} (hi : i < cs.length) (ch : Nat) :
    OwnCels (w.setCell ⟨g, i * 6 + 5, none⟩ (.int .u8 (ch : Int))) base (.slice (some ⟨g, 0, none⟩) n c) (cs.set i { cs.getD i noC with c := ch }) ∧ w.grownBy (w.setCell ⟨g, i * 6 + 5, none⟩ (.int .u8 (ch : Int))) (some g) := by
  have hn : n = cs.length := by
    obtain ⟨_, _, e⟩ := h.form
    injection e
  subst hn
  unfold OwnCels at h ⊢
  rw [crow_char cs i ch hi, List.length_set]
  exact World.ownsRow.stored h (i * 6 + 5) (.int .u8 (ch : Int))
/-- Where a cell of an own row lies. -/
theorem OwnCels.spot {w : World} {base g n c : Nat} {cs : List C} (h : OwnCels w base (.slice (some ⟨g, 0, none⟩) n c) cs) {i : Nat} (hi : i < cs.length) {f p m' n' : Bool} {s : Int} {ch : Nat} (ho : cs.getD i noC = ⟨f, p, n', s, m', ch⟩) :
    (w.cell? ⟨g, i * 6, none⟩ = some (.bool f) ∧ w.cell? ⟨g, i * 6 + 1, none⟩ = some (.bool p) ∧ w.cell? ⟨g, i * 6 + 2, none⟩ = some (.bool n') ∧ w.cell? ⟨g, i * 6 + 3, none⟩ = some (.int .i64 s) ∧ w.cell? ⟨g, i * 6 + 4, none⟩ = some (.bool m') ∧ w.cell? ⟨g, i * 6 + 5, none⟩ = some (.int .u8 (ch : Int))) ∧
    ∀ j, w.frozen? ⟨g, j, none⟩ = false := by
  obtain ⟨b, off, e, h0, h1, h2, h3, h4, h5⟩ := h.to.cells hi ho
  injection e with e
  injection e with e1 e2
  subst e1; subst e2
  simp only [Nat.zero_add] at h0 h1 h2 h3 h4 h5
  have hn : n = cs.length := by
    obtain ⟨_, _, e⟩ := h.form
    injection e
  subst hn
  have h' : w.ownsRow base 39 6 (.slice (some ⟨g, 0, none⟩) cs.length c) cs.length (crow cs) := h
  exact ⟨⟨h0, h1, h2, h3, h4, h5⟩, World.ownsRow.frozenAt h'⟩
/-- The zero cells of make. -/
theorem made_cells (n : Nat) : (madeCells (Value.cells (.agg #[.bool false, .bool false, .bool false, .int .i64 0, .bool false, .int .u8 0])) (n * 6)).toList = crow (List.replicate n noC) := by
  apply List.ext_getElem?
  intro k
  rcases Nat.lt_or_ge k (n * 6) with hk | hk
  · have e : k = k / 6 * 6 + k % 6 := by omega
    have h6 : k % 6 < 6 := Nat.mod_lt _ (by decide)
    have hq : k / 6 < n := by omega
    rw [show (crow (List.replicate n noC))[k]? = (ccells ((List.replicate n noC).getD (k / 6) noC))[k % 6]? by
      conv => lhs; rw [e]
      exact crow_at _ _ _ (by simpa using hq) h6]
    rw [show (List.replicate n noC).getD (k / 6) noC = noC by simp [List.getD_eq_getElem?_getD, hq]]
    simp only [madeCells, Value.cells, Array.toList_map, Array.toList_range, List.getElem?_map, List.getElem?_range hk, Option.map_some]
    rw [show (#[Value.bool false, .bool false, .bool false, .int .i64 0, .bool false, .int .u8 0] : Array Value).size = 6 from rfl]
    generalize k % 6 = r at h6
    have : r = 0 ∨ r = 1 ∨ r = 2 ∨ r = 3 ∨ r = 4 ∨ r = 5 := by omega
    rcases this with rfl | rfl | rfl | rfl | rfl | rfl <;> rfl
  · rw [List.getElem?_eq_none (by rw [Array.length_toList, size_madeCells]; exact hk), List.getElem?_eq_none (by rw [crow_len]; simpa using hk)]
/-- Cells whose characters are bytes. -/
def Sound (cs : List C) : Prop := ∀ o ∈ cs, o.c < 256
theorem sound_at {cs : List C} (h : Sound cs) (i : Nat) : (cs.getD i noC).c < 256 := by
  rcases Nat.lt_or_ge i cs.length with hi | hi
  · rw [List.getD_eq_getElem?_getD, List.getElem?_eq_getElem hi]; exact h _ (List.getElem_mem hi)
  · rw [List.getD_eq_getElem?_getD, List.getElem?_eq_none hi]; simp [noC]
theorem all_at {cs : List C} (h : ∀ i, i < cs.length → cright (cs.getD i noC) = true) : cs.all cright = true := by
  rw [List.all_eq_true]
  intro o ho
  obtain ⟨i, hi, rfl⟩ := List.getElem_of_mem ho
  have := h i hi
  rwa [List.getD_eq_getElem?_getD, List.getElem?_eq_getElem hi] at this
theorem not_all {cs : List C} {i : Nat} (hi : i < cs.length) (h : cright (cs.getD i noC) = false) : cs.all cright = false := by
  cases hA : cs.all cright with
  | false => rfl
  | true =>
    rw [List.all_eq_true] at hA
    rw [List.getD_eq_getElem?_getD, List.getElem?_eq_getElem hi] at h
    have := hA _ (List.getElem_mem hi)
    rw [show (some cs[i]).getD noC = cs[i] from rfl] at h
    rw [h] at this; cases this
end Grd
end Go.Proofs.Ytoacookbfpcncaa
