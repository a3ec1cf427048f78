/- Slices of fields in memory: each field is two cells; its text is a row of its own. -/
import Derived.Test.YtpdlpmbjhopnnaaDoorInpSpec
namespace Go.Proofs.YtpdlpmbjhopnnaaDoor
open Go.RowKit Sha Six
namespace Inp
open Cut
/-- The cells of an field whose text is the value tv. -/
def fcells (o : F) (tv : Value) : List Value := [.int .i64 o.a, tv]
/-- An field lies in block b from cell off on; its text lies at block base or behind. -/
def FldAt (w : World) (base b off : Nat) (o : F) : Prop :=
  ∃ ta tn tc, (∀ j u, (fcells o (.slice ta tn tc))[j]? = some u → w.cell? ⟨b, off + j, none⟩ = some u) ∧ BytesIn w (.slice ta tn tc) o.t ∧ (ta = none → tn = 0 ∧ tc = 0) ∧ ∀ x, ta = some x → base ≤ x.block
/-- v is a slice of the fields os, all of it at block base or behind. -/
def FldsIn (w : World) (base : Nat) (v : Value) (os : List F) : Prop :=
  ∃ ad cap, v = .slice ad os.length cap ∧ os.length ≤ cap ∧ (ad = none → os.length = 0 ∧ cap = 0) ∧
    (os = [] ∨ ∃ b off, ad = some ⟨b, off, none⟩ ∧ base ≤ b ∧ ∀ i, i < os.length → FldAt w base b (off + i * 2) (os.getD i noneF))
/-- Orders whose bytes are bytes, and whose texts are no longer than may be. -/
def Sound (os : List F) : Prop := ∀ o ∈ os, (∀ x ∈ o.t, x < 256) ∧ o.t.length < 1000000
theorem cell_lt {w : World} {b o : Nat} {v : Value} (h : w.cell? ⟨b, o, none⟩ = some v) : b < w.heap.size := by
  rcases Nat.lt_or_ge b w.heap.size with h0 | h0
  · exact h0
  · simp [World.cell?, Array.getElem?_eq_none h0] at h
theorem bytes_keep {w w' : World} {base n c : Nat} {ad : Option Addr} {xs : List Nat} (h : BytesIn w (.slice ad n c) xs) (hb : ∀ x, ad = some x → base ≤ x.block)
    (hk : ∀ b o v, base ≤ b → w.cell? ⟨b, o, none⟩ = some v → w'.cell? ⟨b, o, none⟩ = some v) : BytesIn w' (.slice ad n c) xs := by
  obtain ⟨ad2, cap, hv, hcap, hc⟩ := h
  injection hv with h1 h2 h3
  subst h1 h2 h3
  refine ⟨_, _, rfl, hcap, ?_⟩
  rcases hc with h0 | ⟨g, off, rfl, hc⟩
  · exact .inl h0
  · exact .inr ⟨g, off, rfl, fun j hj => hk _ _ _ (hb _ rfl) (hc j hj)⟩
theorem FldAt.keep {w w' : World} {base b off : Nat} {o : F} (h : FldAt w base b off o) (hbb : base ≤ b) (hk : ∀ b o v, base ≤ b → w.cell? ⟨b, o, none⟩ = some v → w'.cell? ⟨b, o, none⟩ = some v) : FldAt w' base b off o := by
  obtain ⟨ta, tn, tc, h1, h2, h3, h4⟩ := h
  exact ⟨ta, tn, tc, fun j u hu => hk _ _ _ hbb (h1 j u hu), bytes_keep h2 h4 hk, h3, h4⟩
theorem FldsIn.keep {w w' : World} {base : Nat} {v : Value} {os : List F} (h : FldsIn w base v os) (hk : ∀ b o v, base ≤ b → w.cell? ⟨b, o, none⟩ = some v → w'.cell? ⟨b, o, none⟩ = some v) : FldsIn w' base v os := by
  obtain ⟨ad, cap, rfl, hcap, hn, hc⟩ := h
  refine ⟨ad, cap, rfl, hcap, hn, ?_⟩
  rcases hc with h0 | ⟨b, off, h1, h2, h3⟩
  · exact .inl h0
  · exact .inr ⟨b, off, h1, h2, fun i hi => (h3 i hi).keep h2 hk⟩
theorem FldsIn.below {w w' : World} {base : Nat} {v : Value} {os : List F} (h : FldsIn w base v os) (hb : Below w.heap.size w w') : FldsIn w' base v os :=
  h.keep fun b o _ _ hu => (hb.cell (p := ⟨b, o, none⟩) (cell_lt hu)).trans hu
/-- What lies at base or behind stays where a block ahead of base changes. -/
theorem FldsIn.grown {w w' : World} {base g : Nat} {v : Value} {os : List F} (h : FldsIn w base v os) (hg : w.grownBy w' (some g)) (hgb : g < base) : FldsIn w' base v os :=
  h.keep fun b o u hb hu => hg.cell (a := ⟨b, o, none⟩) hu (by intro e; injection e with e; simp only at e; omega)
theorem FldAt.mono {w : World} {base base' b off : Nat} {o : F} (h : FldAt w base b off o) (hb : base' ≤ base) : FldAt w base' b off o := by
  obtain ⟨ta, tn, tc, h1, h2, h3, h4⟩ := h
  exact ⟨ta, tn, tc, h1, h2, h3, fun x hx => Nat.le_trans hb (h4 x hx)⟩
theorem FldsIn.mono {w : World} {base base' : Nat} {v : Value} {os : List F} (h : FldsIn w base v os) (hb : base' ≤ base) : FldsIn w base' v os := by
  obtain ⟨ad, cap, rfl, hcap, hn, hc⟩ := h
  refine ⟨ad, cap, rfl, hcap, hn, ?_⟩
  rcases hc with h0 | ⟨b, off, h1, h2, h3⟩
  · exact .inl h0
  · exact .inr ⟨b, off, h1, Nat.le_trans hb h2, fun i hi => (h3 i hi).mono hb⟩
theorem fldsIn_nil (w : World) (base : Nat) : FldsIn w base (.slice none 0 0) [] := ⟨none, 0, rfl, Nat.le_refl _, fun _ => ⟨rfl, rfl⟩, .inl rfl⟩
theorem fldsIn_zero {w : World} {base : Nat} {ad : Option Addr} {cap : Nat} (h : ad = none → cap = 0) : FldsIn w base (.slice ad 0 cap) [] := ⟨ad, cap, rfl, Nat.zero_le _, fun h0 => ⟨rfl, h h0⟩, .inl rfl⟩
/-- The value's form. -/
theorem FldsIn.form {w : World} {base : Nat} {v : Value} {os : List F} (h : FldsIn w base v os) : ∃ ad cap, v = .slice ad os.length cap ∧ os.length ≤ cap ∧ (ad = none → os.length = 0 ∧ cap = 0) := by
  obtain ⟨ad, cap, rfl, hcap, hn, _⟩ := h
  exact ⟨ad, cap, rfl, hcap, hn⟩
/-- Field i: where its cells lie, and its text. -/
theorem FldsIn.at {w : World} {base n c : Nat} {ad : Option Addr} {os : List F} (h : FldsIn w base (.slice ad n c) os) {i : Nat} (hi : i < os.length) :
    ∃ b off ta tn tc, ad = some ⟨b, off, none⟩ ∧ (∀ j u, (fcells (os.getD i noneF) (.slice ta tn tc))[j]? = some u → w.cell? ⟨b, off + i * 2 + j, none⟩ = some u) ∧ BytesIn w (.slice ta tn tc) (os.getD i noneF).t ∧ (ta = none → tn = 0 ∧ tc = 0) := by
  obtain ⟨ad2, cap, hv, _, _, hc⟩ := h
  injection hv with h1 h2 h3
  subst h1 h2 h3
  rcases hc with h0 | ⟨b, off, h1, h2, h3⟩
  · rw [h0] at hi; cases hi
  · obtain ⟨ta, tn, tc, h4, h5, h6, _⟩ := h3 i hi
    exact ⟨b, off, ta, tn, tc, h1, h4, h5, h6⟩
theorem sound_at {os : List F} (h : Sound os) (i : Nat) : (∀ x ∈ (os.getD i noneF).t, x < 256) ∧ (os.getD i noneF).t.length < 1000000 := by
  rcases Nat.lt_or_ge i os.length with hi | hi
  · rw [List.getD_eq_getElem?_getD, List.getElem?_eq_getElem hi]; exact h _ (List.getElem_mem hi)
  · rw [List.getD_eq_getElem?_getD, List.getElem?_eq_none hi]; simp [noneF]
/-- A row of the call's own whose cells are fields: the fields, one more. -/
theorem fldsIn_own {w : World} {base : Nat} {ad : Option Addr} {cap n : Nat} {t : TypeId} {us : List Value} {os : List F} (h : w.ownsRow base t 2 (.slice ad n cap) n us) (hn : n = os.length) (hcap : n ≤ cap)
    (hu : ∀ i, i < os.length → ∃ ta tn tc, (∀ j u, (fcells (os.getD i noneF) (.slice ta tn tc))[j]? = some u → us[i * 2 + j]? = some u) ∧ BytesIn w (.slice ta tn tc) (os.getD i noneF).t ∧ (ta = none → tn = 0 ∧ tc = 0) ∧ ∀ x, ta = some x → base ≤ x.block) : FldsIn w base (.slice ad n cap) os := by
  subst hn
  obtain ⟨hlen, hv⟩ := h
  rcases hv with ⟨hv, h0⟩ | ⟨g, cap2, cur, hv, hg, hcur, h1, h2, h3, h4⟩
  · injection hv with e1 e2 e3
    have : os = [] := List.eq_nil_of_length_eq_zero h0
    subst this; subst e1; subst e3
    exact fldsIn_nil _ _
  · injection hv with e1 e2 e3
    subst e1; subst e3
    refine ⟨_, _, rfl, h1, nofun, .inr ⟨g, 0, rfl, hg, fun i hi => ?_⟩⟩
    obtain ⟨ta, tn, tc, k1, k2, k3, k4⟩ := hu i hi
    refine ⟨ta, tn, tc, fun j u hj => ?_, k2, k3, k4⟩
    have hj8 : j < 2 := by
      rcases Nat.lt_or_ge j 2 with h' | h'
      · exact h'
      · rw [List.getElem?_eq_none (by simp [fcells]; omega)] at hj; cases hj
    have k5 := k1 j u hj
    rw [← h4] at k5
    rw [List.getElem?_take_of_lt (by omega)] at k5
    rw [cell_of_row w g (0 + i * 2 + j) cur t (0, 0) hcur, Nat.zero_add, ← Array.getElem?_toList]
    exact k5
theorem FldsIn.len {w : World} {base n c : Nat} {ad : Option Addr} {os : List F} (h : FldsIn w base (.slice ad n c) os) : n = os.length := by
  obtain ⟨_, _, e, _⟩ := h.form
  injection e
/-- Field i, cell by cell, as the walk spells it. -/
theorem FldsIn.cells {w : World} {base n c : Nat} {ad : Option Addr} {os : List F} (h : FldsIn w base (.slice ad n c) os) {i : Nat} (hi : i < os.length) {a : Int} {t : List Nat} (ho : os.getD i noneF = ⟨a, t⟩) :
    ∃ b off ta tn tc, ad = some ⟨b, off, none⟩ ∧ w.cell? ⟨b, off + i * 2, none⟩ = some (.int .i64 a) ∧ w.cell? ⟨b, off + i * 2 + 1, none⟩ = some (.slice ta tn tc) ∧ BytesIn w (.slice ta tn tc) t ∧ (ta = none → tn = 0 ∧ tc = 0) := by
  obtain ⟨b, off, ta, tn, tc, h1, h2, h3, h4⟩ := h.at hi
  rw [ho] at h2 h3
  exact ⟨b, off, ta, tn, tc, h1, h2 0 _ rfl, h2 1 _ rfl, h3, h4⟩
theorem al2 (w : World) (x y : Obj) : Below w.heap.size w ((w.alloc x).alloc y) := ((Below.refl _ _).alloc (Nat.le_refl _) _).alloc (by simp) _
/-- A field by its parts. -/
theorem f_eta (o : F) : ∃ a t, o = ⟨a, t⟩ := ⟨_, _, rfl⟩
end Inp
end Go.Proofs.YtpdlpmbjhopnnaaDoor
