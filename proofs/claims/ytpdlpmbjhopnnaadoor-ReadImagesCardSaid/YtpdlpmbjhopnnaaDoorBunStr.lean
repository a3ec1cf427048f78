/- StrMore, StrMem in one text (by tools/bundle.py). -/
import Derived.Test.YtpdlpmbjhopnnaaDoorBunPlain
/- Plain: what is read are bytes; where what is wrong is told; a beginning has no more orders; lengths. -/
namespace Go.Proofs.YtpdlpmbjhopnnaaDoor
open Six
namespace Str
open Att Go.Proofs.YtpdlpmbjhopnnaaDoor.Ord
theorem oget_lt {ys : List Nat} {z : Nat} (h8 : ∀ y ∈ ys, y < 256) : (∀ x ∈ (oget ys z).1.t, x < 256) ∧ (oget ys z).1.c < 256 ∧ (oget ys z).1.t.length ≤ ys.length ∧ (oget ys z).2.1 ≤ ys.length := by
  cases ys with
  | nil => simp [oget, none_]
  | cons b r =>
    have hb := h8 b (by simp)
    unfold oget
    simp only
    by_cases hc : char b = true
    · rw [if_pos hc]
      exact ⟨fun x hx => h8 x ((List.takeWhile_sublist char).subset hx), by show (0:Nat) < 256; decide, (List.takeWhile_sublist char).length_le, (List.takeWhile_sublist char).length_le⟩
    · rw [if_neg hc]
      have hd : ∀ c r', r.drop 2 = c :: r' → c < 256 ∧ 3 ≤ r.length := fun c r' e => by
        have h1 : c ∈ r.drop 2 := by rw [e]; simp
        have h2 := congrArg List.length e
        simp only [List.length_drop, List.length_cons] at h2
        exact ⟨h8 c (List.mem_cons_of_mem _ (List.mem_of_mem_drop h1)), by omega⟩
      have ha : (Adr.aspec r z).2.1 = 0 → 2 ≤ r.length := fun hw => by
        obtain ⟨a, r', _, _, h3, _⟩ := Adr.put_aspec r z (fun y hy => h8 y (by simp [hy])) hw
        rw [h3]; simp
      repeat' split
      all_goals simp_all [none_]
      all_goals first | omega | skip
/-- Where what is wrong with an order is told: within the bytes. -/
theorem ords_where (z : Nat) : ∀ (f : Nat) (ys : List Nat) (at_ : Nat), (∀ y ∈ ys, y < 256) → at_ ≤ (ords z f at_ ys).2.2 ∧ (ords z f at_ ys).2.2 ≤ at_ + ys.length := by
  intro f
  induction f with
  | zero => intro ys at_ _; simp [ords]
  | succ f ih =>
    intro ys at_ h8
    cases ys with
    | nil => simp [ords]
    | cons y r =>
      obtain ⟨_, _, _, hl⟩ := oget_lt (z := z) h8
      have h8' : ∀ x ∈ (y :: r).drop (oget (y :: r) z).2.1, x < 256 := fun x hx => h8 x (List.mem_of_mem_drop hx)
      have hk := ih _ (at_ + (oget (y :: r) z).2.1) h8'
      rw [List.length_drop] at hk
      by_cases h1 : (oget (y :: r) z).2.2 = 0
      · by_cases h2 : (ords z f (at_ + (oget (y :: r) z).2.1) ((y :: r).drop (oget (y :: r) z).2.1)).2.1 = 0
        · simp only [ords, h1, h2, ne_eq, not_true_eq_false, if_false]
          omega
        · simp only [ords, h1, h2, ne_eq, not_true_eq_false, not_false_eq_true, if_false, if_true]
          omega
      · simp only [ords, h1, ne_eq, not_false_eq_true, if_true]
        omega
/-- What is read are sound orders. -/
theorem ords_sound (z : Nat) : ∀ (f : Nat) (ys : List Nat) (at_ : Nat), (∀ y ∈ ys, y < 256) → ∀ o ∈ (ords z f at_ ys).1, (∀ x ∈ o.t, x < 256) ∧ o.t.length ≤ ys.length ∧ o.c < 256 := by
  intro f
  induction f with
  | zero => intro ys at_ _; simp [ords]
  | succ f ih =>
    intro ys at_ h8
    cases ys with
    | nil => simp [ords]
    | cons y r =>
      obtain ⟨g1, g2, g3, _⟩ := oget_lt (z := z) h8
      have h8' : ∀ x ∈ (y :: r).drop (oget (y :: r) z).2.1, x < 256 := fun x hx => h8 x (List.mem_of_mem_drop hx)
      have hk := ih _ (at_ + (oget (y :: r) z).2.1) h8'
      by_cases h1 : (oget (y :: r) z).2.2 = 0
      · by_cases h2 : (ords z f (at_ + (oget (y :: r) z).2.1) ((y :: r).drop (oget (y :: r) z).2.1)).2.1 = 0
        · simp only [ords, h1, h2, ne_eq, not_true_eq_false, if_false]
          intro o ho
          rcases List.mem_cons.1 ho with rfl | ho
          · exact ⟨g1, g3, g2⟩
          · obtain ⟨k1, k2, k3⟩ := hk o ho
            rw [List.length_drop] at k2
            exact ⟨k1, by omega, k3⟩
        · simp only [ords, h1, h2, ne_eq, not_true_eq_false, not_false_eq_true, if_false, if_true]
          nofun
      · simp only [ords, h1, ne_eq, not_false_eq_true, if_true]
        nofun
/-- As many orders as bytes, at most. -/
theorem ords_few (z : Nat) : ∀ (f : Nat) (ys : List Nat) (at_ : Nat), (ords z f at_ ys).1.length ≤ f := by
  intro f
  induction f with
  | zero => intro ys at_; simp [ords]
  | succ f ih =>
    intro ys at_
    cases ys with
    | nil => simp [ords]
    | cons y r =>
      have hk := ih ((y :: r).drop (oget (y :: r) z).2.1) (at_ + (oget (y :: r) z).2.1)
      unfold ords
      split
      · simp
      · split
        · simp
        · simp only [List.length_cons]; omega
/-- A beginning of orders' bytes that are orders: no more of them. -/
theorem ords_prefix (z : Nat) (hz : z ≤ 16383) : ∀ (f' f : Nat) (ys' ys : List Nat) (at' at_ : Nat), (∀ y ∈ ys, y < 256) → ys' <+: ys → ys'.length ≤ f' → ys.length ≤ f → (ords z f' at' ys').2.1 = 0 → (ords z f at_ ys).2.1 = 0 →
    (ords z f' at' ys').1.length ≤ (ords z f at_ ys).1.length := by
  intro f'
  induction f' with
  | zero => intro f ys' ys at' at_ _ _ _ _ _ _; simp [ords]
  | succ f' ih =>
    intro f ys' ys at' at_ h8 hp hl' hl hw' hw
    cases ys' with
    | nil => simp [ords]
    | cons y' r' =>
      obtain ⟨s, hs⟩ := hp
      cases ys with
      | nil => simp at hs
      | cons y r =>
        cases f with
        | zero => simp at hl
        | succ f =>
          have h8' : ∀ x ∈ y' :: r', x < 256 := fun x hx => h8 x (by rw [← hs]; exact List.mem_append_left _ hx)
          by_cases h1 : (oget (y' :: r') z).2.2 = 0
          · obtain ⟨hw1, rest, he, htk, hend⟩ := oget_written h8' h1
            have hpos := obytes_pos hw1
            by_cases h2 : (oget (y :: r) z).2.2 = 0
            · by_cases h3 : (ords z f' (at' + (oget (y' :: r') z).2.1) ((y' :: r').drop (oget (y' :: r') z).2.1)).2.1 = 0
              · by_cases h4 : (ords z f (at_ + (oget (y :: r) z).2.1) ((y :: r).drop (oget (y :: r) z).2.1)).2.1 = 0
                · simp only [ords, h1, h2, h3, h4, ne_eq, not_true_eq_false, if_false, List.length_cons]
                  clear hw hw'
                  generalize hq : oget (y' :: r') z = q at *
                  by_cases hr : rest = []
                  · have hd : (y' :: r').drop q.2.1 = [] := by
                      rw [htk, he, hr]; simp
                    rw [hd]
                    cases f' <;> simp [ords]
                  · have e2 : oget (y :: r) z = (q.1, (obytes q.1 z).length, 0) := by
                      have := oget_put hw1 hz (r := rest ++ s) (fun hk x r'' e => by
                        cases rest with
                        | nil => exact absurd rfl hr
                        | cons x' rest' =>
                          injection e with e3 _
                          rw [← e3]; exact hend hk x' rest' rfl)
                      rw [← List.append_assoc, ← he, hs] at this
                      exact this
                    have hd1 : (y' :: r').drop q.2.1 = rest := by
                      rw [htk, he]; simp
                    have hd2 : (y :: r).drop (oget (y :: r) z).2.1 = rest ++ s := by
                      rw [e2, ← hs, he]; simp
                    rw [hd1] at h3 ⊢
                    rw [hd2] at h4 ⊢
                    have hlr := congrArg List.length he
                    have hls := congrArg List.length hs
                    simp only [List.length_append, List.length_cons] at hlr hls hl' hl
                    have := ih f rest (rest ++ s) (at' + q.2.1) (at_ + (oget (y :: r) z).2.1) (fun x hx => h8 x (by
                      rw [← hs, he]; simp only [List.mem_append] at hx ⊢; rcases hx with hx | hx
                      · exact .inl (.inr hx)
                      · exact .inr hx)) ⟨s, rfl⟩ (by omega) (by simp only [List.length_append]; omega) h3 h4
                    omega
                · simp [ords, h2, h4] at hw
              · simp [ords, h1, h3] at hw'
            · simp [ords, h2] at hw
          · simp [ords, h1] at hw'
/-- An order's bytes, by its kind. -/
def olen (o : O) : Nat := o.t.length + (if o.k = 2 then 2 else if o.k = 3 then 3 else if o.k = 4 then 1 else if o.k = 5 then 1 else if o.k = 6 then 4 else if o.k = 7 then 3 else 0)
theorem olen_right {o : O} {z : Nat} (h : wrong o z = 0) : (obytes o z).length = olen o ∧ 1 ≤ o.k ∧ o.k ≤ 7 := by
  rcases right_cases h with ⟨t, rfl, h1, h2⟩ | ⟨p, n, m, s, rfl, hs⟩ | ⟨a, rfl, ha⟩ | rfl | rfl | ⟨a, c, rfl, ha, hc⟩ | ⟨a, rfl, ha⟩ <;> simp [obytes, olen]
def olens (os : List O) : Nat := (os.map olen).sum
theorem obs_len (z : Nat) : ∀ (os : List O) (p : Bool) (i : Nat), (ow z p i os).1 = 0 → (obs z os).length = olens os ∧ ∀ o ∈ os, wrong o z = 0 := by
  intro os
  induction os with
  | nil => intro p i _; simp [obs, olens]
  | cons o os ih =>
    intro p i h
    by_cases hw : wrong o z = 0
    · by_cases hp : p = true ∧ o.k = 1
      · simp [ow, hw, hp] at h
      · simp only [ow, hw, ne_eq, not_true_eq_false, if_false] at h
        rw [if_neg hp] at h
        obtain ⟨h1, h2⟩ := ih _ _ h
        refine ⟨?_, fun o' ho => ?_⟩
        · simp only [obs, List.length_append, h1, olens, List.map_cons, List.sum_cons, (olen_right hw).1]
        · rcases List.mem_cons.1 ho with rfl | ho
          · exact hw
          · exact h2 o' ho
    · simp [ow, hw] at h
theorem obs_lt (z : Nat) (hz : z ≤ 16383) : ∀ (os : List O), (∀ o ∈ os, wrong o z = 0 ∧ (∀ x ∈ o.t, x < 256) ∧ o.c < 256) → ∀ x ∈ obs z os, x < 256 := by
  intro os
  induction os with
  | nil => intro _; nofun
  | cons o os ih =>
    intro h x hx
    obtain ⟨h1, h2, h3⟩ := h o (by simp)
    rcases List.mem_append.1 hx with hx | hx
    · exact obytes_lt h1 hz h2 h3 x hx
    · exact ih (fun o' ho => h o' (by simp [ho])) x hx
theorem obs_append (z : Nat) (xs ys : List O) : obs z (xs ++ ys) = obs z xs ++ obs z ys := by
  induction xs with
  | nil => rfl
  | cons o xs ih => simp [obs, ih]
end Str
end Go.Proofs.YtpdlpmbjhopnnaaDoor
/- Slices of orders in memory: each order is eight cells; its text is a row of its own. -/
namespace Go.Proofs.YtpdlpmbjhopnnaaDoor
open Go.RowKit Sha Six
namespace Str
open Go.Proofs.YtpdlpmbjhopnnaaDoor.Ord Cut
/-- The cells of an order whose text is the value tv. -/
def ocells (o : O) (tv : Value) : List Value := [.int .i64 o.k, tv, .bool o.p, .bool o.n, .int .i64 o.s, .bool o.m, .int .i64 o.a, .int .u8 (o.c : Int)]
/-- An order lies in block b from cell off on; its text lies at block base or behind. -/
def OrdAt (w : World) (base b off : Nat) (o : O) : Prop :=
  ∃ ta tn tc, (∀ j u, (ocells o (.slice ta tn tc))[j]? = some u → w.cell? ⟨b, off + j, none⟩ = some u) ∧ BytesIn w (.slice ta tn tc) o.t ∧ (ta = none → tn = 0 ∧ tc = 0) ∧ ∀ x, ta = some x → base ≤ x.block
/-- v is a slice of the orders os, all of it at block base or behind. -/
def OrdsIn (w : World) (base : Nat) (v : Value) (os : List O) : Prop :=
  ∃ ad cap, v = .slice ad os.length cap ∧ os.length ≤ cap ∧ (ad = none → os.length = 0 ∧ cap = 0) ∧
    (os = [] ∨ ∃ b off, ad = some ⟨b, off, none⟩ ∧ base ≤ b ∧ ∀ i, i < os.length → OrdAt w base b (off + i * 8) (os.getD i none_))
/-- Orders whose bytes are bytes, and whose texts are no longer than may be. -/
def Sound (os : List O) : Prop := ∀ o ∈ os, (∀ x ∈ o.t, x < 256) ∧ o.t.length < 1000000 ∧ o.c < 256
theorem cell_lt {w : World} {b o : Nat} {v : Value} (h : w.cell? ⟨b, o, none⟩ = some v) : b < w.heap.size := by
  rcases Nat.lt_or_ge b w.heap.size with h0 | h0
  · exact h0
  · simp [World.cell?, Array.getElem?_eq_none h0] at h
theorem bytes_keep {w w' : World} {base n c : Nat} {ad : Option Addr} {xs : List Nat} (h : BytesIn w (.slice ad n c) xs) (hb : ∀ x, ad = some x → base ≤ x.block)
    (hk : ∀ b o v, base ≤ b → w.cell? ⟨b, o, none⟩ = some v → w'.cell? ⟨b, o, none⟩ = some v) : BytesIn w' (.slice ad n c) xs := by
  obtain ⟨ad2, cap, hv, hcap, hc⟩ := h
  injection hv with h1 h2 h3
  subst h1 h2 h3
  refine ⟨_, _, rfl, hcap, ?_⟩
  rcases hc with h0 | ⟨g, off, rfl, hc⟩
  · exact .inl h0
  · exact .inr ⟨g, off, rfl, fun j hj => hk _ _ _ (hb _ rfl) (hc j hj)⟩
theorem OrdAt.keep {w w' : World} {base b off : Nat} {o : O} (h : OrdAt w base b off o) (hbb : base ≤ b) (hk : ∀ b o v, base ≤ b → w.cell? ⟨b, o, none⟩ = some v → w'.cell? ⟨b, o, none⟩ = some v) : OrdAt w' base b off o := by
  obtain ⟨ta, tn, tc, h1, h2, h3, h4⟩ := h
  exact ⟨ta, tn, tc, fun j u hu => hk _ _ _ hbb (h1 j u hu), bytes_keep h2 h4 hk, h3, h4⟩
theorem OrdsIn.keep {w w' : World} {base : Nat} {v : Value} {os : List O} (h : OrdsIn w base v os) (hk : ∀ b o v, base ≤ b → w.cell? ⟨b, o, none⟩ = some v → w'.cell? ⟨b, o, none⟩ = some v) : OrdsIn w' base v os := by
  obtain ⟨ad, cap, rfl, hcap, hn, hc⟩ := h
  refine ⟨ad, cap, rfl, hcap, hn, ?_⟩
  rcases hc with h0 | ⟨b, off, h1, h2, h3⟩
  · exact .inl h0
  · exact .inr ⟨b, off, h1, h2, fun i hi => (h3 i hi).keep h2 hk⟩
theorem OrdsIn.below {w w' : World} {base : Nat} {v : Value} {os : List O} (h : OrdsIn w base v os) (hb : Below w.heap.size w w') : OrdsIn w' base v os :=
  h.keep fun b o _ _ hu => (hb.cell (p := ⟨b, o, none⟩) (cell_lt hu)).trans hu
/-- What lies at base or behind stays where a block ahead of base changes. -/
theorem OrdsIn.grown {w w' : World} {base g : Nat} {v : Value} {os : List O} (h : OrdsIn w base v os) (hg : w.grownBy w' (some g)) (hgb : g < base) : OrdsIn w' base v os :=
  h.keep fun b o u hb hu => hg.cell (a := ⟨b, o, none⟩) hu (by intro e; injection e with e; simp only at e; omega)
theorem OrdAt.mono {w : World} {base base' b off : Nat} {o : O} (h : OrdAt w base b off o) (hb : base' ≤ base) : OrdAt w base' b off o := by
  obtain ⟨ta, tn, tc, h1, h2, h3, h4⟩ := h
  exact ⟨ta, tn, tc, h1, h2, h3, fun x hx => Nat.le_trans hb (h4 x hx)⟩
theorem OrdsIn.mono {w : World} {base base' : Nat} {v : Value} {os : List O} (h : OrdsIn w base v os) (hb : base' ≤ base) : OrdsIn w base' v os := by
  obtain ⟨ad, cap, rfl, hcap, hn, hc⟩ := h
  refine ⟨ad, cap, rfl, hcap, hn, ?_⟩
  rcases hc with h0 | ⟨b, off, h1, h2, h3⟩
  · exact .inl h0
  · exact .inr ⟨b, off, h1, Nat.le_trans hb h2, fun i hi => (h3 i hi).mono hb⟩
theorem ordsIn_nil (w : World) (base : Nat) : OrdsIn w base (.slice none 0 0) [] := ⟨none, 0, rfl, Nat.le_refl _, fun _ => ⟨rfl, rfl⟩, .inl rfl⟩
theorem ordsIn_zero {w : World} {base : Nat} {ad : Option Addr} {cap : Nat} (h : ad = none → cap = 0) : OrdsIn w base (.slice ad 0 cap) [] := ⟨ad, cap, rfl, Nat.zero_le _, fun h0 => ⟨rfl, h h0⟩, .inl rfl⟩
/-- The value's form. -/
theorem OrdsIn.form {w : World} {base : Nat} {v : Value} {os : List O} (h : OrdsIn w base v os) : ∃ ad cap, v = .slice ad os.length cap ∧ os.length ≤ cap ∧ (ad = none → os.length = 0 ∧ cap = 0) := by
  obtain ⟨ad, cap, rfl, hcap, hn, _⟩ := h
  exact ⟨ad, cap, rfl, hcap, hn⟩
/-- Order i: where its cells lie, and its text. -/
theorem OrdsIn.at {w : World} {base n c : Nat} {ad : Option Addr} {os : List O} (h : OrdsIn w base (.slice ad n c) os) {i : Nat} (hi : i < os.length) :
    ∃ b off ta tn tc, ad = some ⟨b, off, none⟩ ∧ (∀ j u, (ocells (os.getD i none_) (.slice ta tn tc))[j]? = some u → w.cell? ⟨b, off + i * 8 + j, none⟩ = some u) ∧ BytesIn w (.slice ta tn tc) (os.getD i none_).t ∧ (ta = none → tn = 0 ∧ tc = 0) := by
  obtain ⟨ad2, cap, hv, _, _, hc⟩ := h
  injection hv with h1 h2 h3
  subst h1 h2 h3
  rcases hc with h0 | ⟨b, off, h1, h2, h3⟩
  · rw [h0] at hi; cases hi
  · obtain ⟨ta, tn, tc, h4, h5, h6, _⟩ := h3 i hi
    exact ⟨b, off, ta, tn, tc, h1, h4, h5, h6⟩
theorem sound_at {os : List O} (h : Sound os) (i : Nat) : (∀ x ∈ (os.getD i none_).t, x < 256) ∧ (os.getD i none_).t.length < 1000000 ∧ (os.getD i none_).c < 256 := by
  rcases Nat.lt_or_ge i os.length with hi | hi
  · rw [List.getD_eq_getElem?_getD, List.getElem?_eq_getElem hi]; exact h _ (List.getElem_mem hi)
  · rw [List.getD_eq_getElem?_getD, List.getElem?_eq_none hi]; simp [none_]
/-- A row of the call's own whose cells are orders: the orders, one more. -/
theorem ordsIn_own {w : World} {base : Nat} {ad : Option Addr} {cap n : Nat} {t : TypeId} {us : List Value} {os : List O} (h : w.ownsRow base t 8 (.slice ad n cap) n us) (hn : n = os.length) (hcap : n ≤ cap)
    (hu : ∀ i, i < os.length → ∃ ta tn tc, (∀ j u, (ocells (os.getD i none_) (.slice ta tn tc))[j]? = some u → us[i * 8 + j]? = some u) ∧ BytesIn w (.slice ta tn tc) (os.getD i none_).t ∧ (ta = none → tn = 0 ∧ tc = 0) ∧ ∀ x, ta = some x → base ≤ x.block) : OrdsIn w base (.slice ad n cap) os := by
  subst hn
  obtain ⟨hlen, hv⟩ := h
  rcases hv with ⟨hv, h0⟩ | ⟨g, cap2, cur, hv, hg, hcur, h1, h2, h3, h4⟩
  · injection hv with e1 e2 e3
    have : os = [] := List.eq_nil_of_length_eq_zero h0
    subst this; subst e1; subst e3
    exact ordsIn_nil _ _
  · injection hv with e1 e2 e3
    subst e1; subst e3
    refine ⟨_, _, rfl, h1, nofun, .inr ⟨g, 0, rfl, hg, fun i hi => ?_⟩⟩
    obtain ⟨ta, tn, tc, k1, k2, k3, k4⟩ := hu i hi
    refine ⟨ta, tn, tc, fun j u hj => ?_, k2, k3, k4⟩
    have hj8 : j < 8 := by
      rcases Nat.lt_or_ge j 8 with h' | h'
      · exact h'
      · rw [List.getElem?_eq_none (by simp [ocells]; omega)] at hj; cases hj
    have k5 := k1 j u hj
    rw [← h4] at k5
    rw [List.getElem?_take_of_lt (by omega)] at k5
    rw [cell_of_row w g (0 + i * 8 + j) cur t (0, 0) hcur, Nat.zero_add, ← Array.getElem?_toList]
    exact k5
theorem OrdsIn.len {w : World} {base n c : Nat} {ad : Option Addr} {os : List O} (h : OrdsIn w base (.slice ad n c) os) : n = os.length := by
  obtain ⟨_, _, e, _⟩ := h.form
  injection e
/-- Order i, cell by cell, as the walk spells it. -/
theorem OrdsIn.cells {w : World} {base n c : Nat} {ad : Option Addr} {os : List O} (h : OrdsIn w base (.slice ad n c) os) {i : Nat} (hi : i < os.length) {k s a : Int} {t : List Nat} {p m q : Bool} {ch : Nat} (ho : os.getD i none_ = ⟨k, t, p, m, s, q, a, ch⟩) :
    ∃ b off ta tn tc, ad = some ⟨b, off, none⟩ ∧ w.cell? ⟨b, off + i * 8, none⟩ = some (.int .i64 k) ∧ w.cell? ⟨b, off + i * 8 + 1, none⟩ = some (.slice ta tn tc) ∧ w.cell? ⟨b, off + i * 8 + 2, none⟩ = some (.bool p) ∧ w.cell? ⟨b, off + i * 8 + 3, none⟩ = some (.bool m) ∧
      w.cell? ⟨b, off + i * 8 + 4, none⟩ = some (.int .i64 s) ∧ w.cell? ⟨b, off + i * 8 + 5, none⟩ = some (.bool q) ∧ w.cell? ⟨b, off + i * 8 + 6, none⟩ = some (.int .i64 a) ∧ w.cell? ⟨b, off + i * 8 + 7, none⟩ = some (.int .u8 (ch : Int)) ∧ BytesIn w (.slice ta tn tc) t ∧ (ta = none → tn = 0 ∧ tc = 0) := by
  obtain ⟨b, off, ta, tn, tc, h1, h2, h3, h4⟩ := h.at hi
  rw [ho] at h2 h3
  exact ⟨b, off, ta, tn, tc, h1, h2 0 _ rfl, h2 1 _ rfl, h2 2 _ rfl, h2 3 _ rfl, h2 4 _ rfl, h2 5 _ rfl, h2 6 _ rfl, h2 7 _ rfl, h3, h4⟩
/-- Order i's kind alone. -/
theorem OrdsIn.kind {w : World} {base n c b off : Nat} {os : List O} (h : OrdsIn w base (.slice (some ⟨b, off, none⟩) n c) os) {i : Nat} (hi : i < os.length) : w.cell? ⟨b, off + i * 8, none⟩ = some (.int .i64 (os.getD i none_).k) := by
  obtain ⟨b', off', ta, tn, tc, h1, h2, _, _⟩ := h.at hi
  injection h1 with h1
  injection h1 with h1 h3
  subst h1 h3
  exact h2 0 _ rfl
/-- An order by its parts. -/
theorem o_eta (o : O) : ∃ k t p m s q a ch, o = ⟨k, t, p, m, s, q, a, ch⟩ := ⟨_, _, _, _, _, _, _, _, rfl⟩
end Str
end Go.Proofs.YtpdlpmbjhopnnaaDoor
