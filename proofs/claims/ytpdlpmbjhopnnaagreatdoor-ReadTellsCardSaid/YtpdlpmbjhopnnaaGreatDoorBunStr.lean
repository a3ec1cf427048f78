/- StrMore, StrMem, StrKin, StrKnd, StrBehind, StrPutW, StrWrite, StrRwrite in one text (by tools/bundle.py). -/
import Derived.Test.YtpdlpmbjhopnnaaGreatDoorBunPlain
import Derived.Test.YtpdlpmbjhopnnaaGreatDoorBunOrd
import Derived.Deep.RegionHeld3
import Derived.Deep.LoopGhost
import Derived.Deep.Cut
import Derived.Test.YtpdlpmbjhopnnaaGreatDoorBunRop
/- Plain: what is read are bytes; where what is wrong is told; a beginning has no more orders; lengths. -/
namespace Go.Proofs.YtpdlpmbjhopnnaaGreatDoor
open Six
namespace Str
open Att Go.Proofs.YtpdlpmbjhopnnaaGreatDoor.Ord
theorem oget_lt {ys : List Nat} {z : Nat} (h8 : ∀ y ∈ ys, y < 256) : (∀ x ∈ (oget ys z).1.t, x < 256) ∧ (oget ys z).1.c < 256 ∧ (oget ys z).1.t.length ≤ ys.length ∧ (oget ys z).2.1 ≤ ys.length := by
  cases ys with
  | nil => simp [oget, none_]
  | cons b r =>
    have hb := h8 b (by simp)
    unfold oget
    simp only
    by_cases hc : char b = true
    · rw [if_pos hc]
      exact ⟨fun x hx => h8 x ((List.takeWhile_sublist char).subset hx), by show (0:Nat) < 256; decide, (List.takeWhile_sublist char).length_le, (List.takeWhile_sublist char).length_le⟩
    · rw [if_neg hc]
      have hd : ∀ c r', r.drop 2 = c :: r' → c < 256 ∧ 3 ≤ r.length := fun c r' e => by
        have h1 : c ∈ r.drop 2 := by rw [e]; simp
        have h2 := congrArg List.length e
        simp only [List.length_drop, List.length_cons] at h2
        exact ⟨h8 c (List.mem_cons_of_mem _ (List.mem_of_mem_drop h1)), by omega⟩
      have ha : (Adr.aspec r z).2.1 = 0 → 2 ≤ r.length := fun hw => by
        obtain ⟨a, r', _, _, h3, _⟩ := Adr.put_aspec r z (fun y hy => h8 y (by simp [hy])) hw
        rw [h3]; simp
      repeat' split
      all_goals simp_all [none_]
      all_goals first | omega | skip
/-- Where what is wrong with an order is told: within the bytes. -/
theorem ords_where (z : Nat) : ∀ (f : Nat) (ys : List Nat) (at_ : Nat), (∀ y ∈ ys, y < 256) → at_ ≤ (ords z f at_ ys).2.2 ∧ (ords z f at_ ys).2.2 ≤ at_ + ys.length := by
  intro f
  induction f with
  | zero => intro ys at_ _; simp [ords]
  | succ f ih =>
    intro ys at_ h8
    cases ys with
    | nil => simp [ords]
    | cons y r =>
      obtain ⟨_, _, _, hl⟩ := oget_lt (z := z) h8
      have h8' : ∀ x ∈ (y :: r).drop (oget (y :: r) z).2.1, x < 256 := fun x hx => h8 x (List.mem_of_mem_drop hx)
      have hk := ih _ (at_ + (oget (y :: r) z).2.1) h8'
      rw [List.length_drop] at hk
      by_cases h1 : (oget (y :: r) z).2.2 = 0
      · by_cases h2 : (ords z f (at_ + (oget (y :: r) z).2.1) ((y :: r).drop (oget (y :: r) z).2.1)).2.1 = 0
        · simp only [ords, h1, h2, ne_eq, not_true_eq_false, if_false]
          omega
        · simp only [ords, h1, h2, ne_eq, not_true_eq_false, not_false_eq_true, if_false, if_true]
          omega
      · simp only [ords, h1, ne_eq, not_false_eq_true, if_true]
        omega
/-- What is read are sound orders. -/
theorem ords_sound (z : Nat) : ∀ (f : Nat) (ys : List Nat) (at_ : Nat), (∀ y ∈ ys, y < 256) → ∀ o ∈ (ords z f at_ ys).1, (∀ x ∈ o.t, x < 256) ∧ o.t.length ≤ ys.length ∧ o.c < 256 := by
  intro f
  induction f with
  | zero => intro ys at_ _; simp [ords]
  | succ f ih =>
    intro ys at_ h8
    cases ys with
    | nil => simp [ords]
    | cons y r =>
      obtain ⟨g1, g2, g3, _⟩ := oget_lt (z := z) h8
      have h8' : ∀ x ∈ (y :: r).drop (oget (y :: r) z).2.1, x < 256 := fun x hx => h8 x (List.mem_of_mem_drop hx)
      have hk := ih _ (at_ + (oget (y :: r) z).2.1) h8'
      by_cases h1 : (oget (y :: r) z).2.2 = 0
      · by_cases h2 : (ords z f (at_ + (oget (y :: r) z).2.1) ((y :: r).drop (oget (y :: r) z).2.1)).2.1 = 0
        · simp only [ords, h1, h2, ne_eq, not_true_eq_false, if_false]
          intro o ho
          rcases List.mem_cons.1 ho with rfl | ho
          · exact ⟨g1, g3, g2⟩
          · obtain ⟨k1, k2, k3⟩ := hk o ho
            rw [List.length_drop] at k2
            exact ⟨k1, by omega, k3⟩
        · simp only [ords, h1, h2, ne_eq, not_true_eq_false, not_false_eq_true, if_false, if_true]
          nofun
      · simp only [ords, h1, ne_eq, not_false_eq_true, if_true]
        nofun
/-- As many orders as bytes, at most. -/
theorem ords_few (z : Nat) : ∀ (f : Nat) (ys : List Nat) (at_ : Nat), (ords z f at_ ys).1.length ≤ f := by
  intro f
  induction f with
  | zero => intro ys at_; simp [ords]
  | succ f ih =>
    intro ys at_
    cases ys with
    | nil => simp [ords]
    | cons y r =>
      have hk := ih ((y :: r).drop (oget (y :: r) z).2.1) (at_ + (oget (y :: r) z).2.1)
      unfold ords
      split
      · simp
      · split
        · simp
        · simp only [List.length_cons]; omega
/-- A beginning of orders' bytes that are orders: no more of them. -/
theorem ords_prefix (z : Nat) (hz : z ≤ 16383) : ∀ (f' f : Nat) (ys' ys : List Nat) (at' at_ : Nat), (∀ y ∈ ys, y < 256) → ys' <+: ys → ys'.length ≤ f' → ys.length ≤ f → (ords z f' at' ys').2.1 = 0 → (ords z f at_ ys).2.1 = 0 →
    (ords z f' at' ys').1.length ≤ (ords z f at_ ys).1.length := by
  intro f'
  induction f' with
  | zero => intro f ys' ys at' at_ _ _ _ _ _ _; simp [ords]
  | succ f' ih =>
    intro f ys' ys at' at_ h8 hp hl' hl hw' hw
    cases ys' with
    | nil => simp [ords]
    | cons y' r' =>
      obtain ⟨s, hs⟩ := hp
      cases ys with
      | nil => simp at hs
      | cons y r =>
        cases f with
        | zero => simp at hl
        | succ f =>
          have h8' : ∀ x ∈ y' :: r', x < 256 := fun x hx => h8 x (by rw [← hs]; exact List.mem_append_left _ hx)
          by_cases h1 : (oget (y' :: r') z).2.2 = 0
          · obtain ⟨hw1, rest, he, htk, hend⟩ := oget_written h8' h1
            have hpos := obytes_pos hw1
            by_cases h2 : (oget (y :: r) z).2.2 = 0
            · by_cases h3 : (ords z f' (at' + (oget (y' :: r') z).2.1) ((y' :: r').drop (oget (y' :: r') z).2.1)).2.1 = 0
              · by_cases h4 : (ords z f (at_ + (oget (y :: r) z).2.1) ((y :: r).drop (oget (y :: r) z).2.1)).2.1 = 0
                · simp only [ords, h1, h2, h3, h4, ne_eq, not_true_eq_false, if_false, List.length_cons]
                  clear hw hw'
                  generalize hq : oget (y' :: r') z = q at *
                  by_cases hr : rest = []
                  · have hd : (y' :: r').drop q.2.1 = [] := by
                      rw [htk, he, hr]; simp
                    rw [hd]
                    cases f' <;> simp [ords]
                  · have e2 : oget (y :: r) z = (q.1, (obytes q.1 z).length, 0) := by
                      have := oget_put hw1 hz (r := rest ++ s) (fun hk x r'' e => by
                        cases rest with
                        | nil => exact absurd rfl hr
                        | cons x' rest' =>
                          injection e with e3 _
                          rw [← e3]; exact hend hk x' rest' rfl)
                      rw [← List.append_assoc, ← he, hs] at this
                      exact this
                    have hd1 : (y' :: r').drop q.2.1 = rest := by
                      rw [htk, he]; simp
                    have hd2 : (y :: r).drop (oget (y :: r) z).2.1 = rest ++ s := by
                      rw [e2, ← hs, he]; simp
                    rw [hd1] at h3 ⊢
                    rw [hd2] at h4 ⊢
                    have hlr := congrArg List.length he
                    have hls := congrArg List.length hs
                    simp only [List.length_append, List.length_cons] at hlr hls hl' hl
                    have := ih f rest (rest ++ s) (at' + q.2.1) (at_ + (oget (y :: r) z).2.1) (fun x hx => h8 x (by
                      rw [← hs, he]; simp only [List.mem_append] at hx ⊢; rcases hx with hx | hx
                      · exact .inl (.inr hx)
                      · exact .inr hx)) ⟨s, rfl⟩ (by omega) (by simp only [List.length_append]; omega) h3 h4
                    omega
                · simp [ords, h2, h4] at hw
              · simp [ords, h1, h3] at hw'
            · simp [ords, h2] at hw
          · simp [ords, h1] at hw'
/-- An order's bytes, by its kind. -/
def olen (o : O) : Nat := o.t.length + (if o.k = 2 then 2 else if o.k = 3 then 3 else if o.k = 4 then 1 else if o.k = 5 then 1 else if o.k = 6 then 4 else if o.k = 7 then 3 else 0)
theorem olen_right {o : O} {z : Nat} (h : wrong o z = 0) : (obytes o z).length = olen o ∧ 1 ≤ o.k ∧ o.k ≤ 7 := by
  rcases right_cases h with ⟨t, rfl, h1, h2⟩ | ⟨p, n, m, s, rfl, hs⟩ | ⟨a, rfl, ha⟩ | rfl | rfl | ⟨a, c, rfl, ha, hc⟩ | ⟨a, rfl, ha⟩ <;> simp [obytes, olen]
def olens (os : List O) : Nat := (os.map olen).sum
theorem obs_len (z : Nat) : ∀ (os : List O) (p : Bool) (i : Nat), (ow z p i os).1 = 0 → (obs z os).length = olens os ∧ ∀ o ∈ os, wrong o z = 0 := by
  intro os
  induction os with
  | nil => intro p i _; simp [obs, olens]
  | cons o os ih =>
    intro p i h
    by_cases hw : wrong o z = 0
    · by_cases hp : p = true ∧ o.k = 1
      · simp [ow, hw, hp] at h
      · simp only [ow, hw, ne_eq, not_true_eq_false, if_false] at h
        rw [if_neg hp] at h
        obtain ⟨h1, h2⟩ := ih _ _ h
        refine ⟨?_, fun o' ho => ?_⟩
        · simp only [obs, List.length_append, h1, olens, List.map_cons, List.sum_cons, (olen_right hw).1]
        · rcases List.mem_cons.1 ho with rfl | ho
          · exact hw
          · exact h2 o' ho
    · simp [ow, hw] at h
theorem obs_lt (z : Nat) (hz : z ≤ 16383) : ∀ (os : List O), (∀ o ∈ os, wrong o z = 0 ∧ (∀ x ∈ o.t, x < 256) ∧ o.c < 256) → ∀ x ∈ obs z os, x < 256 := by
  intro os
  induction os with
  | nil => intro _; nofun
  | cons o os ih =>
    intro h x hx
    obtain ⟨h1, h2, h3⟩ := h o (by simp)
    rcases List.mem_append.1 hx with hx | hx
    · exact obytes_lt h1 hz h2 h3 x hx
    · exact ih (fun o' ho => h o' (by simp [ho])) x hx
theorem obs_append (z : Nat) (xs ys : List O) : obs z (xs ++ ys) = obs z xs ++ obs z ys := by
  induction xs with
  | nil => rfl
  | cons o xs ih => simp [obs, ih]
end Str
end Go.Proofs.YtpdlpmbjhopnnaaGreatDoor
/- Slices of orders in memory: each order is eight cells; its text is a row of its own. -/
namespace Go.Proofs.YtpdlpmbjhopnnaaGreatDoor
open Go.RowKit Sha Six
namespace Str
open Go.Proofs.YtpdlpmbjhopnnaaGreatDoor.Ord Cut
/-- The cells of an order whose text is the value tv. -/
def ocells (o : O) (tv : Value) : List Value := [.int .i64 o.k, tv, .bool o.p, .bool o.n, .int .i64 o.s, .bool o.m, .int .i64 o.a, .int .u8 (o.c : Int)]
/-- An order lies in block b from cell off on; its text lies at block base or behind. -/
def OrdAt (w : World) (base b off : Nat) (o : O) : Prop :=
  ∃ ta tn tc, (∀ j u, (ocells o (.slice ta tn tc))[j]? = some u → w.cell? ⟨b, off + j, none⟩ = some u) ∧ BytesIn w (.slice ta tn tc) o.t ∧ (ta = none → tn = 0 ∧ tc = 0) ∧ ∀ x, ta = some x → base ≤ x.block
/-- v is a slice of the orders os, all of it at block base or behind. -/
def OrdsIn (w : World) (base : Nat) (v : Value) (os : List O) : Prop :=
  ∃ ad cap, v = .slice ad os.length cap ∧ os.length ≤ cap ∧ (ad = none → os.length = 0 ∧ cap = 0) ∧
    (os = [] ∨ ∃ b off, ad = some ⟨b, off, none⟩ ∧ base ≤ b ∧ ∀ i, i < os.length → OrdAt w base b (off + i * 8) (os.getD i none_))
/-- Orders whose bytes are bytes, and whose texts are no longer than may be. -/
def Sound (os : List O) : Prop := ∀ o ∈ os, (∀ x ∈ o.t, x < 256) ∧ o.t.length < 1000000 ∧ o.c < 256
theorem cell_lt {w : World} {b o : Nat} {v : Value} (h : w.cell? ⟨b, o, none⟩ = some v) : b < w.heap.size := by
  rcases Nat.lt_or_ge b w.heap.size with h0 | h0
  · exact h0
  · simp [World.cell?, Array.getElem?_eq_none h0] at h
theorem bytes_keep {w w' : World} {base n c : Nat} {ad : Option Addr} {xs : List Nat} (h : BytesIn w (.slice ad n c) xs) (hb : ∀ x, ad = some x → base ≤ x.block)
    (hk : ∀ b o v, base ≤ b → w.cell? ⟨b, o, none⟩ = some v → w'.cell? ⟨b, o, none⟩ = some v) : BytesIn w' (.slice ad n c) xs := by
  obtain ⟨ad2, cap, hv, hcap, hc⟩ := h
  injection hv with h1 h2 h3
  subst h1 h2 h3
  refine ⟨_, _, rfl, hcap, ?_⟩
  rcases hc with h0 | ⟨g, off, rfl, hc⟩
  · exact .inl h0
  · exact .inr ⟨g, off, rfl, fun j hj => hk _ _ _ (hb _ rfl) (hc j hj)⟩
theorem OrdAt.keep {w w' : World} {base b off : Nat} {o : O} (h : OrdAt w base b off o) (hbb : base ≤ b) (hk : ∀ b o v, base ≤ b → w.cell? ⟨b, o, none⟩ = some v → w'.cell? ⟨b, o, none⟩ = some v) : OrdAt w' base b off o := by
  obtain ⟨ta, tn, tc, h1, h2, h3, h4⟩ := h
  exact ⟨ta, tn, tc, fun j u hu => hk _ _ _ hbb (h1 j u hu), bytes_keep h2 h4 hk, h3, h4⟩
theorem OrdsIn.keep {w w' : World} {base : Nat} {v : Value} {os : List O} (h : OrdsIn w base v os) (hk : ∀ b o v, base ≤ b → w.cell? ⟨b, o, none⟩ = some v → w'.cell? ⟨b, o, none⟩ = some v) : OrdsIn w' base v os := by
  obtain ⟨ad, cap, rfl, hcap, hn, hc⟩ := h
  refine ⟨ad, cap, rfl, hcap, hn, ?_⟩
  rcases hc with h0 | ⟨b, off, h1, h2, h3⟩
  · exact .inl h0
  · exact .inr ⟨b, off, h1, h2, fun i hi => (h3 i hi).keep h2 hk⟩
theorem OrdsIn.below {w w' : World} {base : Nat} {v : Value} {os : List O} (h : OrdsIn w base v os) (hb : Below w.heap.size w w') : OrdsIn w' base v os :=
  h.keep fun b o _ _ hu => (hb.cell (p := ⟨b, o, none⟩) (cell_lt hu)).trans hu
/-- What lies at base or behind stays where a block ahead of base changes. -/
theorem OrdsIn.grown {w w' : World} {base g : Nat} {v : Value} {os : List O} (h : OrdsIn w base v os) (hg : w.grownBy w' (some g)) (hgb : g < base) : OrdsIn w' base v os :=
  h.keep fun b o u hb hu => hg.cell (a := ⟨b, o, none⟩) hu (by intro e; injection e with e; simp only at e; omega)
theorem OrdAt.mono {w : World} {base base' b off : Nat} {o : O} (h : OrdAt w base b off o) (hb : base' ≤ base) : OrdAt w base' b off o := by
  obtain ⟨ta, tn, tc, h1, h2, h3, h4⟩ := h
  exact ⟨ta, tn, tc, h1, h2, h3, fun x hx => Nat.le_trans hb (h4 x hx)⟩
theorem OrdsIn.mono {w : World} {base base' : Nat} {v : Value} {os : List O} (h : OrdsIn w base v os) (hb : base' ≤ base) : OrdsIn w base' v os := by
  obtain ⟨ad, cap, rfl, hcap, hn, hc⟩ := h
  refine ⟨ad, cap, rfl, hcap, hn, ?_⟩
  rcases hc with h0 | ⟨b, off, h1, h2, h3⟩
  · exact .inl h0
  · exact .inr ⟨b, off, h1, Nat.le_trans hb h2, fun i hi => (h3 i hi).mono hb⟩
theorem ordsIn_nil (w : World) (base : Nat) : OrdsIn w base (.slice none 0 0) [] := ⟨none, 0, rfl, Nat.le_refl _, fun _ => ⟨rfl, rfl⟩, .inl rfl⟩
theorem ordsIn_zero {w : World} {base : Nat} {ad : Option Addr} {cap : Nat} (h : ad = none → cap = 0) : OrdsIn w base (.slice ad 0 cap) [] := ⟨ad, cap, rfl, Nat.zero_le _, fun h0 => ⟨rfl, h h0⟩, .inl rfl⟩
/-- The value's form. -/
theorem OrdsIn.form {w : World} {base : Nat} {v : Value} {os : List O} (h : OrdsIn w base v os) : ∃ ad cap, v = .slice ad os.length cap ∧ os.length ≤ cap ∧ (ad = none → os.length = 0 ∧ cap = 0) := by
  obtain ⟨ad, cap, rfl, hcap, hn, _⟩ := h
  exact ⟨ad, cap, rfl, hcap, hn⟩
/-- Order i: where its cells lie, and its text. -/
theorem OrdsIn.at {w : World} {base n c : Nat} {ad : Option Addr} {os : List O} (h : OrdsIn w base (.slice ad n c) os) {i : Nat} (hi : i < os.length) :
    ∃ b off ta tn tc, ad = some ⟨b, off, none⟩ ∧ (∀ j u, (ocells (os.getD i none_) (.slice ta tn tc))[j]? = some u → w.cell? ⟨b, off + i * 8 + j, none⟩ = some u) ∧ BytesIn w (.slice ta tn tc) (os.getD i none_).t ∧ (ta = none → tn = 0 ∧ tc = 0) := by
  obtain ⟨ad2, cap, hv, _, _, hc⟩ := h
  injection hv with h1 h2 h3
  subst h1 h2 h3
  rcases hc with h0 | ⟨b, off, h1, h2, h3⟩
  · rw [h0] at hi; cases hi
  · obtain ⟨ta, tn, tc, h4, h5, h6, _⟩ := h3 i hi
    exact ⟨b, off, ta, tn, tc, h1, h4, h5, h6⟩
theorem sound_at {os : List O} (h : Sound os) (i : Nat) : (∀ x ∈ (os.getD i none_).t, x < 256) ∧ (os.getD i none_).t.length < 1000000 ∧ (os.getD i none_).c < 256 := by
  rcases Nat.lt_or_ge i os.length with hi | hi
  · rw [List.getD_eq_getElem?_getD, List.getElem?_eq_getElem hi]; exact h _ (List.getElem_mem hi)
  · rw [List.getD_eq_getElem?_getD, List.getElem?_eq_none hi]; simp [none_]
/-- A row of the call's own whose cells are orders: the orders, one more. -/
theorem ordsIn_own {w : World} {base : Nat} {ad : Option Addr} {cap n : Nat} {t : TypeId} {us : List Value} {os : List O} (h : w.ownsRow base t 8 (.slice ad n cap) n us) (hn : n = os.length) (hcap : n ≤ cap)
    (hu : ∀ i, i < os.length → ∃ ta tn tc, (∀ j u, (ocells (os.getD i none_) (.slice ta tn tc))[j]? = some u → us[i * 8 + j]? = some u) ∧ BytesIn w (.slice ta tn tc) (os.getD i none_).t ∧ (ta = none → tn = 0 ∧ tc = 0) ∧ ∀ x, ta = some x → base ≤ x.block) : OrdsIn w base (.slice ad n cap) os := by
  subst hn
  obtain ⟨hlen, hv⟩ := h
  rcases hv with ⟨hv, h0⟩ | ⟨g, cap2, cur, hv, hg, hcur, h1, h2, h3, h4⟩
  · injection hv with e1 e2 e3
    have : os = [] := List.eq_nil_of_length_eq_zero h0
    subst this; subst e1; subst e3
    exact ordsIn_nil _ _
  · injection hv with e1 e2 e3
    subst e1; subst e3
    refine ⟨_, _, rfl, h1, nofun, .inr ⟨g, 0, rfl, hg, fun i hi => ?_⟩⟩
    obtain ⟨ta, tn, tc, k1, k2, k3, k4⟩ := hu i hi
    refine ⟨ta, tn, tc, fun j u hj => ?_, k2, k3, k4⟩
    have hj8 : j < 8 := by
      rcases Nat.lt_or_ge j 8 with h' | h'
      · exact h'
      · rw [List.getElem?_eq_none (by simp [ocells]; omega)] at hj; cases hj
    have k5 := k1 j u hj
    rw [← h4] at k5
    rw [List.getElem?_take_of_lt (by omega)] at k5
    rw [cell_of_row w g (0 + i * 8 + j) cur t (0, 0) hcur, Nat.zero_add, ← Array.getElem?_toList]
    exact k5
theorem OrdsIn.len {w : World} {base n c : Nat} {ad : Option Addr} {os : List O} (h : OrdsIn w base (.slice ad n c) os) : n = os.length := by
  obtain ⟨_, _, e, _⟩ := h.form
  injection e
/-- Order i, cell by cell, as the walk spells it. -/
theorem OrdsIn.cells {w : World} {base n c : Nat} {ad : Option Addr} {os : List O} (h : OrdsIn w base (.slice ad n c) os) {i : Nat} (hi : i < os.length) {k s a : Int} {t : List Nat} {p m q : Bool} {ch : Nat} (ho : os.getD i none_ = ⟨k, t, p, m, s, q, a, ch⟩) :
    ∃ b off ta tn tc, ad = some ⟨b, off, none⟩ ∧ w.cell? ⟨b, off + i * 8, none⟩ = some (.int .i64 k) ∧ w.cell? ⟨b, off + i * 8 + 1, none⟩ = some (.slice ta tn tc) ∧ w.cell? ⟨b, off + i * 8 + 2, none⟩ = some (.bool p) ∧ w.cell? ⟨b, off + i * 8 + 3, none⟩ = some (.bool m) ∧
      w.cell? ⟨b, off + i * 8 + 4, none⟩ = some (.int .i64 s) ∧ w.cell? ⟨b, off + i * 8 + 5, none⟩ = some (.bool q) ∧ w.cell? ⟨b, off + i * 8 + 6, none⟩ = some (.int .i64 a) ∧ w.cell? ⟨b, off + i * 8 + 7, none⟩ = some (.int .u8 (ch : Int)) ∧ BytesIn w (.slice ta tn tc) t ∧ (ta = none → tn = 0 ∧ tc = 0) := by
  obtain ⟨b, off, ta, tn, tc, h1, h2, h3, h4⟩ := h.at hi
  rw [ho] at h2 h3
  exact ⟨b, off, ta, tn, tc, h1, h2 0 _ rfl, h2 1 _ rfl, h2 2 _ rfl, h2 3 _ rfl, h2 4 _ rfl, h2 5 _ rfl, h2 6 _ rfl, h2 7 _ rfl, h3, h4⟩
/-- Order i's kind alone. -/
theorem OrdsIn.kind {w : World} {base n c b off : Nat} {os : List O} (h : OrdsIn w base (.slice (some ⟨b, off, none⟩) n c) os) {i : Nat} (hi : i < os.length) : w.cell? ⟨b, off + i * 8, none⟩ = some (.int .i64 (os.getD i none_).k) := by
  obtain ⟨b', off', ta, tn, tc, h1, h2, _, _⟩ := h.at hi
  injection h1 with h1
  injection h1 with h1 h3
  subst h1 h3
  exact h2 0 _ rfl
/-- An order by its parts. -/
theorem o_eta (o : O) : ∃ k t p m s q a ch, o = ⟨k, t, p, m, s, q, a, ch⟩ := ⟨_, _, _, _, _, _, _, _, rfl⟩
end Str
end Go.Proofs.YtpdlpmbjhopnnaaGreatDoor
/- Package stream: which kind a command is. -/
namespace Go.Proofs.YtpdlpmbjhopnnaaGreatDoor
open Go.RowKit Sha Six
namespace Str
set_option maxHeartbeats 1000000 in
theorem kind_any (c : Int) (w : World) : Calls Tryz.prog 64 #[.int .i64 c] w fun e w' => e = .returned (.tuple #[.bool (known c), .bool (writes c)]) ∧ w = w' := by
  by_cases h1 : c = 241
  · subst h1
    go_enter Tryz.func64, Tryz.ntmps64
    go_wp2
    go_ret2
    exact ⟨rfl, rfl⟩
  by_cases h2 : c = 245
  · subst h2
    go_enter Tryz.func64, Tryz.ntmps64
    go_wp2
    go_ret2
    exact ⟨rfl, rfl⟩
  by_cases h3 : c = 111
  · subst h3
    go_enter Tryz.func64, Tryz.ntmps64
    go_wp2
    go_ret2
    exact ⟨rfl, rfl⟩
  by_cases h4 : c = 242
  · subst h4
    go_enter Tryz.func64, Tryz.ntmps64
    go_wp2
    go_ret2
    exact ⟨rfl, rfl⟩
  by_cases h5 : c = 246
  · subst h5
    go_enter Tryz.func64, Tryz.ntmps64
    go_wp2
    go_ret2
    exact ⟨rfl, rfl⟩
  have e1 : writes c = false := by simp [writes, h1, h2]
  have e2 : known c = false := by simp [known, writes, h1, h2, h3, h4, h5]
  rw [e1, e2]
  have g1 : (c == 241) = false := by simp [h1]
  have g2 : (c == 245) = false := by simp [h2]
  have g3 : (c == 111) = false := by simp [h3]
  have g4 : (c == 242) = false := by simp [h4]
  have g5 : (c == 246) = false := by simp [h5]
  clear h1 h2 h3 h4 h5 e1 e2
  go_enter Tryz.func64, Tryz.ntmps64
  go_wp2
  go_ret2
  exact ⟨rfl, rfl⟩
end Str
end Go.Proofs.YtpdlpmbjhopnnaaGreatDoor
/- kind of package stream; Writes and Known of the document. -/
namespace Go.Proofs.YtpdlpmbjhopnnaaGreatDoor
open Go.RowKit Sha Six
namespace Str
theorem rwrites_any (c : Int) (w : World) : Calls Tryz.prog 31 #[.int .i64 c] w fun e w' => e = .returned (.bool (writes c)) ∧ w = w' := by
  by_cases h1 : c = 241
  · subst h1
    go_enter Tryz.func31, Tryz.ntmps31
    go_wp2
    go_ret
    exact ⟨rfl, rfl⟩
  have g1 : (c == 241) = false := by simp [h1]
  have e : writes c = (c == 245) := by simp [writes, h1]
  rw [e]
  clear h1 e
  go_enter Tryz.func31, Tryz.ntmps31
  go_wp2
  go_ret
  exact ⟨rfl, rfl⟩
theorem rknown_any (c : Int) (w : World) : Calls Tryz.prog 30 #[.int .i64 c] w fun e w' => e = .returned (.bool (known c)) ∧ w = w' := by
  have H := Lib.hid fun W => rwrites_any c W
  cases hw : writes c with
  | true =>
    have e : known c = true := by simp [known, hw]
    rw [e]
    rw [hw] at H
    go_enter Tryz.func30, Tryz.ntmps30
    go_wp2_with fail
    with_reducible refine (H.out _).mono ?_
    rintro e w' ⟨rfl, rfl⟩
    go_wp2_with fail
    go_ret
    exact ⟨rfl, rfl⟩
  | false =>
    have e : known c = ((c == 111) || (c == 242) || (c == 246)) := by simp [known, hw]
    rw [e]
    rw [hw] at H
    clear e hw
    by_cases h1 : c = 111
    · subst h1
      go_enter Tryz.func30, Tryz.ntmps30
      go_wp2_with fail
      with_reducible refine (H.out _).mono ?_
      rintro e w' ⟨rfl, rfl⟩
      go_wp2_with fail
      go_ret
      exact ⟨rfl, rfl⟩
    by_cases h2 : c = 242
    · subst h2
      go_enter Tryz.func30, Tryz.ntmps30
      go_wp2_with fail
      with_reducible refine (H.out _).mono ?_
      rintro e w' ⟨rfl, rfl⟩
      go_wp2_with fail
      go_ret
      exact ⟨rfl, rfl⟩
    have g1 : (c == 111) = false := by simp [h1]
    have g2 : (c == 242) = false := by simp [h2]
    clear h1 h2
    go_enter Tryz.func30, Tryz.ntmps30
    go_wp2_with fail
    with_reducible refine (H.out _).mono ?_
    rintro e w' ⟨rfl, rfl⟩
    go_wp2_with fail
    go_ret
    exact ⟨by simp [g1, g2], rfl⟩
end Str
end Go.Proofs.YtpdlpmbjhopnnaaGreatDoor
/- putBehind of package stream. -/
namespace Go.Proofs.YtpdlpmbjhopnnaaGreatDoor
open Go.RowKit Sha Cut Err Six Att
namespace Str
open Go.Proofs.YtpdlpmbjhopnnaaGreatDoor.Ord
theorem wrong_text_1 {o : O} {z : Nat} (h : o.k = 1) : wrong o z = 0 ∨ wrong o z = 1 := by
  unfold wrong
  simp only [h]
  repeat' split
  all_goals first | (exact .inl rfl) | (exact .inr rfl) | omega
set_option maxHeartbeats 1000000 in
theorem behind_ok (b : Int) (o : O) (ad : Option Addr) (len cap z : Nat) (w : World) (hB : BytesIn w (.slice ad len cap) o.t) (h8 : ∀ x ∈ o.t, x < 256) (hl : o.t.length < 1000000) (hn : ad = none → len = 0 ∧ cap = 0) (hc : o.c < 256) (h0 : wrong o z = 0) (hp : ¬ (b = 1 ∧ o.k = 1)) (h1 : 1 ≤ z) (h2 : z ≤ 16383) :
    Calls Tryz.prog 107 #[.int .i64 b, .agg #[.int .i64 o.k, .slice ad len cap, .bool o.p, .bool o.n, .int .i64 o.s, .bool o.m, .int .i64 o.a, .int .u8 (o.c : Int)], .int .i64 (z : Int)] w fun e w' => ∃ v, e = .returned (.tuple #[v, .nilIface]) ∧ w'.ownsRow w.heap.size 5 1 v (obytes o z).length (u8s (obytes o z)) ∧ Below w.heap.size w w' := by
  obtain ⟨k, t, p, n, s, m, a, c⟩ := o
  simp only at hB h8 hl hc hp ⊢
  have HA := Lib.hid (al_any w (.cells #[.int .i64 k, .slice ad len cap, .bool p, .bool n, .int .i64 s, .bool m, .int .i64 a, .int .u8 (c : Int)] 76))
  have HP := fun W hb => put_right ⟨k, t, p, n, s, m, a, c⟩ ad len cap z W (bytes_below hB hb) h8 hl hn hc h0 h1 h2
  generalize obytes ⟨k, t, p, n, s, m, a, c⟩ z = bs at HP ⊢
  simp only at HP
  have HP := Lib.hid HP
  clear hB h8 hl hn hc h0 h1 h2
  by_cases hb1 : b = 1
  · have hk : (k == 1) = false := by simp; intro h; exact hp ⟨hb1, h⟩
    subst hb1
    clear hp
    go_enter Tryz.func107, Tryz.ntmps107
    go_wp2_with fail
    generalize w.alloc (.cells #[.int .i64 k, .slice ad len cap, .bool p, .bool n, .int .i64 s, .bool m, .int .i64 a, .int .u8 (c : Int)] 76) = w1 at *
    with_reducible refine (HP.out _ HA.out).mono ?_
    rintro e w2 ⟨v, rfl, ho, hb⟩
    have HO := Lib.hid (own_mono ho HA.out.size)
    have HK := kept_hid HA hb
    clear ho hb HP
    go_wp2_with fail
    go_ret2
    exact ⟨_, rfl, HO.out, HK.out⟩
  · have hb2 : (b == 1) = false := by simp [hb1]
    clear hp hb1
    go_enter Tryz.func107, Tryz.ntmps107
    go_wp2_with fail
    generalize w.alloc (.cells #[.int .i64 k, .slice ad len cap, .bool p, .bool n, .int .i64 s, .bool m, .int .i64 a, .int .u8 (c : Int)] 76) = w1 at *
    with_reducible refine (HP.out _ HA.out).mono ?_
    rintro e w2 ⟨v, rfl, ho, hb⟩
    have HO := Lib.hid (own_mono ho HA.out.size)
    have HK := kept_hid HA hb
    clear ho hb HP
    go_wp2_with fail
    go_ret2
    exact ⟨_, rfl, HO.out, HK.out⟩
set_option maxHeartbeats 1000000 in
theorem behind_bad (b : Int) (o : O) (ad : Option Addr) (len cap z : Nat) (w : World) (hB : BytesIn w (.slice ad len cap) o.t) (h8 : ∀ x ∈ o.t, x < 256) (hl : o.t.length < 1000000) (hc : o.c < 256) (h0 : wrong o z ≠ 0) (h1 : 1 ≤ z) (h2 : z ≤ 16383) :
    Calls Tryz.prog 107 #[.int .i64 b, .agg #[.int .i64 o.k, .slice ad len cap, .bool o.p, .bool o.n, .int .i64 o.s, .bool o.m, .int .i64 o.a, .int .u8 (o.c : Int)], .int .i64 (z : Int)] w fun e w' => e = .returned (.tuple #[.slice none 0 0, .iface 71 (.int .i64 (wrong o z : Nat))]) ∧ Below w.heap.size w w' := by
  obtain ⟨k, t, p, n, s, m, a, c⟩ := o
  simp only at hB h8 hl hc ⊢
  have HA := Lib.hid (al_any w (.cells #[.int .i64 k, .slice ad len cap, .bool p, .bool n, .int .i64 s, .bool m, .int .i64 a, .int .u8 (c : Int)] 76))
  have HP := fun W hb => put_wrong ⟨k, t, p, n, s, m, a, c⟩ ad len cap z W (bytes_below hB hb) h8 hl hc h0 h1 h2
  have HT := Lib.hid (show k = 1 → wrong ⟨k, t, p, n, s, m, a, c⟩ z = 1 from fun hk => by
    rcases wrong_text_1 (o := ⟨k, t, p, n, s, m, a, c⟩) (z := z) hk with h | h
    · exact absurd h h0
    · exact h)
  generalize wrong ⟨k, t, p, n, s, m, a, c⟩ z = u at HP HT h0 ⊢
  simp only at HP
  have HP := Lib.hid HP
  clear hB h8 hl hc h0 h1 h2
  by_cases hb1 : b = 1
  · subst hb1
    by_cases hk1 : k = 1
    · have hu := HT.out hk1
      subst hk1 hu
      go_enter Tryz.func107, Tryz.ntmps107
      go_wp2_with fail
      go_ret2
      exact ⟨rfl, HA.out⟩
    · have hk : (k == 1) = false := by simp [hk1]
      clear hk1
      go_enter Tryz.func107, Tryz.ntmps107
      go_wp2_with fail
      generalize w.alloc (.cells #[.int .i64 k, .slice ad len cap, .bool p, .bool n, .int .i64 s, .bool m, .int .i64 a, .int .u8 (c : Int)] 76) = w1 at *
      with_reducible refine (HP.out _ HA.out).mono ?_
      rintro e w2 ⟨rfl, hb⟩
      have HK := kept_hid HA hb
      clear hb HP
      go_wp2_with fail
      go_ret2
      exact ⟨rfl, HK.out⟩
  · have hb2 : (b == 1) = false := by simp [hb1]
    clear hb1
    go_enter Tryz.func107, Tryz.ntmps107
    go_wp2_with fail
    generalize w.alloc (.cells #[.int .i64 k, .slice ad len cap, .bool p, .bool n, .int .i64 s, .bool m, .int .i64 a, .int .u8 (c : Int)] 76) = w1 at *
    with_reducible refine (HP.out _ HA.out).mono ?_
    rintro e w2 ⟨rfl, hb⟩
    have HK := kept_hid HA hb
    clear hb HP
    go_wp2_with fail
    go_ret2
    exact ⟨rfl, HK.out⟩
set_option maxHeartbeats 1000000 in
/-- Characters behind characters. -/
theorem behind_text (b : Int) (o : O) (ad : Option Addr) (len cap : Nat) (z : Int) (w : World) (hb : b = 1) (hk : o.k = 1) :
    Calls Tryz.prog 107 #[.int .i64 b, .agg #[.int .i64 o.k, .slice ad len cap, .bool o.p, .bool o.n, .int .i64 o.s, .bool o.m, .int .i64 o.a, .int .u8 (o.c : Int)], .int .i64 z] w fun e w' => e = .returned (.tuple #[.slice none 0 0, .iface 71 (.int .i64 1)]) ∧ Below w.heap.size w w' := by
  obtain ⟨k, t, p, n, s, m, a, c⟩ := o
  simp only at hk ⊢
  subst hk hb
  have HA := Lib.hid (al_any w (.cells #[.int .i64 1, .slice ad len cap, .bool p, .bool n, .int .i64 s, .bool m, .int .i64 a, .int .u8 (c : Int)] 76))
  go_enter Tryz.func107, Tryz.ntmps107
  go_wp2_with fail
  go_ret2
  exact ⟨rfl, HA.out⟩
end Str
end Go.Proofs.YtpdlpmbjhopnnaaGreatDoor
/- putWrite of package stream. -/
namespace Go.Proofs.YtpdlpmbjhopnnaaGreatDoor
open Go.RowKit Sha Cut Err Six Att Apd
namespace Str
open Go.Proofs.YtpdlpmbjhopnnaaGreatDoor.Ord
/-- The kind of the order ahead of order k (0: there is none). -/
def bk (os : List O) (k : Nat) : Int := if k = 0 then 0 else (os.getD (k - 1) none_).k
/-- Nothing is wrong with the first k orders. -/
def Fine (z : Nat) (os : List O) (k : Nat) : Prop := ow z false 0 os = ow z (decide (bk os k = 1)) k (os.drop k) ∧ ∀ o ∈ os.take k, wrong o z = 0
theorem fine_0 (z : Nat) (os : List O) : Fine z os 0 := ⟨by simp [bk], by simp⟩
theorem drop_o {os : List O} {k : Nat} (h : k < os.length) : os.drop k = os.getD k none_ :: os.drop (k + 1) := by
  rw [List.drop_eq_getElem_cons h, List.getD_eq_getElem?_getD, List.getElem?_eq_getElem h]; rfl
theorem take_o {os : List O} {k : Nat} (h : k < os.length) : os.take (k + 1) = os.take k ++ [os.getD k none_] := by
  rw [List.take_succ_eq_append_getElem h, List.getD_eq_getElem?_getD, List.getElem?_eq_getElem h]; rfl
theorem fine_wrong {z : Nat} {os : List O} {k : Nat} (h : Fine z os k) (hk : k < os.length) (hw : wrong (os.getD k none_) z ≠ 0) : ow z false 0 os = (wrong (os.getD k none_) z, k) := by
  rw [h.1, drop_o hk, ow, if_pos hw]
theorem fine_text {z : Nat} {os : List O} {k : Nat} (h : Fine z os k) (hk : k < os.length) (hw : wrong (os.getD k none_) z = 0) (hb : bk os k = 1) (ht : (os.getD k none_).k = 1) : ow z false 0 os = (1, k) := by
  rw [h.1, drop_o hk, ow, if_neg (by rw [hw]; simp), if_pos ⟨by simp [hb], ht⟩]
theorem fine_step {z : Nat} {os : List O} {k : Nat} (h : Fine z os k) (hk : k < os.length) (hw : wrong (os.getD k none_) z = 0) (hn : ¬ (bk os k = 1 ∧ (os.getD k none_).k = 1)) : Fine z os (k + 1) := by
  refine ⟨?_, fun o ho => ?_⟩
  · rw [h.1, drop_o hk, ow, if_neg (by rw [hw]; simp), if_neg (fun h => hn ⟨by simpa using h.1, h.2⟩)]
    simp [bk]
  · rw [take_o hk] at ho
    rcases List.mem_append.1 ho with ho | ho
    · exact h.2 o ho
    · simp only [List.mem_singleton] at ho
      rw [ho]; exact hw
theorem fine_end {z : Nat} {os : List O} (h : Fine z os os.length) : (ow z false 0 os).1 = 0 := by
  rw [h.1]; simp [ow]
theorem obs_take_le {z : Nat} {os : List O} {k : Nat} (h : ∀ o ∈ os.take k, wrong o z = 0) (hs : Sound os) : (obs z (os.take k)).length ≤ k * 1000000 := by
  induction k with
  | zero => simp [obs]
  | succ k ih =>
    by_cases hk : k < os.length
    · rw [take_o hk] at h ⊢
      rw [obs_append, List.length_append]
      have h1 := ih (fun o ho => h o (List.mem_append_left _ ho))
      have h2 := obytes_len (h (os.getD k none_) (by simp))
      have h3 := (sound_at hs k).2.1
      simp only [obs, List.append_nil]
      have h4 : max (os.getD k none_).t.length 4 ≤ 1000000 := by omega
      rw [Nat.add_mul, Nat.one_mul]
      exact Nat.add_le_add h1 (Nat.le_trans h2.1 h4)
    · have e : os.take (k + 1) = os.take k := by rw [List.take_of_length_le (by omega), List.take_of_length_le (by omega)]
      rw [e] at h ⊢
      exact Nat.le_trans (ih h) (Nat.mul_le_mul_right _ (Nat.le_succ k))
theorem cells5w {w : World} {B : Nat} {t : TypeId} {a0 a1 a2 a3 a4 : Value} (h : w.heap[B]? = some (.cells #[a0, a1, a2, a3, a4] t (0, 0))) :
    w.cell? ⟨B, 0, none⟩ = some a0 ∧ w.cell? ⟨B, 1, none⟩ = some a1 ∧ w.cell? ⟨B, 2, none⟩ = some a2 ∧ w.cell? ⟨B, 3, none⟩ = some a3 ∧ w.cell? ⟨B, 4, none⟩ = some a4 :=
  ⟨cell_of_row _ _ 0 _ _ _ h, cell_of_row _ _ 1 _ _ _ h, cell_of_row _ _ 2 _ _ _ h, cell_of_row _ _ 3 _ _ _ h, cell_of_row _ _ 4 _ _ _ h⟩
theorem held5 {w1 w' : World} {B : Nat} {t : TypeId} {a0 a1 a2 a3 a4 : Value} (k : w1.heap[B]? = some (.cells #[a0, a1, a2, a3, a4] t (0, 0))) (h : Below w1.heap.size w1 w') :
    Below w1.heap.size w1 w' ∧ w'.cell? ⟨B, 0, none⟩ = some a0 ∧ w'.cell? ⟨B, 1, none⟩ = some a1 ∧ w'.cell? ⟨B, 2, none⟩ = some a2 ∧ w'.cell? ⟨B, 3, none⟩ = some a3 ∧ w'.cell? ⟨B, 4, none⟩ = some a4 :=
  ⟨h, cells5w (blk k h)⟩
set_option maxRecDepth 100000 in
set_option maxHeartbeats 8000000 in
theorem putWrite_any (cmd : Nat) (hcm : cmd < 256) (a u r : Bool) (ad : Option Addr) (n cap z : Nat) (os : List O) (w : World) (ho : OrdsIn w 0 (.slice ad n cap) os) (hs : Sound os) (hos : os.length ≤ 10000) (h1 : 1 ≤ z) (h2 : z ≤ 16383) :
    Calls Tryz.prog 65 #[.agg #[.int .i64 (cmd : Int), .bool a, .bool u, .bool r, .slice ad n cap], .int .i64 (z : Int)] w fun e w' => ∃ v ev, e = .returned (.tuple #[v, ev]) ∧ Below w.heap.size w w' ∧
      (((ow z false 0 os).1 = 0 ∧ (obs z os).length + 2 ≤ 8192 ∧ ev = .nilIface ∧ w'.ownsRow w.heap.size 5 1 v ((obs z os).length + 2) (u8s (cmd :: put (wnum a u r) :: obs z os))) ∨
       ((ow z false 0 os).1 = 0 ∧ 8192 < (obs z os).length + 2 ∧ v = .slice none 0 0 ∧ ev = .iface 71 (.int .i64 6)) ∨
       ((ow z false 0 os).1 ≠ 0 ∧ v = .slice none 0 0 ∧ (∃ b, ev = .iface 84 (.pointer (some ⟨b, 0, none⟩))) ∧ Err.Told w' ev ((ow z false 0 os).1 : Int) ((ow z false 0 os).2 : Int))) := by
  obtain rfl := ho.len
  have ec : IntKind.u8.wrap (cmd : Int) = (cmd : Int) := by rw [show IntKind.u8.wrap (cmd : Int) = (cmd : Int) % 256 from rfl]; omega
  have HO := Lib.hid ho
  have HS := Lib.hid hs
  have HZ1 := Lib.hid h1
  have HZ2 := Lib.hid h2
  have HA := Lib.hid (al_any w (.cells #[.int .i64 (cmd : Int), .bool a, .bool u, .bool r, .slice ad os.length cap] 39))
  have HN := Lib.hid (heap_alloc_new w (.cells #[.int .i64 (cmd : Int), .bool a, .bool u, .bool r, .slice ad os.length cap] 39))
  have HW := Lib.hid fun W => putWcc_any a u r W
  have HP := Lib.hid (show put (wnum a u r) < 256 from put_lt _ (by have := wnum_lt a u r; omega))
  generalize put (wnum a u r) = pw at *
  clear ho hs h1 h2
  go_enter Tryz.func65, Tryz.ntmps65
  go_upto_region 1 with (fail)
  generalize w.alloc (.cells #[.int .i64 (cmd : Int), .bool a, .bool u, .bool r, .slice ad os.length cap] 39) = w1 at *
  go_region_held3 (fun W => Below w1.heap.size w1 W ∧ W.cell? ⟨w.heap.size, 0, none⟩ = some (.int .i64 (cmd : Int)) ∧ W.cell? ⟨w.heap.size, 1, none⟩ = some (.bool a) ∧ W.cell? ⟨w.heap.size, 2, none⟩ = some (.bool u) ∧ W.cell? ⟨w.heap.size, 3, none⟩ = some (.bool r) ∧ W.cell? ⟨w.heap.size, 4, none⟩ = some (.slice ad os.length cap))
    (first | exact held5 HN.out (Below.refl _ _).drew | exact held5 HN.out (Below.refl _ _) | exact held5 HN.out (kept_trans (And.left (by assumption)) hb) | exact held5 HN.out (kept_trans (And.left (by assumption)) (al_any _ _)))
    (first
      | (go_at_call 106; with_reducible refine (HW.out _).mono ?_; rintro e wb ⟨rfl, hb⟩))
  have hS := And.left (by assumption : Below w1.heap.size w1 (wb.alloc (.cells #[.int .u8 (cmd : Int), .int .u8 (pw : Int)] 5)) ∧ _)
  have K2 := kept_hid HA hS
  have N2 := Lib.hid (blk HN.out hS)
  have HWB : w.heap.size ≤ wb.heap.size := by
    have h1 := hS.size
    have h2 : (wb.alloc (.cells #[.int .u8 (cmd : Int), .int .u8 (pw : Int)] 5)).heap.size = wb.heap.size + 1 := by show (wb.heap.push _).size = _; simp
    have h3 := there_lt HN.out
    omega
  have OW := Lib.hid (own_lit wb w.heap.size [cmd, pw] HWB (by show 2 < 1000000; decide))
  have OW : Hid ((wb.alloc (.cells #[.int .u8 (cmd : Int), .int .u8 (pw : Int)] 5)).ownsRow w.heap.size 5 1 (.slice (some ⟨wb.heap.size, 0, none⟩) 2 2) 2 (u8s [cmd, pw])) := OW
  clear hS hb HWB HA HN HW
  generalize wb.heap.size = g2 at *
  generalize wb.alloc (.cells #[.int .u8 (cmd : Int), .int .u8 (pw : Int)] 5) = w2 at *
  obtain ⟨c0, c1, c2, c3, c4⟩ := cells5w N2.out
  go_wp2_with fail
  clear c0 c1 c2 c3 c4 N2
  go_loopg [6, 7, 22] (os.length + 1) (fun m vb vk i wr => ∃ k : Nat, k ≤ os.length ∧ m = os.length + 1 - k ∧ i = .int .i64 k ∧ vk = .int .i64 (bk os k) ∧ (∃ ba bc, vb = .slice ba ((obs z (os.take k)).length + 2) bc ∧ Hid (wr.ownsRow w.heap.size 5 1 (.slice ba ((obs z (os.take k)).length + 2) bc) ((obs z (os.take k)).length + 2) (u8s (cmd :: pw :: obs z (os.take k))))) ∧ Hid (Below w.heap.size w wr) ∧ Hid (Fine z os k))
  case atStart => exact ⟨0, Nat.zero_le _, rfl, rfl, rfl, ⟨_, _, rfl, OW⟩, K2, Lib.hid (fine_0 z os)⟩
  case round =>
    clear OW K2
    obtain ⟨k, hk, rfl, rfl, rfl, ⟨ba, bc, rfl, HO8⟩, HB, HF⟩ := hrel
    have ew : IntKind.i64.wrap ((k : Int) + 1) = (k : Int) + 1 := by
      rw [IntWalk.i64_in] <;> omega
    by_cases hlt : k < os.length
    · obtain ⟨ok, ot, op, on, os_, om, oa, oc, ex⟩ := o_eta (os.getD k none_)
      obtain ⟨b1, o1, ta, tn, tc, rfl, g0, g1, g2, g3, g4, g5, g6, g7, B1, N1⟩ := (HO.out.below HB.out).cells hlt ex
      have lb1 := cell_lt g0
      have hi0 : (0 : Int) ≤ (k : Int) := by omega
      have hi1 : (k : Int) < (os.length : Int) := by omega
      have sx := sound_at HS.out k
      rw [ex] at sx
      simp only at sx
      have HAL := Lib.hid (al_any wr (.cells #[.int .i64 ok, .slice ta tn tc, .bool op, .bool on, .int .i64 os_, .bool om, .int .i64 oa, .int .u8 (oc : Int)] 76))
      have HNL := Lib.hid (heap_alloc_new wr (.cells #[.int .i64 ok, .slice ta tn tc, .bool op, .bool on, .int .i64 os_, .bool om, .int .i64 oa, .int .u8 (oc : Int)] 76))
      by_cases hw : wrong ⟨ok, ot, op, on, os_, om, oa, oc⟩ z ≠ 0
      · skip
        have HBD := Lib.hid (behind_bad (bk os k) ⟨ok, ot, op, on, os_, om, oa, oc⟩ ta tn tc z _ (bytes_below B1 HAL.out) sx.1 sx.2.1 sx.2.2 hw HZ1.out HZ2.out)
        have HFI := Lib.hid (show ow z false 0 os = (wrong ⟨ok, ot, op, on, os_, om, oa, oc⟩ z, k) by rw [← ex]; exact fine_wrong HF.out hlt (by rw [ex]; exact hw))
        clear B1 N1
        go_wp2_with fail
        clear g0 g1 g2 g3 g4 g5 g6 g7 lb1
        with_reducible refine HBD.out.mono ?_
        rintro e w3 ⟨rfl, hb⟩
        have K3 := kept_hid (kept_hid HB HAL.out) hb
        have K4 := kept_alloc K3 (.cells #[.int .i64 (k : Int), .iface 71 (.int .i64 (wrong ⟨ok, ot, op, on, os_, om, oa, oc⟩ z : Nat))] 86)
        have L4 := heap_alloc_new w3 (.cells #[.int .i64 (k : Int), .iface 71 (.int .i64 (wrong ⟨ok, ot, op, on, os_, om, oa, oc⟩ z : Nat))] 86)
        have C0 := Lib.hid (cell_of_row _ w3.heap.size 0 _ _ (0, 0) L4)
        have C1 := Lib.hid (cell_of_row _ w3.heap.size 1 _ _ (0, 0) L4)
        clear hb HBD L4
        go_wp2_with fail
        go_ret2
        refine ⟨_, _, rfl, K4.out, .inr (.inr ⟨?_, rfl, ⟨_, rfl⟩, ?_⟩)⟩
        · rw [HFI.out]; exact hw
        · rw [HFI.out]
          exact .inr (.inr ⟨0, w3.heap.size, rfl, C0.out, _, _, _, rfl, C0.out, C1.out, rfl⟩)
      · have hw : wrong ⟨ok, ot, op, on, os_, om, oa, oc⟩ z = 0 := Classical.not_not.1 hw
        by_cases hbt : bk os k = 1 ∧ ok = 1
        · have HBT := Lib.hid hbt
          clear hbt
          have HBD := Lib.hid (behind_text (bk os k) ⟨ok, ot, op, on, os_, om, oa, oc⟩ ta tn tc (z : Int) (wr.alloc (.cells #[.int .i64 ok, .slice ta tn tc, .bool op, .bool on, .int .i64 os_, .bool om, .int .i64 oa, .int .u8 (oc : Int)] 76)) HBT.out.1 HBT.out.2)
          have HFI := Lib.hid (show ow z false 0 os = (1, k) from fine_text HF.out hlt (by rw [ex]; exact hw) HBT.out.1 (by rw [ex]; exact HBT.out.2))
          clear B1 N1
          go_wp2_with fail
          clear g0 g1 g2 g3 g4 g5 g6 g7 lb1
          with_reducible refine HBD.out.mono ?_
          rintro e w3 ⟨rfl, hb⟩
          have K3 := kept_hid (kept_hid HB HAL.out) hb
          have K4 := kept_alloc K3 (.cells #[.int .i64 (k : Int), .iface 71 (.int .i64 1)] 86)
          have L4 := heap_alloc_new w3 (.cells #[.int .i64 (k : Int), .iface 71 (.int .i64 1)] 86)
          have C0 := Lib.hid (cell_of_row _ w3.heap.size 0 _ _ (0, 0) L4)
          have C1 := Lib.hid (cell_of_row _ w3.heap.size 1 _ _ (0, 0) L4)
          clear hb HBD L4
          go_wp2_with fail
          go_ret2
          refine ⟨_, _, rfl, K4.out, .inr (.inr ⟨?_, rfl, ⟨_, rfl⟩, ?_⟩)⟩
          · rw [HFI.out]; exact Nat.one_ne_zero
          · rw [HFI.out]
            exact .inr (.inr ⟨0, w3.heap.size, rfl, C0.out, _, _, _, rfl, C0.out, C1.out, rfl⟩)
        · have HBD := Lib.hid (behind_ok (bk os k) ⟨ok, ot, op, on, os_, om, oa, oc⟩ ta tn tc z _ (bytes_below B1 HAL.out) sx.1 sx.2.1 N1 sx.2.2 hw hbt HZ1.out HZ2.out)
          have HFS := Lib.hid (fine_step HF.out hlt (by rw [ex]; exact hw) (by rw [ex]; exact hbt))
          have HBL := Lib.hid (show (obytes ⟨ok, ot, op, on, os_, om, oa, oc⟩ z).length ≤ 1000000 by have := (obytes_len hw).1; have := sx.2.1; simp only at *; omega)
          have HTK := Lib.hid (show obs z (os.take (k + 1)) = obs z (os.take k) ++ obytes ⟨ok, ot, op, on, os_, om, oa, oc⟩ z by rw [take_o hlt, obs_append, ex]; simp [obs])
          have HLT := Lib.hid (obs_take_le HF.out.2 HS.out)
          have HKK := Lib.hid (show bk os (k + 1) = ok by
            show (if k + 1 = 0 then (0 : Int) else (os.getD (k + 1 - 1) none_).k) = ok
            rw [if_neg (by omega), Nat.add_sub_cancel, ex])
          clear B1 N1 sx hw hbt HF
          generalize obytes ⟨ok, ot, op, on, os_, om, oa, oc⟩ z = bs at *
          go_wp2_with fail
          clear g0 g1 g2 g3 g4 g5 g6 g7 lb1
          with_reducible refine HBD.out.mono ?_
          rintro e w3 ⟨v, rfl, hown, hb⟩
          have K3 := kept_hid (kept_hid HB HAL.out) hb
          have HO3 := Lib.hid (own_below (own_below HO8.out HAL.out) hb)
          have N3 := Lib.hid (blk HNL.out hb)
          obtain ⟨va, vc, rfl⟩ := own_form hown
          have HNN := Lib.hid (own_nil hown)
          have HSV := Lib.hid (bytes_src (own_bytes hown))
          have HBO := Lib.hid (own_blocks HO8.out)
          clear hown hb HBD HNL HO8
          go_wp2_with (at_builtin; refine wpList_mark ?_)
          refine Lib.hid ?_
          refine append_own rfl (.tmp 41) (.tmp 42) rfl w.heap.size _ _ _ rfl HO3.out va _ vc _ rfl rfl HNN.out HSV.out ?_ K3.out.size ?_
          · have h1 := HLT.out; have h2 := HBL.out; have h3 : k * 1000000 ≤ 10000 * 1000000 := Nat.mul_le_mul_right _ (by omega); omega
          intro v2 w4 hown hgr _
          have K4 := Lib.hid (below_own K3.out hgr HO3.out)
          have N4 := blk_g N3.out hgr (by
            intro e
            cases ba with
            | none => cases e
            | some x => injection e with e; have := (HBO.out x rfl).2; omega)
          have HO4 := Lib.hid (show w4.ownsRow w.heap.size 5 1 v2 ((obs z (os.take (k + 1))).length + 2) (u8s (cmd :: pw :: obs z (os.take (k + 1)))) by
            rw [HTK.out]
            have e1 : (obs z (os.take k) ++ bs).length + 2 = (obs z (os.take k)).length + 2 + bs.length := by rw [List.length_append]; omega
            rw [e1]
            have e2 : u8s (cmd :: pw :: (obs z (os.take k) ++ bs)) = u8s (cmd :: pw :: obs z (os.take k)) ++ u8s bs := by simp [u8s]
            rw [e2]; exact hown)
          obtain ⟨d0, _, _, _, _, _, _, _⟩ := cells8 N4
          obtain ⟨va2, vc2, rfl⟩ := own_form HO4.out
          clear hown hgr K3 HO3 N3 N4 HNN HSV HBO HAL HLT HTK HBL
          go_wp2_with fail
          go_roundg (os.length + 1 - (k + 1))
          case measure => omega
          case rel => exact ⟨k + 1, by omega, rfl, rfl, by rw [HKK.out], ⟨_, _, rfl, HO4⟩, K4, HFS⟩
    · have hkl : k = os.length := by omega
      have HE := Lib.hid (show os.take k = os by rw [hkl]; exact List.take_length)
      have HW0 := Lib.hid (show (ow z false 0 os).1 = 0 by rw [hkl] at HF; exact fine_end HF.out)
      rw [HE.out] at HO8 ⊢
      obtain ⟨L, hL⟩ : ∃ L, L = (obs z os).length + 2 := ⟨_, rfl⟩
      have HLL := Lib.hid hL
      rw [← hL] at HO8 ⊢
      clear hL
      have hn0 : ¬ (k : Int) < (os.length : Int) := by omega
      clear hlt hk hkl
      by_cases hbig : 8192 < L
      · have hb : (8192 : Int) < (L : Int) := by omega
        have HBG := Lib.hid hbig
        clear hbig
        go_wp2_with fail
        go_ret2
        exact ⟨_, _, rfl, HB.out, .inr (.inl ⟨HW0.out, by rw [← HLL.out]; exact HBG.out, rfl, rfl⟩)⟩
      · have hb : ¬ (8192 : Int) < (L : Int) := by omega
        have HBG := Lib.hid hbig
        clear hbig
        go_wp2_with fail
        go_ret2
        exact ⟨_, _, rfl, HB.out, .inl ⟨HW0.out, by have := HBG.out; have := HLL.out; omega, rfl, by rw [← HLL.out]; exact HO8.out⟩⟩
end Str
end Go.Proofs.YtpdlpmbjhopnnaaGreatDoor
/- Write of package stream returns what the plain function says. -/
namespace Go.Proofs.YtpdlpmbjhopnnaaGreatDoor
open Go.RowKit Sha Cut Err Six Att Apd
namespace Str
open Go.Proofs.YtpdlpmbjhopnnaaGreatDoor.Ord
/-- What Write answers of a command x: v its bytes, ev what is wrong. -/
def Wrote (w w' : World) (x : Cm) (z : Nat) (v ev : Value) : Prop :=
  ((cwrite x z).2.1 = 0 ∧ ev = .nilIface ∧ w'.ownsRow w.heap.size 5 1 v (cwrite x z).1.length (u8s (cwrite x z).1)) ∨
  ((cwrite x z).2.1 ≠ 0 ∧ v = .slice none 0 0 ∧ (∃ t u, ev = .iface t u) ∧ Err.Told w' ev ((cwrite x z).2.1 : Int) (cwrite x z).2.2)
theorem cwrite_unknown {x : Cm} {z : Nat} (h : known x.cmd = false) : cwrite x z = ([], 5, -1) := by unfold cwrite; rw [if_pos h]
theorem cwrite_more {x : Cm} {z : Nat} (h : known x.cmd = true) (hw : writes x.cmd = false) (hm : (x.a || x.u || x.r || !x.os.isEmpty) = true) : cwrite x z = ([], 1, -1) := by
  unfold cwrite; rw [if_neg (by rw [h]; simp), if_pos hw, if_pos hm]
theorem cwrite_bare {x : Cm} {z : Nat} (h : known x.cmd = true) (hw : writes x.cmd = false) (hm : (x.a || x.u || x.r || !x.os.isEmpty) = false) : cwrite x z = ([x.cmd.toNat], 0, -1) := by
  unfold cwrite; rw [if_neg (by rw [h]; simp), if_pos hw, if_neg (by rw [hm]; simp)]
theorem cwrite_writes {x : Cm} {z : Nat} (h : known x.cmd = true) (hw : writes x.cmd = true) : cwrite x z =
    if (ow z false 0 x.os).1 ≠ 0 then ([], (ow z false 0 x.os).1, ((ow z false 0 x.os).2 : Int))
    else if 8192 < (obs z x.os).length + 2 then ([], 6, -1) else (x.cmd.toNat :: put (wnum x.a x.u x.r) :: obs z x.os, 0, -1) := by
  unfold cwrite; rw [if_neg (by rw [h]; simp), if_neg (by rw [hw]; simp)]
set_option maxRecDepth 100000 in
set_option maxHeartbeats 4000000 in
theorem write_writes (cmd : Nat) (hcm : cmd = 241 ∨ cmd = 245) (a u r : Bool) (ad : Option Addr) (n cap z : Nat) (os : List O) (w : World) (ho : OrdsIn w 0 (.slice ad n cap) os) (hs : Sound os) (hos : os.length ≤ 10000) (h1 : 1 ≤ z) (h2 : z ≤ 16383) :
    Calls Tryz.prog 29 #[.agg #[.int .i64 (cmd : Int), .bool a, .bool u, .bool r, .slice ad n cap], .int .i64 (z : Int)] w fun e w' => ∃ v ev, e = .returned (.tuple #[v, ev]) ∧ Below w.heap.size w w' ∧ Wrote w w' ⟨cmd, a, u, r, os⟩ z v ev := by
  have hk : known (cmd : Int) = true := by rcases hcm with rfl | rfl <;> decide
  have hw : writes (cmd : Int) = true := by rcases hcm with rfl | rfl <;> decide
  have HC := Lib.hid (cwrite_writes (x := ⟨(cmd : Int), a, u, r, os⟩) (z := z) hk hw)
  have HK := Lib.hid fun W => kind_any (cmd : Int) W
  rw [hk, hw] at HK
  have HA := Lib.hid (al_any w (.cells #[.int .i64 (cmd : Int), .bool a, .bool u, .bool r, .slice ad n cap] 39))
  have HN := Lib.hid (heap_alloc_new w (.cells #[.int .i64 (cmd : Int), .bool a, .bool u, .bool r, .slice ad n cap] 39))
  have HP := Lib.hid (putWrite_any cmd (by omega) a u r ad n cap z os _ (ho.below HA.out) hs hos h1 h2)
  clear hk hw ho hs hos h1 h2 hcm
  go_enter Tryz.func29, Tryz.ntmps29
  go_wp2_with fail
  with_reducible refine (HK.out _).mono ?_
  rintro e w' ⟨rfl, rfl⟩
  go_wp2_with fail
  generalize w.alloc (.cells #[.int .i64 (cmd : Int), .bool a, .bool u, .bool r, .slice ad n cap] 39) = w1 at *
  with_reducible refine HP.out.mono ?_
  rintro e w2 ⟨v, ev, rfl, hb, hc⟩
  have K2 := kept_hid HA hb
  have HR := Lib.hid (show Wrote w w2 ⟨(cmd : Int), a, u, r, os⟩ z v ev by
    unfold Wrote
    rw [HC.out]
    rcases hc with ⟨e0, e1, rfl, ho⟩ | ⟨e0, e1, rfl, rfl⟩ | ⟨e0, rfl, ⟨b, rfl⟩, ht⟩
    · rw [if_neg (by rw [e0]; simp), if_neg (by omega)]
      refine .inl ⟨rfl, rfl, ?_⟩
      simp only [Int.toNat_natCast, List.length_cons]
      exact own_mono ho HA.out.size
    · rw [if_neg (by rw [e0]; simp), if_pos e1]
      exact .inr ⟨by show (6 : Nat) ≠ 0; decide, rfl, ⟨_, _, rfl⟩, .inr (.inl ⟨rfl, rfl⟩)⟩
    · rw [if_pos e0]
      exact .inr ⟨e0, rfl, ⟨_, _, rfl⟩, ht⟩)
  clear hb hc HP HK
  go_wp2_with fail
  go_ret2
  exact ⟨_, _, rfl, K2.out, HR.out⟩
set_option maxRecDepth 100000 in
set_option maxHeartbeats 4000000 in
theorem write_unknown (x : Cm) (ad : Option Addr) (n cap z : Nat) (w : World) (hk : known x.cmd = false) :
    Calls Tryz.prog 29 #[.agg #[.int .i64 x.cmd, .bool x.a, .bool x.u, .bool x.r, .slice ad n cap], .int .i64 (z : Int)] w fun e w' => ∃ v ev, e = .returned (.tuple #[v, ev]) ∧ Below w.heap.size w w' ∧ Wrote w w' x z v ev := by
  have HC := Lib.hid (cwrite_unknown (z := z) hk)
  have HK := Lib.hid fun W => kind_any x.cmd W
  have HA := Lib.hid (al_any w (.cells #[.int .i64 x.cmd, .bool x.a, .bool x.u, .bool x.r, .slice ad n cap] 39))
  rw [hk] at HK
  clear hk
  go_enter Tryz.func29, Tryz.ntmps29
  go_wp2_with fail
  with_reducible refine (HK.out _).mono ?_
  rintro e w' ⟨rfl, rfl⟩
  go_wp2_with fail
  go_ret2
  refine ⟨_, _, rfl, HA.out, ?_⟩
  unfold Wrote
  rw [HC.out]
  exact .inr ⟨by show (5 : Nat) ≠ 0; decide, rfl, ⟨_, _, rfl⟩, .inr (.inl ⟨rfl, rfl⟩)⟩
set_option maxRecDepth 100000 in
set_option maxHeartbeats 4000000 in
theorem write_more (c : Int) (a u r : Bool) (os : List O) (ad : Option Addr) (n cap z : Nat) (w : World) (hk : known c = true) (hw : writes c = false) (hn : n = os.length) (hm : (a || u || r || !os.isEmpty) = true) :
    Calls Tryz.prog 29 #[.agg #[.int .i64 c, .bool a, .bool u, .bool r, .slice ad n cap], .int .i64 (z : Int)] w fun e w' => ∃ v ev, e = .returned (.tuple #[v, ev]) ∧ Below w.heap.size w w' ∧ Wrote w w' ⟨c, a, u, r, os⟩ z v ev := by
  have HC := Lib.hid (cwrite_more (x := ⟨c, a, u, r, os⟩) (z := z) hk hw hm)
  have HK := Lib.hid fun W => kind_any c W
  rw [hk, hw] at HK
  have HW : ∀ W, Wrote w W ⟨c, a, u, r, os⟩ z (.slice none 0 0) (.iface 71 (.int .i64 1)) := fun W => by
    unfold Wrote
    rw [HC.out]
    exact .inr ⟨by show (1 : Nat) ≠ 0; decide, rfl, ⟨_, _, rfl⟩, .inr (.inl ⟨rfl, rfl⟩)⟩
  have HW := Lib.hid HW
  clear hk hw HC
  have hcase : a = true ∨ (a = false ∧ u = true) ∨ (a = false ∧ u = false ∧ r = true) ∨ (a = false ∧ u = false ∧ r = false ∧ os ≠ []) := by
    cases a <;> cases u <;> cases r <;> simp_all
  rcases hcase with rfl | ⟨rfl, rfl⟩ | ⟨rfl, rfl, rfl⟩ | ⟨rfl, rfl, rfl, hos⟩
  · clear hm hn
    go_enter Tryz.func29, Tryz.ntmps29
    go_wp2_with fail
    with_reducible refine (HK.out _).mono ?_
    rintro e w' ⟨rfl, rfl⟩
    go_wp2_with fail
    go_ret2
    exact ⟨_, _, rfl, al_any _ _, HW.out _⟩
  · clear hm hn
    go_enter Tryz.func29, Tryz.ntmps29
    go_wp2_with fail
    with_reducible refine (HK.out _).mono ?_
    rintro e w' ⟨rfl, rfl⟩
    go_wp2_with fail
    go_ret2
    exact ⟨_, _, rfl, al_any _ _, HW.out _⟩
  · clear hm hn
    go_enter Tryz.func29, Tryz.ntmps29
    go_wp2_with fail
    with_reducible refine (HK.out _).mono ?_
    rintro e w' ⟨rfl, rfl⟩
    go_wp2_with fail
    go_ret2
    exact ⟨_, _, rfl, al_any _ _, HW.out _⟩
  · have hpos : (0 : Int) < (n : Int) := by
      have := List.length_pos_iff.2 hos
      omega
    clear hm hn hos
    go_enter Tryz.func29, Tryz.ntmps29
    go_wp2_with fail
    with_reducible refine (HK.out _).mono ?_
    rintro e w' ⟨rfl, rfl⟩
    go_wp2_with fail
    go_ret2
    exact ⟨_, _, rfl, al_any _ _, HW.out _⟩
set_option maxRecDepth 100000 in
set_option maxHeartbeats 4000000 in
theorem write_bare (cmd : Nat) (ad : Option Addr) (cap z : Nat) (w : World) (hk : known (cmd : Int) = true) (hw : writes (cmd : Int) = false) :
    Calls Tryz.prog 29 #[.agg #[.int .i64 (cmd : Int), .bool false, .bool false, .bool false, .slice ad 0 cap], .int .i64 (z : Int)] w fun e w' => ∃ v ev, e = .returned (.tuple #[v, ev]) ∧ Below w.heap.size w w' ∧ Wrote w w' ⟨(cmd : Int), false, false, false, []⟩ z v ev := by
  have HC := Lib.hid (cwrite_bare (x := ⟨(cmd : Int), false, false, false, []⟩) (z := z) hk hw (by rfl))
  have hlt : cmd < 256 := by
    simp [known, writes] at hk
    omega
  have ec : IntKind.u8.wrap (cmd : Int) = (cmd : Int) := by rw [show IntKind.u8.wrap (cmd : Int) = (cmd : Int) % 256 from rfl]; omega
  have HK := Lib.hid fun W => kind_any (cmd : Int) W
  rw [hk, hw] at HK
  have HA := Lib.hid (al_any w (.cells #[.int .i64 (cmd : Int), .bool false, .bool false, .bool false, .slice ad 0 cap] 39))
  have HN := Lib.hid (heap_alloc_new w (.cells #[.int .i64 (cmd : Int), .bool false, .bool false, .bool false, .slice ad 0 cap] 39))
  clear hk hw hlt
  go_enter Tryz.func29, Tryz.ntmps29
  go_upto_region 1 with (fail)
  generalize w.alloc (.cells #[.int .i64 (cmd : Int), .bool false, .bool false, .bool false, .slice ad 0 cap] 39) = w1 at *
  obtain ⟨c0, c1, c2, c3, c4⟩ := cells5w HN.out
  go_wp2_with fail
  with_reducible refine (HK.out _).mono ?_
  rintro e w' ⟨rfl, rfl⟩
  go_wp2_with fail
  go_ret2
  refine ⟨_, _, rfl, kept_alloc HA _, ?_⟩
  unfold Wrote
  rw [HC.out]
  rw [Int.toNat_natCast]
  exact .inl ⟨rfl, rfl, own_lit w1 w.heap.size [cmd] HA.out.size (by show 1 < 1000000; decide)⟩
/-- Write of whatever command. -/
theorem write_any (x : Cm) (ad : Option Addr) (n cap z : Nat) (w : World) (ho : OrdsIn w 0 (.slice ad n cap) x.os) (hs : Sound x.os) (hos : x.os.length ≤ 10000) (h1 : 1 ≤ z) (h2 : z ≤ 16383) :
    Calls Tryz.prog 29 #[.agg #[.int .i64 x.cmd, .bool x.a, .bool x.u, .bool x.r, .slice ad n cap], .int .i64 (z : Int)] w fun e w' => ∃ v ev, e = .returned (.tuple #[v, ev]) ∧ Below w.heap.size w w' ∧ Wrote w w' x z v ev := by
  cases hk : known x.cmd with
  | false => exact write_unknown x ad n cap z w hk
  | true =>
    obtain ⟨c, a, u, r, os⟩ := x
    simp only at hk ho hs hos ⊢
    cases hw : writes c with
    | true =>
      have hc : c = 241 ∨ c = 245 := by simp [writes] at hw; omega
      obtain ⟨m, rfl⟩ := Int.eq_ofNat_of_zero_le (a := c) (by omega)
      exact write_writes m (by omega) a u r ad n cap z os w ho hs hos h1 h2
    | false =>
      cases hm : (a || u || r || !os.isEmpty) with
      | true => exact write_more c a u r os ad n cap z w hk hw ho.len hm
      | false =>
        simp only [Bool.or_eq_false_iff, Bool.not_eq_false', List.isEmpty_iff] at hm
        obtain ⟨⟨⟨rfl, rfl⟩, rfl⟩, rfl⟩ := hm
        obtain rfl := ho.len
        have hc : 0 ≤ c := by simp [known, writes] at hk; omega
        obtain ⟨m, rfl⟩ := Int.eq_ofNat_of_zero_le hc
        exact write_bare m ad cap z w hk hw
end Str
end Go.Proofs.YtpdlpmbjhopnnaaGreatDoor
/- The document's Write of commands returns what the plain function says. Written by tools/gen_str_rwrite.py. -/
namespace Go.Proofs.YtpdlpmbjhopnnaaGreatDoor
open Go.RowKit Sha Cut Err Six Att Apd
namespace Str
open Go.Proofs.YtpdlpmbjhopnnaaGreatDoor.Ord
set_option maxRecDepth 100000 in
set_option maxHeartbeats 4000000 in
theorem rwrite_unknown (c : Int) (a u r : Bool) (os : List O) (ad : Option Addr) (n cap z : Nat) (w : World) (hk : known c = false) :
    Calls Tryz.prog 9 #[.agg #[.int .i64 c, .bool a, .bool u, .bool r, .slice ad n cap], .int .i64 (z : Int)] w fun e w' => ∃ v, e = .returned (.tuple #[v, .int .i64 ((cwrite ⟨c, a, u, r, os⟩ z).2.1 : Nat), .int .i64 (cwrite ⟨c, a, u, r, os⟩ z).2.2]) ∧ BytesIn w' v (cwrite ⟨c, a, u, r, os⟩ z).1 ∧ Below w.heap.size w w' := by
  rw [cwrite_unknown (x := ⟨c, a, u, r, os⟩) (z := z) hk]
  have HK := Lib.hid fun W => rknown_any c W
  rw [hk] at HK
  clear hk
  go_enter Tryz.func9, Tryz.ntmps9
  go_wp2_with fail
  with_reducible refine (HK.out _).mono ?_
  rintro e w' ⟨rfl, rfl⟩
  go_wp2_with fail
  go_ret3
  exact ⟨_, rfl, bytes_nil _, al_any _ _⟩
set_option maxRecDepth 100000 in
set_option maxHeartbeats 4000000 in
theorem rwrite_more (c : Int) (a u r : Bool) (os : List O) (ad : Option Addr) (n cap z : Nat) (w : World) (hk : known c = true) (hw : writes c = false) (hn : n = os.length) (hm : (a || u || r || !os.isEmpty) = true) :
    Calls Tryz.prog 9 #[.agg #[.int .i64 c, .bool a, .bool u, .bool r, .slice ad n cap], .int .i64 (z : Int)] w fun e w' => ∃ v, e = .returned (.tuple #[v, .int .i64 ((cwrite ⟨c, a, u, r, os⟩ z).2.1 : Nat), .int .i64 (cwrite ⟨c, a, u, r, os⟩ z).2.2]) ∧ BytesIn w' v (cwrite ⟨c, a, u, r, os⟩ z).1 ∧ Below w.heap.size w w' := by
  rw [cwrite_more (x := ⟨c, a, u, r, os⟩) (z := z) hk hw hm]
  have HK := Lib.hid fun W => rknown_any c W
  have HW := Lib.hid fun W => rwrites_any c W
  rw [hk] at HK
  rw [hw] at HW
  clear hk hw
  have HB : ∀ W : World, W.heap.size = w.heap.size + 1 → Below w.heap.size w W → ∀ x, Below w.heap.size w (W.alloc x) := fun W _ hb x => hb.alloc hb.size x
  have hcase : a = true ∨ (a = false ∧ u = true) ∨ (a = false ∧ u = false ∧ r = true) ∨ (a = false ∧ u = false ∧ r = false ∧ os ≠ []) := by
    cases a <;> cases u <;> cases r <;> simp_all
  rcases hcase with rfl | ⟨rfl, rfl⟩ | ⟨rfl, rfl, rfl⟩ | ⟨rfl, rfl, rfl, hos⟩
  · clear hm hn
    go_enter Tryz.func9, Tryz.ntmps9
    go_wp2_with fail
    with_reducible refine (HK.out _).mono ?_
    rintro e w' ⟨rfl, rfl⟩
    go_wp2_with fail
    with_reducible refine (HW.out _).mono ?_
    rintro e w' ⟨rfl, rfl⟩
    go_wp2_with fail
    go_ret3
    exact ⟨_, rfl, bytes_nil _, (Below.refl _ _).alloc (Nat.le_refl _) _ |>.alloc (by simp) _⟩
  · clear hm hn
    go_enter Tryz.func9, Tryz.ntmps9
    go_wp2_with fail
    with_reducible refine (HK.out _).mono ?_
    rintro e w' ⟨rfl, rfl⟩
    go_wp2_with fail
    with_reducible refine (HW.out _).mono ?_
    rintro e w' ⟨rfl, rfl⟩
    go_wp2_with fail
    go_ret3
    exact ⟨_, rfl, bytes_nil _, (Below.refl _ _).alloc (Nat.le_refl _) _ |>.alloc (by simp) _⟩
  · clear hm hn
    go_enter Tryz.func9, Tryz.ntmps9
    go_wp2_with fail
    with_reducible refine (HK.out _).mono ?_
    rintro e w' ⟨rfl, rfl⟩
    go_wp2_with fail
    with_reducible refine (HW.out _).mono ?_
    rintro e w' ⟨rfl, rfl⟩
    go_wp2_with fail
    go_ret3
    exact ⟨_, rfl, bytes_nil _, (Below.refl _ _).alloc (Nat.le_refl _) _ |>.alloc (by simp) _⟩
  · have hpos : (0 : Int) < (n : Int) := by
      have := List.length_pos_iff.2 hos
      omega
    clear hm hn hos
    go_enter Tryz.func9, Tryz.ntmps9
    go_wp2_with fail
    with_reducible refine (HK.out _).mono ?_
    rintro e w' ⟨rfl, rfl⟩
    go_wp2_with fail
    with_reducible refine (HW.out _).mono ?_
    rintro e w' ⟨rfl, rfl⟩
    go_wp2_with fail
    go_ret3
    exact ⟨_, rfl, bytes_nil _, (Below.refl _ _).alloc (Nat.le_refl _) _ |>.alloc (by simp) _⟩
set_option maxRecDepth 100000 in
set_option maxHeartbeats 4000000 in
theorem rwrite_bare (cmd : Nat) (ad : Option Addr) (cap z : Nat) (w : World) (hk : known (cmd : Int) = true) (hw : writes (cmd : Int) = false) :
    Calls Tryz.prog 9 #[.agg #[.int .i64 (cmd : Int), .bool false, .bool false, .bool false, .slice ad 0 cap], .int .i64 (z : Int)] w fun e w' => ∃ v, e = .returned (.tuple #[v, .int .i64 ((cwrite ⟨(cmd : Int), false, false, false, []⟩ z).2.1 : Nat), .int .i64 (cwrite ⟨(cmd : Int), false, false, false, []⟩ z).2.2]) ∧ BytesIn w' v (cwrite ⟨(cmd : Int), false, false, false, []⟩ z).1 ∧ Below w.heap.size w w' := by
  rw [cwrite_bare (x := ⟨(cmd : Int), false, false, false, []⟩) (z := z) hk hw (by rfl)]
  have hlt : cmd < 256 := by
    simp [known, writes] at hk
    omega
  have ec : IntKind.u8.wrap (cmd : Int) = (cmd : Int) := by rw [show IntKind.u8.wrap (cmd : Int) = (cmd : Int) % 256 from rfl]; omega
  have HK := Lib.hid fun W => rknown_any (cmd : Int) W
  have HW := Lib.hid fun W => rwrites_any (cmd : Int) W
  rw [hk] at HK
  rw [hw] at HW
  have HA := Lib.hid (al_any w (.cells #[.int .i64 (cmd : Int), .bool false, .bool false, .bool false, .slice ad 0 cap] 39))
  have HN := Lib.hid (heap_alloc_new w (.cells #[.int .i64 (cmd : Int), .bool false, .bool false, .bool false, .slice ad 0 cap] 39))
  clear hk hw hlt
  go_enter Tryz.func9, Tryz.ntmps9
  go_upto_region 1 with (fail)
  generalize w.alloc (.cells #[.int .i64 (cmd : Int), .bool false, .bool false, .bool false, .slice ad 0 cap] 39) = w1 at *
  obtain ⟨c0, c1, c2, c3, c4⟩ := cells5w HN.out
  have l1 := there_lt HN.out
  go_wp2_with fail
  with_reducible refine (HK.out _).mono ?_
  rintro e w' ⟨rfl, rfl⟩
  go_wp2_with fail
  with_reducible refine (HW.out _).mono ?_
  rintro e w' ⟨rfl, rfl⟩
  go_wp2_with fail
  go_ret3
  refine ⟨_, rfl, ?_, kept_alloc HA _⟩
  simp only [Int.toNat_natCast]
  exact lit_in w1 [cmd]
set_option maxRecDepth 100000 in
set_option maxHeartbeats 8000000 in
theorem rwrite_writes (cmd : Nat) (hcm : cmd = 241 ∨ cmd = 245) (a u r : Bool) (ad : Option Addr) (n cap z : Nat) (os : List O) (w : World) (ho : OrdsIn w 0 (.slice ad n cap) os) (hs : Sound os) (hos : os.length ≤ 10000) (h2 : z ≤ 16383) :
    Calls Tryz.prog 9 #[.agg #[.int .i64 (cmd : Int), .bool a, .bool u, .bool r, .slice ad n cap], .int .i64 (z : Int)] w fun e w' => ∃ v, e = .returned (.tuple #[v, .int .i64 ((cwrite ⟨(cmd : Int), a, u, r, os⟩ z).2.1 : Nat), .int .i64 (cwrite ⟨(cmd : Int), a, u, r, os⟩ z).2.2]) ∧ BytesIn w' v (cwrite ⟨(cmd : Int), a, u, r, os⟩ z).1 ∧ Below w.heap.size w w' := by
  obtain rfl := ho.len
  have hk : known (cmd : Int) = true := by rcases hcm with rfl | rfl <;> decide
  have hw : writes (cmd : Int) = true := by rcases hcm with rfl | rfl <;> decide
  have HR := cwrite_writes (x := ⟨(cmd : Int), a, u, r, os⟩) (z := z) hk hw
  simp only [Int.toNat_natCast] at HR
  generalize cwrite ⟨(cmd : Int), a, u, r, os⟩ z = R at HR ⊢
  have HK := Lib.hid fun W => rknown_any (cmd : Int) W
  have HW := Lib.hid fun W => rwrites_any (cmd : Int) W
  rw [hk] at HK
  rw [hw] at HW
  have ec : IntKind.u8.wrap (cmd : Int) = (cmd : Int) := by rw [show IntKind.u8.wrap (cmd : Int) = (cmd : Int) % 256 from rfl]; omega
  have HO := Lib.hid ho
  have HS := Lib.hid hs
  have HZ2 := Lib.hid h2
  have HA := Lib.hid (al_any w (.cells #[.int .i64 (cmd : Int), .bool a, .bool u, .bool r, .slice ad os.length cap] 39))
  have HN := Lib.hid (heap_alloc_new w (.cells #[.int .i64 (cmd : Int), .bool a, .bool u, .bool r, .slice ad os.length cap] 39))
  have HPW := Lib.hid fun W => rputWcc a u r W
  generalize put (wnum a u r) = pw at *
  replace HR := Lib.hid HR
  clear ho hs h2 hk hw hcm
  go_enter Tryz.func9, Tryz.ntmps9
  go_upto_region 1 with (fail)
  generalize w.alloc (.cells #[.int .i64 (cmd : Int), .bool a, .bool u, .bool r, .slice ad os.length cap] 39) = w1 at *
  obtain ⟨c0, c1, c2, c3, c4⟩ := cells5w HN.out
  have l1 := there_lt HN.out
  go_wp2_with fail
  with_reducible refine (HK.out _).mono ?_
  rintro e w' ⟨rfl, rfl⟩
  go_wp2_with fail
  clear c0 c1 c2 c3 c4 l1
  have L1 := Lib.hid (show (w1.alloc (.cells #[.int .u8 (cmd : Int)] 5)).ownsRow (w.heap.size + 1) 5 1 (.slice (some ⟨w1.heap.size, 0, none⟩) 1 1) 1 (u8s [cmd]) from own_lit w1 (w.heap.size + 1) [cmd] (there_lt HN.out) (by show 1 < 1000000; decide))
  have K2 := kept_alloc HA (.cells #[.int .u8 (cmd : Int)] 5)
  have N2 := Lib.hid (blk HN.out (al_any w1 (.cells #[.int .u8 (cmd : Int)] 5)))
  have HG := Lib.hid (there_lt HN.out)
  generalize w1.heap.size = g1 at *
  generalize w1.alloc (.cells #[.int .u8 (cmd : Int)] 5) = w2 at *
  with_reducible refine (HW.out _).mono ?_
  rintro e w' ⟨rfl, rfl⟩
  obtain ⟨c0, c1, c2, c3, c4⟩ := cells5w N2.out
  go_wp2_with fail
  clear c0 c1 c2 c3 c4 HA HN HK HW
  with_reducible refine (HPW.out w2).mono ?_
  rintro e w3 ⟨rfl, hb⟩
  have hb4 := kept_trans hb (al_any w3 (.cells #[.int .u8 (pw : Int)] 5))
  have K4 := kept_hid K2 hb4
  have N4 := Lib.hid (blk N2.out hb4)
  have L4 := Lib.hid (own_below L1.out hb4)
  have P4 := Lib.hid (show BytesIn (w3.alloc (.cells #[.int .u8 (pw : Int)] 5)) (.slice (some ⟨w3.heap.size, 0, none⟩) 1 1) [pw] from lit_in w3 [pw])
  have HB4 := Lib.hid (own_blocks L1.out)
  clear hb hb4 K2 N2 L1 HPW
  go_wp2_with (at_builtin; refine wpList_mark ?_)
  refine Lib.hid ?_
  refine append_own rfl (.tmp 33) (.tmp 37) rfl (w.heap.size + 1) _ _ _ rfl L4.out (some ⟨w3.heap.size, 0, none⟩) 1 1 [pw] rfl rfl nofun (bytes_src P4.out) (by decide) (there_lt N4.out) ?_
  intro v5 w5 hown hgr _
  have K5 := Lib.hid (below_own K4.out hgr (own_mono L4.out (Nat.le_succ _)))
  have N5 := Lib.hid (blk_g N4.out hgr (by intro e; injection e with e; simp only at e; have := HG.out; omega))
  have OW := Lib.hid (show w5.ownsRow (w.heap.size + 1) 5 1 v5 ((obs z (os.take 0)).length + 2) (u8s (cmd :: pw :: obs z (os.take 0))) from hown)
  obtain ⟨va5, vc5, rfl⟩ := own_form OW.out
  clear hown hgr K4 N4 L4 P4 HB4
  go_wp2_with fail
  go_loopg [7, 8] (os.length + 1) (fun m vb i wr => ∃ k : Nat, k ≤ os.length ∧ m = os.length + 1 - k ∧ i = .int .i64 k ∧ (∃ ba bc, vb = .slice ba ((obs z (os.take k)).length + 2) bc ∧ Hid (wr.ownsRow (w.heap.size + 1) 5 1 (.slice ba ((obs z (os.take k)).length + 2) bc) ((obs z (os.take k)).length + 2) (u8s (cmd :: pw :: obs z (os.take k))))) ∧ Hid (Below w.heap.size w wr) ∧ Hid (wr.heap[w.heap.size]? = some (.cells #[.int .i64 (cmd : Int), .bool a, .bool u, .bool r, .slice ad os.length cap] 39 (0, 0))) ∧ Hid (Fine z os k))
  case atStart => exact ⟨0, Nat.zero_le _, rfl, rfl, ⟨_, _, rfl, OW⟩, K5, N5, Lib.hid (fine_0 z os)⟩
  case round =>
    clear OW K5 N5 HG
    obtain ⟨k, hk, rfl, rfl, ⟨ba, bc, rfl, HO8⟩, HB, HN, HF⟩ := hrel
    have ew : IntKind.i64.wrap ((k : Int) + 1) = (k : Int) + 1 := by
      rw [IntWalk.i64_in] <;> omega
    obtain ⟨c0, c1, c2, c3, c4⟩ := cells5w HN.out
    by_cases hlt : k < os.length
    · obtain ⟨ok, ot, op, on, os_, om, oa, oc, ex⟩ := o_eta (os.getD k none_)
      obtain ⟨b1, o1, ta, tn, tc, rfl, g0, g1, g2, g3, g4, g5, g6, g7, B1, N1⟩ := (HO.out.below HB.out).cells hlt ex
      have hi0 : (0 : Int) ≤ (k : Int) := by omega
      have hi1 : (k : Int) < (os.length : Int) := by omega
      have sx := sound_at HS.out k
      rw [ex] at sx
      simp only at sx
      have HWR := Lib.hid (rwrong_any ⟨ok, ot, op, on, os_, om, oa, oc⟩ ta tn tc z wr B1 sx.1 sx.2.1 sx.2.2)
      by_cases hw : wrong ⟨ok, ot, op, on, os_, om, oa, oc⟩ z ≠ 0
      · have HFI := Lib.hid (show ow z false 0 os = (wrong ⟨ok, ot, op, on, os_, om, oa, oc⟩ z, k) by rw [← ex]; exact fine_wrong HF.out hlt (by rw [ex]; exact hw))
        have HWW := Lib.hid hw
        clear B1 N1 sx
        generalize wrong ⟨ok, ot, op, on, os_, om, oa, oc⟩ z = why at *
        have e1 : ((why : Int) == 0) = false := by simp; exact hw
        have e2 : ((why : Int) != 0) = true := by simp; exact hw
        clear hw
        go_wp2_with fail
        clear g0 g1 g2 g3 g4 g5 g6 g7 c0 c1 c2 c3 c4
        with_reducible refine HWR.out.mono ?_
        rintro e w3 ⟨rfl, hb⟩
        have K3 := kept_hid HB hb
        clear hb HWR
        go_wp2_with fail
        go_ret3
        have hR := HR.out
        rw [HFI.out, if_pos HWW.out] at hR
        subst hR
        exact ⟨.slice none 0 0, rfl, bytes_nil _, K3.out⟩
      · have hw : wrong ⟨ok, ot, op, on, os_, om, oa, oc⟩ z = 0 := Classical.not_not.1 hw
        rw [hw] at HWR
        have HFW := Lib.hid hw
        have HBL := Lib.hid (show (obytes ⟨ok, ot, op, on, os_, om, oa, oc⟩ z).length ≤ 1000000 by have := (obytes_len hw).1; have := sx.2.1; simp only at *; omega)
        have HTK := Lib.hid (show obs z (os.take (k + 1)) = obs z (os.take k) ++ obytes ⟨ok, ot, op, on, os_, om, oa, oc⟩ z by rw [take_o hlt, obs_append, ex]; simp [obs])
        have HLT := Lib.hid (obs_take_le HF.out.2 HS.out)
        have HPT0 := Lib.hid fun W hb => rput_right ⟨ok, ot, op, on, os_, om, oa, oc⟩ ta tn tc z W (bytes_below B1 hb) sx.2.1 N1 hw HZ2.out
        clear B1 N1 sx hw
        generalize obytes ⟨ok, ot, op, on, os_, om, oa, oc⟩ z = bs at *
        have HKD := Lib.hid fun j hj => (HO.out.below HB.out).kind (i := j) hj
        go_wp2_with fail
        with_reducible refine HWR.out.mono ?_
        rintro e w3 ⟨rfl, hb⟩
        have K3 := kept_hid HB hb
        have N3 := Lib.hid (blk HN.out hb)
        have HBW := Lib.hid hb
        have HPT := Lib.hid (HPT0.out w3 hb)
        have UP := Lib.hid fun (o : Nat) (v : Value) (h : wr.cell? ⟨b1, o, none⟩ = some v) => (hb.cell (p := ⟨b1, o, none⟩) (cell_lt h)).trans h
        replace g0 := UP.out _ _ g0
        replace g1 := UP.out _ _ g1
        replace g2 := UP.out _ _ g2
        replace g3 := UP.out _ _ g3
        replace g4 := UP.out _ _ g4
        replace g5 := UP.out _ _ g5
        replace g6 := UP.out _ _ g6
        replace g7 := UP.out _ _ g7
        clear c0 c1 c2 c3 c4
        obtain ⟨c0, c1, c2, c3, c4⟩ := cells5w N3.out
        clear hb HPT0
        by_cases h0 : k = 0
        · have HFS := Lib.hid (fine_step HF.out hlt (by rw [ex]; exact HFW.out) (by rw [ex]; subst h0; simp [bk]))
          have hq : ¬ (0 : Int) < (k : Int) := by omega
          clear h0
          clear HWR
          go_wp2_with fail
          clear g0 g1 g2 g3 g4 g5 g6 g7 c0 c1 c2 c3 c4
          with_reducible refine HPT.out.mono ?_
          rintro e w4 ⟨v, rfl, hown, hb⟩
          have K4 := kept_hid K3 hb
          have N4 := blk N3.out hb
          have HO4 := Lib.hid (own_below (own_below HO8.out HBW.out) hb)
          obtain ⟨va, vc, rfl⟩ := own_form hown
          have HNN := Lib.hid (own_nil hown)
          have HSV := Lib.hid (bytes_src (own_bytes hown))
          have HBO := Lib.hid (own_blocks HO8.out)
          clear hown hb HPT HO8 HBW N3 HN HB
          go_wp2_with (at_builtin; refine wpList_mark ?_)
          refine Lib.hid ?_
          refine append_own rfl (.tmp 82) (.tmp 89) rfl (w.heap.size + 1) _ _ _ rfl HO4.out va _ vc _ rfl rfl HNN.out HSV.out ?_ (there_lt N4) ?_
          · have h1 := HLT.out; have h2 := HBL.out; have h3 : k * 1000000 ≤ 10000 * 1000000 := Nat.mul_le_mul_right _ (by omega); omega
          intro v2 w5 hown hgr _
          have K5 := Lib.hid (below_own K4.out hgr (own_mono HO4.out (Nat.le_succ _)))
          have N5 := Lib.hid (blk_g N4 hgr (by
            intro e
            cases ba with
            | none => cases e
            | some x => injection e with e; have := (HBO.out x rfl).1; omega))
          have HO5 := Lib.hid (show w5.ownsRow (w.heap.size + 1) 5 1 v2 ((obs z (os.take (k + 1))).length + 2) (u8s (cmd :: pw :: obs z (os.take (k + 1)))) by
            rw [HTK.out]
            have e1 : (obs z (os.take k) ++ bs).length + 2 = (obs z (os.take k)).length + 2 + bs.length := by rw [List.length_append]; omega
            rw [e1]
            have e2 : u8s (cmd :: pw :: (obs z (os.take k) ++ bs)) = u8s (cmd :: pw :: obs z (os.take k)) ++ u8s bs := by simp [u8s]
            rw [e2]; exact hown)
          obtain ⟨va2, vc2, rfl⟩ := own_form HO5.out
          clear hown hgr K4 N4 HO4 HNN HSV HBO HLT HTK HBL
          go_wp2_with fail
          go_roundg (os.length + 1 - (k + 1))
          case measure => omega
          case rel => exact ⟨k + 1, by omega, rfl, rfl, ⟨_, _, rfl, HO5⟩, K5, N5, HFS⟩
        · have hq : (0 : Int) < (k : Int) := by omega
          have HK0 := Lib.hid h0
          clear h0
          by_cases hok : ok = 1
          · have hok1 : (ok == 1) = true := by simp [hok]
            have HOK := Lib.hid hok
            clear hok
            have p0 := UP.out _ _ (HKD.out (k - 1) (by omega))
            have HBK := Lib.hid (show bk os k = (os.getD (k - 1) none_).k from by unfold bk; rw [if_neg HK0.out])
            generalize (os.getD (k - 1) none_).k = pk at *
            have ew3 : IntKind.i64.wrap ((k : Int) - 1) = (k : Int) - 1 := by
              rw [IntWalk.i64_in] <;> omega
            have hj0 : (0 : Int) ≤ (k : Int) - 1 := by omega
            have hj1 : (k : Int) - 1 < (os.length : Int) := by omega
            have hj2 : ((k : Int) - 1).toNat = k - 1 := by omega
            by_cases hpk : pk = 1
            · have HFI := Lib.hid (show ow z false 0 os = (1, k) from fine_text HF.out hlt (by rw [ex]; exact HFW.out) (by rw [HBK.out]; exact hpk) (by rw [ex]; exact HOK.out))
              have hpk1 : (pk == 1) = true := by simp [hpk]
              clear hpk HWR
              go_wp2_with fail
              go_ret3
              have hR := HR.out
              rw [HFI.out, if_pos (show (1 : Nat) ≠ 0 by decide)] at hR
              subst hR
              exact ⟨.slice none 0 0, rfl, bytes_nil _, K3.out⟩
            · have HFS := Lib.hid (fine_step HF.out hlt (by rw [ex]; exact HFW.out) (by rw [HBK.out]; exact fun h => hpk h.1))
              have hpk1 : (pk == 1) = false := by simp [hpk]
              clear hpk
              clear HWR
              go_wp2_with fail
              clear p0 g0 g1 g2 g3 g4 g5 g6 g7 c0 c1 c2 c3 c4
              with_reducible refine HPT.out.mono ?_
              rintro e w4 ⟨v, rfl, hown, hb⟩
              have K4 := kept_hid K3 hb
              have N4 := blk N3.out hb
              have HO4 := Lib.hid (own_below (own_below HO8.out HBW.out) hb)
              obtain ⟨va, vc, rfl⟩ := own_form hown
              have HNN := Lib.hid (own_nil hown)
              have HSV := Lib.hid (bytes_src (own_bytes hown))
              have HBO := Lib.hid (own_blocks HO8.out)
              clear hown hb HPT HO8 HBW N3 HN HB
              go_wp2_with (at_builtin; refine wpList_mark ?_)
              refine Lib.hid ?_
              refine append_own rfl (.tmp 82) (.tmp 89) rfl (w.heap.size + 1) _ _ _ rfl HO4.out va _ vc _ rfl rfl HNN.out HSV.out ?_ (there_lt N4) ?_
              · have h1 := HLT.out; have h2 := HBL.out; have h3 : k * 1000000 ≤ 10000 * 1000000 := Nat.mul_le_mul_right _ (by omega); omega
              intro v2 w5 hown hgr _
              have K5 := Lib.hid (below_own K4.out hgr (own_mono HO4.out (Nat.le_succ _)))
              have N5 := Lib.hid (blk_g N4 hgr (by
                intro e
                cases ba with
                | none => cases e
                | some x => injection e with e; have := (HBO.out x rfl).1; omega))
              have HO5 := Lib.hid (show w5.ownsRow (w.heap.size + 1) 5 1 v2 ((obs z (os.take (k + 1))).length + 2) (u8s (cmd :: pw :: obs z (os.take (k + 1)))) by
                rw [HTK.out]
                have e1 : (obs z (os.take k) ++ bs).length + 2 = (obs z (os.take k)).length + 2 + bs.length := by rw [List.length_append]; omega
                rw [e1]
                have e2 : u8s (cmd :: pw :: (obs z (os.take k) ++ bs)) = u8s (cmd :: pw :: obs z (os.take k)) ++ u8s bs := by simp [u8s]
                rw [e2]; exact hown)
              obtain ⟨va2, vc2, rfl⟩ := own_form HO5.out
              clear hown hgr K4 N4 HO4 HNN HSV HBO HLT HTK HBL
              go_wp2_with fail
              go_roundg (os.length + 1 - (k + 1))
              case measure => omega
              case rel => exact ⟨k + 1, by omega, rfl, rfl, ⟨_, _, rfl, HO5⟩, K5, N5, HFS⟩
          · have HFS := Lib.hid (fine_step HF.out hlt (by rw [ex]; exact HFW.out) (by rw [ex]; exact fun h => hok h.2))
            have hok1 : (ok == 1) = false := by simp [hok]
            clear hok
            clear HWR
            go_wp2_with fail
            clear g0 g1 g2 g3 g4 g5 g6 g7 c0 c1 c2 c3 c4
            with_reducible refine HPT.out.mono ?_
            rintro e w4 ⟨v, rfl, hown, hb⟩
            have K4 := kept_hid K3 hb
            have N4 := blk N3.out hb
            have HO4 := Lib.hid (own_below (own_below HO8.out HBW.out) hb)
            obtain ⟨va, vc, rfl⟩ := own_form hown
            have HNN := Lib.hid (own_nil hown)
            have HSV := Lib.hid (bytes_src (own_bytes hown))
            have HBO := Lib.hid (own_blocks HO8.out)
            clear hown hb HPT HO8 HBW N3 HN HB
            go_wp2_with (at_builtin; refine wpList_mark ?_)
            refine Lib.hid ?_
            refine append_own rfl (.tmp 82) (.tmp 89) rfl (w.heap.size + 1) _ _ _ rfl HO4.out va _ vc _ rfl rfl HNN.out HSV.out ?_ (there_lt N4) ?_
            · have h1 := HLT.out; have h2 := HBL.out; have h3 : k * 1000000 ≤ 10000 * 1000000 := Nat.mul_le_mul_right _ (by omega); omega
            intro v2 w5 hown hgr _
            have K5 := Lib.hid (below_own K4.out hgr (own_mono HO4.out (Nat.le_succ _)))
            have N5 := Lib.hid (blk_g N4 hgr (by
              intro e
              cases ba with
              | none => cases e
              | some x => injection e with e; have := (HBO.out x rfl).1; omega))
            have HO5 := Lib.hid (show w5.ownsRow (w.heap.size + 1) 5 1 v2 ((obs z (os.take (k + 1))).length + 2) (u8s (cmd :: pw :: obs z (os.take (k + 1)))) by
              rw [HTK.out]
              have e1 : (obs z (os.take k) ++ bs).length + 2 = (obs z (os.take k)).length + 2 + bs.length := by rw [List.length_append]; omega
              rw [e1]
              have e2 : u8s (cmd :: pw :: (obs z (os.take k) ++ bs)) = u8s (cmd :: pw :: obs z (os.take k)) ++ u8s bs := by simp [u8s]
              rw [e2]; exact hown)
            obtain ⟨va2, vc2, rfl⟩ := own_form HO5.out
            clear hown hgr K4 N4 HO4 HNN HSV HBO HLT HTK HBL
            go_wp2_with fail
            go_roundg (os.length + 1 - (k + 1))
            case measure => omega
            case rel => exact ⟨k + 1, by omega, rfl, rfl, ⟨_, _, rfl, HO5⟩, K5, N5, HFS⟩
    · have hkl : k = os.length := by omega
      have HE := Lib.hid (show os.take k = os by rw [hkl]; exact List.take_length)
      have HW0 := Lib.hid (show (ow z false 0 os).1 = 0 by rw [hkl] at HF; exact fine_end HF.out)
      rw [HE.out] at HO8 ⊢
      obtain ⟨L, hL⟩ : ∃ L, L = (obs z os).length + 2 := ⟨_, rfl⟩
      have HLL := Lib.hid hL
      rw [← hL] at HO8 ⊢
      clear hL
      have hn0 : ¬ (k : Int) < (os.length : Int) := by omega
      clear hlt hk hkl
      by_cases hbig : 8192 < L
      · have hb : (8192 : Int) < (L : Int) := by omega
        have HBG := Lib.hid hbig
        clear hbig
        go_wp2_with fail
        go_ret3
        have hg : 8192 < (obs z os).length + 2 := by rw [← HLL.out]; exact HBG.out
        have hR := HR.out
        rw [if_neg (by rw [HW0.out]; simp), if_pos hg] at hR
        subst hR
        exact ⟨.slice none 0 0, rfl, bytes_nil _, HB.out⟩
      · have hb : ¬ (8192 : Int) < (L : Int) := by omega
        have HBG := Lib.hid hbig
        clear hbig
        go_wp2_with fail
        go_ret3
        have hg : ¬ 8192 < (obs z os).length + 2 := by rw [← HLL.out]; exact HBG.out
        have hR := HR.out
        rw [if_neg (by rw [HW0.out]; simp), if_neg hg] at hR
        subst hR
        exact ⟨.slice ba L bc, rfl, own_bytes HO8.out, HB.out⟩
/-- The document's Write of whatever command. -/
theorem rwrite_any (x : Cm) (ad : Option Addr) (n cap z : Nat) (w : World) (ho : OrdsIn w 0 (.slice ad n cap) x.os) (hs : Sound x.os) (hos : x.os.length ≤ 10000) (h2 : z ≤ 16383) :
    Calls Tryz.prog 9 #[.agg #[.int .i64 x.cmd, .bool x.a, .bool x.u, .bool x.r, .slice ad n cap], .int .i64 (z : Int)] w fun e w' => ∃ v, e = .returned (.tuple #[v, .int .i64 ((cwrite x z).2.1 : Nat), .int .i64 (cwrite x z).2.2]) ∧ BytesIn w' v (cwrite x z).1 ∧ Below w.heap.size w w' := by
  obtain ⟨c, a, u, r, os⟩ := x
  simp only at ho hs hos ⊢
  cases hk : known c with
  | false => exact rwrite_unknown c a u r os ad n cap z w hk
  | true =>
    cases hw : writes c with
    | true =>
      have hc : c = 241 ∨ c = 245 := by simp [writes] at hw; omega
      obtain ⟨m, rfl⟩ := Int.eq_ofNat_of_zero_le (a := c) (by omega)
      exact rwrite_writes m (by omega) a u r ad n cap z os w ho hs hos h2
    | false =>
      cases hm : (a || u || r || !os.isEmpty) with
      | true => exact rwrite_more c a u r os ad n cap z w hk hw ho.len hm
      | false =>
        simp only [Bool.or_eq_false_iff, Bool.not_eq_false', List.isEmpty_iff] at hm
        obtain ⟨⟨⟨rfl, rfl⟩, rfl⟩, rfl⟩ := hm
        obtain rfl := ho.len
        have hc : 0 ≤ c := by simp [known, writes] at hk; omega
        obtain ⟨m, rfl⟩ := Int.eq_ofNat_of_zero_le hc
        exact rwrite_bare m ad cap z w hk hw
end Str
end Go.Proofs.YtpdlpmbjhopnnaaGreatDoor
