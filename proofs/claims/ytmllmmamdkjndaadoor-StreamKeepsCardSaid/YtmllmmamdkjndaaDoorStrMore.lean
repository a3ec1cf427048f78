/- Plain: what is read are bytes; where what is wrong is told; a beginning has no more orders; lengths. -/
import Derived.Test.YtmllmmamdkjndaaDoorBunPlain
namespace Go.Proofs.YtmllmmamdkjndaaDoor
open Six
namespace Str
open Att Go.Proofs.YtmllmmamdkjndaaDoor.Ord
theorem oget_lt {ys : List Nat} {z : Nat} (h8 : ∀ y ∈ ys, y < 256) : (∀ x ∈ (oget ys z).1.t, x < 256) ∧ (oget ys z).1.c < 256 ∧ (oget ys z).1.t.length ≤ ys.length ∧ (oget ys z).2.1 ≤ ys.length := by
  cases ys with
  | nil => simp [oget, none_]
  | cons b r =>
    have hb := h8 b (by simp)
    unfold oget
    simp only
    by_cases hc : char b = true
    · rw [if_pos hc]
      exact ⟨fun x hx => h8 x ((List.takeWhile_sublist char).subset hx), by show (0:Nat) < 256; decide, (List.takeWhile_sublist char).length_le, (List.takeWhile_sublist char).length_le⟩
    · rw [if_neg hc]
      have hd : ∀ c r', r.drop 2 = c :: r' → c < 256 ∧ 3 ≤ r.length := fun c r' e => by
        have h1 : c ∈ r.drop 2 := by rw [e]; simp
        have h2 := congrArg List.length e
        simp only [List.length_drop, List.length_cons] at h2
        exact ⟨h8 c (List.mem_cons_of_mem _ (List.mem_of_mem_drop h1)), by omega⟩
      have ha : (Adr.aspec r z).2.1 = 0 → 2 ≤ r.length := fun hw => by
        obtain ⟨a, r', _, _, h3, _⟩ := Adr.put_aspec r z (fun y hy => h8 y (by simp [hy])) hw
        rw [h3]; simp
      repeat' split
      all_goals simp_all [none_]
      all_goals first | omega | skip
/-- Where what is wrong with an order is told: within the bytes. -/
theorem ords_where (z : Nat) : ∀ (f : Nat) (ys : List Nat) (at_ : Nat), (∀ y ∈ ys, y < 256) → at_ ≤ (ords z f at_ ys).2.2 ∧ (ords z f at_ ys).2.2 ≤ at_ + ys.length := by
  intro f
  induction f with
  | zero => intro ys at_ _; simp [ords]
  | succ f ih =>
    intro ys at_ h8
    cases ys with
    | nil => simp [ords]
    | cons y r =>
      obtain ⟨_, _, _, hl⟩ := oget_lt (z := z) h8
      have h8' : ∀ x ∈ (y :: r).drop (oget (y :: r) z).2.1, x < 256 := fun x hx => h8 x (List.mem_of_mem_drop hx)
      have hk := ih _ (at_ + (oget (y :: r) z).2.1) h8'
      rw [List.length_drop] at hk
      by_cases h1 : (oget (y :: r) z).2.2 = 0
      · by_cases h2 : (ords z f (at_ + (oget (y :: r) z).2.1) ((y :: r).drop (oget (y :: r) z).2.1)).2.1 = 0
        · simp only [ords, h1, h2, ne_eq, not_true_eq_false, if_false]
          omega
        · simp only [ords, h1, h2, ne_eq, not_true_eq_false, not_false_eq_true, if_false, if_true]
          omega
      · simp only [ords, h1, ne_eq, not_false_eq_true, if_true]
        omega
/-- What is read are sound orders. -/
theorem ords_sound (z : Nat) : ∀ (f : Nat) (ys : List Nat) (at_ : Nat), (∀ y ∈ ys, y < 256) → ∀ o ∈ (ords z f at_ ys).1, (∀ x ∈ o.t, x < 256) ∧ o.t.length ≤ ys.length ∧ o.c < 256 := by
  intro f
  induction f with
  | zero => intro ys at_ _; simp [ords]
  | succ f ih =>
    intro ys at_ h8
    cases ys with
    | nil => simp [ords]
    | cons y r =>
      obtain ⟨g1, g2, g3, _⟩ := oget_lt (z := z) h8
      have h8' : ∀ x ∈ (y :: r).drop (oget (y :: r) z).2.1, x < 256 := fun x hx => h8 x (List.mem_of_mem_drop hx)
      have hk := ih _ (at_ + (oget (y :: r) z).2.1) h8'
      by_cases h1 : (oget (y :: r) z).2.2 = 0
      · by_cases h2 : (ords z f (at_ + (oget (y :: r) z).2.1) ((y :: r).drop (oget (y :: r) z).2.1)).2.1 = 0
        · simp only [ords, h1, h2, ne_eq, not_true_eq_false, if_false]
          intro o ho
          rcases List.mem_cons.1 ho with rfl | ho
          · exact ⟨g1, g3, g2⟩
          · obtain ⟨k1, k2, k3⟩ := hk o ho
            rw [List.length_drop] at k2
            exact ⟨k1, by omega, k3⟩
        · simp only [ords, h1, h2, ne_eq, not_true_eq_false, not_false_eq_true, if_false, if_true]
          nofun
      · simp only [ords, h1, ne_eq, not_false_eq_true, if_true]
        nofun
/-- As many orders as bytes, at most. -/
theorem ords_few (z : Nat) : ∀ (f : Nat) (ys : List Nat) (at_ : Nat), (ords z f at_ ys).1.length ≤ f := by
  intro f
  induction f with
  | zero => intro ys at_; simp [ords]
  | succ f ih =>
    intro ys at_
    cases ys with
    | nil => simp [ords]
    | cons y r =>
      have hk := ih ((y :: r).drop (oget (y :: r) z).2.1) (at_ + (oget (y :: r) z).2.1)
      unfold ords
      split
      · simp
      · split
        · simp
        · simp only [List.length_cons]; omega
/-- A beginning of orders' bytes that are orders: no more of them. -/
theorem ords_prefix (z : Nat) (hz : z ≤ 16383) : ∀ (f' f : Nat) (ys' ys : List Nat) (at' at_ : Nat), (∀ y ∈ ys, y < 256) → ys' <+: ys → ys'.length ≤ f' → ys.length ≤ f → (ords z f' at' ys').2.1 = 0 → (ords z f at_ ys).2.1 = 0 →
    (ords z f' at' ys').1.length ≤ (ords z f at_ ys).1.length := by
  intro f'
  induction f' with
  | zero => intro f ys' ys at' at_ _ _ _ _ _ _; simp [ords]
  | succ f' ih =>
    intro f ys' ys at' at_ h8 hp hl' hl hw' hw
    cases ys' with
    | nil => simp [ords]
    | cons y' r' =>
      obtain ⟨s, hs⟩ := hp
      cases ys with
      | nil => simp at hs
      | cons y r =>
        cases f with
        | zero => simp at hl
        | succ f =>
          have h8' : ∀ x ∈ y' :: r', x < 256 := fun x hx => h8 x (by rw [← hs]; exact List.mem_append_left _ hx)
          by_cases h1 : (oget (y' :: r') z).2.2 = 0
          · obtain ⟨hw1, rest, he, htk, hend⟩ := oget_written h8' h1
            have hpos := obytes_pos hw1
            by_cases h2 : (oget (y :: r) z).2.2 = 0
            · by_cases h3 : (ords z f' (at' + (oget (y' :: r') z).2.1) ((y' :: r').drop (oget (y' :: r') z).2.1)).2.1 = 0
              · by_cases h4 : (ords z f (at_ + (oget (y :: r) z).2.1) ((y :: r).drop (oget (y :: r) z).2.1)).2.1 = 0
                · simp only [ords, h1, h2, h3, h4, ne_eq, not_true_eq_false, if_false, List.length_cons]
                  clear hw hw'
                  generalize hq : oget (y' :: r') z = q at *
                  by_cases hr : rest = []
                  · have hd : (y' :: r').drop q.2.1 = [] := by
                      rw [htk, he, hr]; simp
                    rw [hd]
                    cases f' <;> simp [ords]
                  · have e2 : oget (y :: r) z = (q.1, (obytes q.1 z).length, 0) := by
                      have := oget_put hw1 hz (r := rest ++ s) (fun hk x r'' e => by
                        cases rest with
                        | nil => exact absurd rfl hr
                        | cons x' rest' =>
                          injection e with e3 _
                          rw [← e3]; exact hend hk x' rest' rfl)
                      rw [← List.append_assoc, ← he, hs] at this
                      exact this
                    have hd1 : (y' :: r').drop q.2.1 = rest := by
                      rw [htk, he]; simp
                    have hd2 : (y :: r).drop (oget (y :: r) z).2.1 = rest ++ s := by
                      rw [e2, ← hs, he]; simp
                    rw [hd1] at h3 ⊢
                    rw [hd2] at h4 ⊢
                    have hlr := congrArg List.length he
                    have hls := congrArg List.length hs
                    simp only [List.length_append, List.length_cons] at hlr hls hl' hl
                    have := ih f rest (rest ++ s) (at' + q.2.1) (at_ + (oget (y :: r) z).2.1) (fun x hx => h8 x (by
                      rw [← hs, he]; simp only [List.mem_append] at hx ⊢; rcases hx with hx | hx
                      · exact .inl (.inr hx)
                      · exact .inr hx)) ⟨s, rfl⟩ (by omega) (by simp only [List.length_append]; omega) h3 h4
                    omega
                · simp [ords, h2, h4] at hw
              · simp [ords, h1, h3] at hw'
            · simp [ords, h2] at hw
          · simp [ords, h1] at hw'
/-- An order's bytes, by its kind. -/
def olen (o : O) : Nat := o.t.length + (if o.k = 2 then 2 else if o.k = 3 then 3 else if o.k = 4 then 1 else if o.k = 5 then 1 else if o.k = 6 then 4 else if o.k = 7 then 3 else 0)
theorem olen_right {o : O} {z : Nat} (h : wrong o z = 0) : (obytes o z).length = olen o ∧ 1 ≤ o.k ∧ o.k ≤ 7 := by
  rcases right_cases h with ⟨t, rfl, h1, h2⟩ | ⟨p, n, m, s, rfl, hs⟩ | ⟨a, rfl, ha⟩ | rfl | rfl | ⟨a, c, rfl, ha, hc⟩ | ⟨a, rfl, ha⟩ <;> simp [obytes, olen]
def olens (os : List O) : Nat := (os.map olen).sum
theorem obs_len (z : Nat) : ∀ (os : List O) (p : Bool) (i : Nat), (ow z p i os).1 = 0 → (obs z os).length = olens os ∧ ∀ o ∈ os, wrong o z = 0 := by
  intro os
  induction os with
  | nil => intro p i _; simp [obs, olens]
  | cons o os ih =>
    intro p i h
    by_cases hw : wrong o z = 0
    · by_cases hp : p = true ∧ o.k = 1
      · simp [ow, hw, hp] at h
      · simp only [ow, hw, ne_eq, not_true_eq_false, if_false] at h
        rw [if_neg hp] at h
        obtain ⟨h1, h2⟩ := ih _ _ h
        refine ⟨?_, fun o' ho => ?_⟩
        · simp only [obs, List.length_append, h1, olens, List.map_cons, List.sum_cons, (olen_right hw).1]
        · rcases List.mem_cons.1 ho with rfl | ho
          · exact hw
          · exact h2 o' ho
    · simp [ow, hw] at h
theorem obs_lt (z : Nat) (hz : z ≤ 16383) : ∀ (os : List O), (∀ o ∈ os, wrong o z = 0 ∧ (∀ x ∈ o.t, x < 256) ∧ o.c < 256) → ∀ x ∈ obs z os, x < 256 := by
  intro os
  induction os with
  | nil => intro _; nofun
  | cons o os ih =>
    intro h x hx
    obtain ⟨h1, h2, h3⟩ := h o (by simp)
    rcases List.mem_append.1 hx with hx | hx
    · exact obytes_lt h1 hz h2 h3 x hx
    · exact ih (fun o' ho => h o' (by simp [ho])) x hx
theorem obs_append (z : Nat) (xs ys : List O) : obs z (xs ++ ys) = obs z xs ++ obs z ys := by
  induction xs with
  | nil => rfl
  | cons o xs ih => simp [obs, ih]
end Str
end Go.Proofs.YtmllmmamdkjndaaDoor
