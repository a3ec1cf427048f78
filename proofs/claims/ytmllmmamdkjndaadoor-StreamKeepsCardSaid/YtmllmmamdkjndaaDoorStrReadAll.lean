/- Read of package stream, of whatever bytes: one contract; what is read are sound orders. -/
import Derived.Test.YtmllmmamdkjndaaDoorStrRead
import Derived.Test.YtmllmmamdkjndaaDoorStrMore
namespace Go.Proofs.YtmllmmamdkjndaaDoor
open Go.RowKit Sha Cut Err Six Att Byt Apd
namespace Str
open Go.Proofs.YtmllmmamdkjndaaDoor.Ord
theorem cread_cases (xs : List Nat) (z : Nat) : ((cread xs z).2.1 ≠ 0 ∧ (cread xs z).1 = noneC) ∨ ((cread xs z).2.1 = 0 ∧ (cread xs z).2.2 = -1 ∧ xs.length ≤ 8192 ∧ 0 < xs.length ∧ ∃ c, (cread xs z).1.cmd = (c : Nat) ∧ ((cread xs z).1.os = [] ∨ ∃ b r, xs = c :: b :: r ∧ writes (c : Int) = true ∧ (ords z r.length 2 r).2.1 = 0 ∧ (cread xs z).1.os = (ords z r.length 2 r).1)) := by
  by_cases hl : 8192 < xs.length
  · left; unfold cread; rw [if_pos hl]; exact ⟨by show (6 : Nat) ≠ 0; decide, rfl⟩
  cases xs with
  | nil => left; exact ⟨by show (2 : Nat) ≠ 0; decide, rfl⟩
  | cons c ys =>
    rw [cread_cons c ys z (by omega)]
    cases hk : known (c : Int) with
    | false => left; rw [if_pos rfl]; exact ⟨by show (5 : Nat) ≠ 0; decide, rfl⟩
    | true =>
      rw [if_neg (by decide)]
      cases hw : writes (c : Int) with
      | false =>
        rw [if_pos rfl]
        by_cases hys : ys = []
        · right; rw [if_neg (by simp [hys])]; exact ⟨rfl, rfl, by omega, by simp, c, rfl, .inl rfl⟩
        · left; rw [if_pos hys]; exact ⟨by show (1 : Nat) ≠ 0; decide, rfl⟩
      | true =>
        rw [if_neg (by decide)]
        cases ys with
        | nil => left; exact ⟨by show (2 : Nat) ≠ 0; decide, rfl⟩
        | cons b r =>
          simp only
          cases hn : noWrite b with
          | true => left; rw [if_pos rfl]; exact ⟨by show (3 : Nat) ≠ 0; decide, rfl⟩
          | false =>
            rw [if_neg (by decide)]
            by_cases hE : (ords z r.length 2 r).2.1 = 0
            · right; rw [if_neg (by rw [hE]; simp)]; exact ⟨rfl, rfl, by omega, by simp, c, rfl, .inr ⟨b, r, rfl, hw, hE, rfl⟩⟩
            · left; rw [if_pos hE]; exact ⟨hE, rfl⟩
theorem cread_sound {xs : List Nat} {z : Nat} (h8 : ∀ x ∈ xs, x < 256) (hx : xs.length < 1000000) : Sound (cread xs z).1.os ∧ (cread xs z).1.os.length ≤ xs.length := by
  rcases cread_cases xs z with ⟨_, h⟩ | ⟨_, _, _, _, c, _, h | ⟨b, r, rfl, _, _, h⟩⟩
  · rw [h]; exact ⟨nofun, Nat.zero_le _⟩
  · rw [h]; exact ⟨nofun, Nat.zero_le _⟩
  · rw [h]
    have h1 := ords_sound z r.length r 2 (fun y hy => h8 y (by simp [hy]))
    have h2 := ords_few z r.length r 2
    simp only [List.length_cons] at hx ⊢
    refine ⟨fun o ho => ?_, by omega⟩
    obtain ⟨k1, k2, k3⟩ := h1 o ho
    exact ⟨k1, by omega, k3⟩
/-- Where what is wrong is told: within the bytes. -/
theorem cread_where {xs : List Nat} {z : Nat} (h8 : ∀ x ∈ xs, x < 256) (hl : xs.length ≤ 8192) (h : (cread xs z).2.1 ≠ 0) : 0 ≤ (cread xs z).2.2 ∧ (cread xs z).2.2 ≤ (xs.length : Int) := by
  cases xs with
  | nil => exact ⟨by show (0 : Int) ≤ 0; decide, by show (0 : Int) ≤ 0; decide⟩
  | cons c ys =>
    rw [cread_cons c ys z hl] at h ⊢
    cases hk : known (c : Int) with
    | false => rw [if_pos rfl]; simp only [List.length_cons]; omega
    | true =>
      rw [hk, if_neg (by decide)] at h
      rw [if_neg (by decide)]
      cases hw : writes (c : Int) with
      | false =>
        rw [hw, if_pos rfl] at h
        rw [if_pos rfl]
        by_cases hys : ys = []
        · rw [if_neg (by simp [hys])] at h; exact absurd rfl h
        · rw [if_pos hys]; simp only [List.length_cons]; omega
      | true =>
        rw [hw, if_neg (by decide)] at h
        rw [if_neg (by decide)]
        cases ys with
        | nil => simp
        | cons b r =>
          simp only at h ⊢
          cases hn : noWrite b with
          | true => rw [if_pos rfl]; simp only [List.length_cons]; omega
          | false =>
            rw [hn, if_neg (by decide)] at h
            rw [if_neg (by decide)]
            by_cases hE : (ords z r.length 2 r).2.1 = 0
            · rw [if_neg (by rw [hE]; simp)] at h; exact absurd rfl h
            · rw [if_pos hE]
              have := ords_where z r.length r 2 (fun y hy => h8 y (by simp [hy]))
              simp only [List.length_cons]
              omega
/-- Read of whatever bytes. -/
theorem read_any {xs : List Nat} (ad : Option Addr) (cap z : Nat) (w : World) (hB : BytesIn w (.slice ad xs.length cap) xs) (h8 : ∀ x ∈ xs, x < 256) (hn : ad = none → xs.length = 0 ∧ cap = 0) (hx : xs.length < 1000000) :
    Calls Tryd.prog 18 #[.slice ad xs.length cap, .int .i64 (z : Int)] w fun e w' => ∃ oa k oc ev, e = .returned (.tuple #[.agg #[.int .i64 (cread xs z).1.cmd, .bool (cread xs z).1.a, .bool (cread xs z).1.u, .bool (cread xs z).1.r, .slice oa k oc], ev]) ∧ OrdsIn w' w.heap.size (.slice oa k oc) (cread xs z).1.os ∧ Below w.heap.size w w' ∧
      (((cread xs z).2.1 = 0 ∧ ev = .nilIface) ∨ ((cread xs z).2.1 ≠ 0 ∧ ∃ t u, ev = .iface t u)) ∧ Err.Told w' ev ((cread xs z).2.1 : Int) (cread xs z).2.2 := by
  rcases cread_cases xs z with ⟨h0, hc⟩ | ⟨h0, h1, hl, _⟩
  · have bad : ∀ (e : Ending) (w' : World), (∃ ev, e = .returned (.tuple #[.agg #[.int .i64 0, .bool false, .bool false, .bool false, .slice none 0 0], ev]) ∧ Err.Told w' ev ((cread xs z).2.1 : Int) (cread xs z).2.2 ∧ Below w.heap.size w w') → ∃ oa k oc ev, e = .returned (.tuple #[.agg #[.int .i64 (cread xs z).1.cmd, .bool (cread xs z).1.a, .bool (cread xs z).1.u, .bool (cread xs z).1.r, .slice oa k oc], ev]) ∧ OrdsIn w' w.heap.size (.slice oa k oc) (cread xs z).1.os ∧ Below w.heap.size w w' ∧
      (((cread xs z).2.1 = 0 ∧ ev = .nilIface) ∨ ((cread xs z).2.1 ≠ 0 ∧ ∃ t u, ev = .iface t u)) ∧ Err.Told w' ev ((cread xs z).2.1 : Int) (cread xs z).2.2 := by
      rintro e w' ⟨ev, rfl, ht, hb⟩
      refine ⟨none, 0, 0, ev, by rw [hc]; rfl, by rw [hc]; exact ordsIn_nil _ _, hb, .inr ⟨h0, ?_⟩, ht⟩
      rcases ht with ⟨_, h, _⟩ | ⟨rfl, _⟩ | ⟨d, b, rfl, _⟩
      · exact absurd (by omega) h0
      · exact ⟨_, _, rfl⟩
      · exact ⟨_, _, rfl⟩
    by_cases hl : 8192 < xs.length
    · exact (read_long ad cap z w hB h8 hn hl hx).mono bad
    · exact (read_bad ad cap z w hB h8 hn (by omega) h0).mono bad
  · refine (read_ok ad cap z w hB h8 hn hl h0).mono ?_
    rintro e w' ⟨oa, k, oc, rfl, ho, hb⟩
    exact ⟨oa, k, oc, _, rfl, ho, hb, .inl ⟨h0, rfl⟩, .inl ⟨rfl, by rw [h0]; rfl, h1⟩⟩
end Str
end Go.Proofs.YtmllmmamdkjndaaDoor
