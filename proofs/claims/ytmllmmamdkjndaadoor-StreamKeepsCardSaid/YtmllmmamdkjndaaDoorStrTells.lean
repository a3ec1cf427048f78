/- What Write tells, for the laws of stream: bytes that are bytes, an error that tells its number and place. -/
import Derived.Test.YtmllmmamdkjndaaDoorStrAwake
import Derived.Test.YtmllmmamdkjndaaDoorStrFew
namespace Go.Proofs.YtmllmmamdkjndaaDoor
open Go.RowKit Sha Cut Err Six Att Apd
namespace Str
open Go.Proofs.YtmllmmamdkjndaaDoor.Ord
theorem cwrite_bad {x : Cm} {z : Nat} (h : (cwrite x z).2.1 ≠ 0) : (cwrite x z).1 = [] := by
  unfold cwrite at h ⊢
  by_cases a1 : known x.cmd = false
  · rw [if_pos a1]
  rw [if_neg a1] at h ⊢
  by_cases a2 : writes x.cmd = false
  · rw [if_pos a2] at h ⊢
    by_cases a3 : (x.a || x.u || x.r || !x.os.isEmpty) = true
    · rw [if_pos a3]
    · rw [if_neg a3] at h; exact absurd rfl h
  rw [if_neg a2] at h ⊢
  by_cases a3 : (ow z false 0 x.os).1 ≠ 0
  · rw [if_pos a3]
  rw [if_neg a3] at h ⊢
  by_cases a4 : 8192 < (obs z x.os).length + 2
  · rw [if_pos a4]
  · rw [if_neg a4] at h; exact absurd rfl h
theorem cwrite_right {x : Cm} {z : Nat} (h : (cwrite x z).2.1 = 0) : (cwrite x z).2.2 = -1 := by
  unfold cwrite at h ⊢
  repeat' split
  all_goals first | rfl | (exfalso; revert h; simp_all)
theorem ow_fine {z : Nat} : ∀ (os : List O) (p : Bool) (i : Nat), (ow z p i os).1 = 0 → ∀ o ∈ os, wrong o z = 0 := fun os p i h => (obs_len z os p i h).2
theorem cwrite_bytes {x : Cm} {z : Nat} (hz : z ≤ 16383) (hs : Sound x.os) : (∀ y ∈ (cwrite x z).1, y < 256) ∧ (cwrite x z).1.length ≤ 8192 := by
  cases hk : known x.cmd with
  | false => rw [cwrite_unknown hk]; simp
  | true =>
    have hc : 0 ≤ x.cmd ∧ x.cmd < 256 := by simp [known, writes] at hk; omega
    cases hw : writes x.cmd with
    | true =>
      rw [cwrite_writes hk hw]
      split
      · simp
      · rename_i h0
        have h0 := Classical.not_not.1 h0
        split
        · simp
        · rename_i h1
          refine ⟨fun y hy => ?_, by simp only [List.length_cons]; omega⟩
          rcases List.mem_cons.1 hy with rfl | hy
          · omega
          · rcases List.mem_cons.1 hy with rfl | hy
            · exact put_lt _ (by have := wnum_lt x.a x.u x.r; omega)
            · have hf := ow_fine _ _ _ h0
              exact obs_lt z hz x.os (fun o ho => ⟨hf o ho, (hs o ho).1, (hs o ho).2.2⟩) y hy
    | false =>
      cases hm : (x.a || x.u || x.r || !x.os.isEmpty) with
      | true => rw [cwrite_more hk hw hm]; simp
      | false =>
        rw [cwrite_bare hk hw hm]
        refine ⟨fun y hy => ?_, by simp⟩
        simp only [List.mem_singleton] at hy
        omega
theorem wrote_tells {w w' : World} {x : Cm} {z : Nat} {v ev : Value} (h : Wrote w w' x z v ev) : BytesIn w' v (cwrite x z).1 ∧ Err.Told w' ev ((cwrite x z).2.1 : Int) (cwrite x z).2.2 := by
  rcases h with ⟨h0, rfl, ho⟩ | ⟨h0, rfl, _, ht⟩
  · exact ⟨own_bytes ho, .inl ⟨rfl, by rw [h0]; rfl, cwrite_right h0⟩⟩
  · rw [cwrite_bad h0]
    exact ⟨bytes_nil _, ht⟩
theorem sound_few {os : List O} (h : fewB os = true) (hb : ∀ o ∈ os, (∀ x ∈ o.t, x < 256) ∧ o.c < 256) : Sound os ∧ os.length ≤ 60 := by
  obtain ⟨h1, h2⟩ := fewB_true h
  exact ⟨fun o ho => ⟨(hb o ho).1, by have := h2 o ho; omega, (hb o ho).2⟩, h1⟩
theorem own_first {w : World} {base n c : Nat} {va : Option Addr} {m : List Nat} (h : w.ownsRow base 5 1 (.slice va n c) n (u8s m)) (hn : 0 < n) : ∃ g, va = some ⟨g, 0, none⟩ ∧ w.cell? ⟨g, 0, none⟩ = some (.int .u8 ((m.getD 0 0 : Nat) : Int)) := by
  have hl := own_len h
  obtain ⟨ad, cap, hv, _, hc⟩ := own_bytes h
  rcases h.2 with ⟨_, h0⟩ | ⟨g, cap2, cur, hv', _⟩
  · omega
  · injection hv' with e1 _ _
    injection hv with e4 _ _
    rcases hc with h0 | ⟨g', off, hg', hc⟩
    · rw [h0] at hl; simp at hl; omega
    · rw [← e4, e1] at hg'
      injection hg' with hg'
      injection hg' with e5 e6
      subst e5 e6
      exact ⟨_, e1, hc 0 (by omega)⟩
theorem below5 {w1 : World} {B : Nat} {t : TypeId} {a0 a1 a2 a3 a4 : Value} (k : w1.heap[B]? = some (.cells #[a0, a1, a2, a3, a4] t (0, 0))) : ∀ w', Below w1.heap.size w1 w' →
    Below w1.heap.size w1 w' ∧ w'.cell? ⟨B, 0, none⟩ = some a0 ∧ w'.cell? ⟨B, 1, none⟩ = some a1 ∧ w'.cell? ⟨B, 2, none⟩ = some a2 ∧ w'.cell? ⟨B, 3, none⟩ = some a3 ∧ w'.cell? ⟨B, 4, none⟩ = some a4 := fun _ h => held5 k h
end Str
end Go.Proofs.YtmllmmamdkjndaaDoor
