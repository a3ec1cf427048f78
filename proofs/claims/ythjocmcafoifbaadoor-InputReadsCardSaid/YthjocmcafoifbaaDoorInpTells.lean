/- What Write tells, for the laws of input: bytes that are bytes, an error that tells its number and place. -/
import Derived.Test.YthjocmcafoifbaaDoorInpAwake
import Derived.Test.YthjocmcafoifbaaDoorInpFew
namespace Go.Proofs.YthjocmcafoifbaaDoor
open Go.RowKit Sha Cut Err Six Att Byt Apd
namespace Inp
theorem iright_right {x : I} {z : Nat} (h : (iright x z).1 = 0) : (iright x z).2 = -1 := by
  unfold iright at h ⊢
  by_cases ha : aid x.aid = false
  · rw [if_pos ha] at h; cases h
  rw [if_neg ha] at h ⊢
  by_cases hb : bare x.aid = true
  · rw [if_pos hb] at h ⊢
    by_cases hn : x.cur ≠ 0 ∨ x.fs ≠ []
    · rw [if_pos hn] at h; cases h
    · rw [if_neg hn]
  rw [if_neg hb] at h ⊢
  by_cases hc : x.cur < 0 ∨ (z : Int) ≤ x.cur
  · rw [if_pos hc] at h; cases h
  rw [if_neg hc] at h ⊢
  by_cases hf : (fw z (x.fs.length == 1) 0 x.fs).1 ≠ 0
  · rw [if_pos hf] at h; exact absurd h hf
  · rw [if_neg hf]
theorem iwrite_right {x : I} {z : Nat} (h : (iwrite x z).2.1 = 0) : (iwrite x z).2.2 = -1 := by
  unfold iwrite at h ⊢
  by_cases h0 : (iright x z).1 ≠ 0
  · rw [if_pos h0] at h; exact absurd h h0
  rw [if_neg h0] at h ⊢
  by_cases h1 : 8192 < (ibytes x z).length
  · rw [if_pos h1] at h; cases h
  · rw [if_neg h1]
theorem iwrite_fails {x : I} {z : Nat} (h : (iwrite x z).2.1 ≠ 0) : (iwrite x z).1 = [] := by
  unfold iwrite at h ⊢
  by_cases h0 : (iright x z).1 ≠ 0
  · rw [if_pos h0]
  rw [if_neg h0] at h ⊢
  by_cases h1 : 8192 < (ibytes x z).length
  · rw [if_pos h1]
  · rw [if_neg h1] at h; exact absurd rfl h
theorem second_lt (a n : Nat) : Adr.second a n < 256 := by
  unfold Adr.second
  split
  · exact put_lt _ (Nat.mod_lt _ (by decide))
  · omega
theorem fbs_lt {z : Nat} (hz : z ≤ 16383) (alone : Bool) : ∀ (fs : List F) (i : Nat), (fw z alone i fs).1 = 0 → (∀ o ∈ fs, ∀ x ∈ o.t, x < 256) → ∀ y ∈ fbs z fs, y < 256 := by
  intro fs
  induction fs with
  | nil => intro i _ _ y hy; simp [fbs] at hy
  | cons f fs ih =>
    intro i h hs y hy
    have hw : fwrong z alone f = 0 := by
      by_cases hw : fwrong z alone f = 0
      · exact hw
      · simp [fw, hw] at h
    simp only [fw, hw, ne_eq, not_true_eq_false, if_false] at h
    simp only [fbs, List.mem_append] at hy
    rcases hy with hy | hy
    · unfold fb at hy
      split at hy
      · rename_i h0
        rcases fwrong_cases hw with ha | ⟨_, ha⟩
        · omega
        have hlt := And.intro (Adr.first_lt f.a.toNat z (by omega) hz) (second_lt f.a.toNat z)
        rcases List.mem_cons.1 hy with rfl | hy
        · omega
        rcases List.mem_cons.1 hy with rfl | hy
        · exact hlt.1
        rcases List.mem_cons.1 hy with rfl | hy
        · exact hlt.2
        · exact hs f (by simp) y hy
      · exact hs f (by simp) y hy
    · exact ih (i + 1) h (fun o ho => hs o (by simp [ho])) y hy
theorem iwrite_bytes {x : I} {z : Nat} (hz : z ≤ 16383) (hk : x.aid < 256) (hs : Sound x.fs) : (∀ y ∈ (iwrite x z).1, y < 256) ∧ (iwrite x z).1.length ≤ 8192 := by
  unfold iwrite
  by_cases h0 : (iright x z).1 ≠ 0
  · rw [if_pos h0]; simp
  rw [if_neg h0]
  by_cases h1 : 8192 < (ibytes x z).length
  · rw [if_pos h1]; simp
  rw [if_neg h1]
  refine ⟨fun y hy => ?_, by simpa using h1⟩
  have h0 := Classical.not_not.1 h0
  simp only at hy
  unfold ibytes at hy
  split at hy
  · simp only [List.mem_singleton] at hy; omega
  · rename_i hb
    unfold iright at h0
    by_cases ha : aid x.aid = false
    · rw [if_pos ha] at h0; cases h0
    rw [if_neg ha, if_neg hb] at h0
    by_cases hc : x.cur < 0 ∨ (z : Int) ≤ x.cur
    · rw [if_pos hc] at h0; cases h0
    rw [if_neg hc] at h0
    by_cases hf : (fw z (x.fs.length == 1) 0 x.fs).1 ≠ 0
    · rw [if_pos hf] at h0; exact absurd h0 hf
    have hf : (fw z (x.fs.length == 1) 0 x.fs).1 = 0 := Classical.not_not.1 hf
    have hlt := And.intro (Adr.first_lt x.cur.toNat z (by omega) hz) (second_lt x.cur.toNat z)
    rcases List.mem_cons.1 hy with rfl | hy
    · exact hk
    rcases List.mem_cons.1 hy with rfl | hy
    · exact hlt.1
    rcases List.mem_cons.1 hy with rfl | hy
    · exact hlt.2
    · exact fbs_lt hz _ x.fs 0 hf (fun o ho => (hs o ho).1) y hy
theorem sound_few {os : List F} (h : fewB os = true) (hb : ∀ o ∈ os, ∀ x ∈ o.t, x < 256) : Sound os ∧ os.length ≤ 60 := by
  obtain ⟨h1, h2⟩ := fewB_true h
  exact ⟨fun o ho => ⟨hb o ho, by have := h2 o ho; omega⟩, h1⟩
theorem below3 {w1 : World} {B : Nat} {t : TypeId} {a0 a1 a2 : Value} (k : w1.heap[B]? = some (.cells #[a0, a1, a2] t (0, 0))) : ∀ w', Below w1.heap.size w1 w' →
    Below w1.heap.size w1 w' ∧ w'.cell? ⟨B, 0, none⟩ = some a0 ∧ w'.cell? ⟨B, 1, none⟩ = some a1 ∧ w'.cell? ⟨B, 2, none⟩ = some a2 := fun _ h => ⟨h, cells3 (blk k h)⟩
end Inp
end Go.Proofs.YthjocmcafoifbaaDoor
