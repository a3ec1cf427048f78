/- Plain: what Write writes are bytes. -/
import Derived.Test.YtpdlpmbjhopnnaaGreatDoorBunStr
import Derived.Test.YtpdlpmbjhopnnaaGreatDoorBunStr
namespace Go.Proofs.YtpdlpmbjhopnnaaGreatDoor
open Go.RowKit Sha Cut Err Six Att Apd
namespace Str
open Go.Proofs.YtpdlpmbjhopnnaaGreatDoor.Ord
theorem cwrite_bad {x : Cm} {z : Nat} (h : (cwrite x z).2.1 ≠ 0) : (cwrite x z).1 = [] := by
  unfold cwrite at h ⊢
  by_cases a1 : known x.cmd = false
  · rw [if_pos a1]
  rw [if_neg a1] at h ⊢
  by_cases a2 : writes x.cmd = false
  · rw [if_pos a2] at h ⊢
    by_cases a3 : (x.a || x.u || x.r || !x.os.isEmpty) = true
    · rw [if_pos a3]
    · rw [if_neg a3] at h; exact absurd rfl h
  rw [if_neg a2] at h ⊢
  by_cases a3 : (ow z false 0 x.os).1 ≠ 0
  · rw [if_pos a3]
  rw [if_neg a3] at h ⊢
  by_cases a4 : 8192 < (obs z x.os).length + 2
  · rw [if_pos a4]
  · rw [if_neg a4] at h; exact absurd rfl h
theorem cwrite_right {x : Cm} {z : Nat} (h : (cwrite x z).2.1 = 0) : (cwrite x z).2.2 = -1 := by
  unfold cwrite at h ⊢
  repeat' split
  all_goals first | rfl | (exfalso; revert h; simp_all)
theorem ow_fine {z : Nat} : ∀ (os : List O) (p : Bool) (i : Nat), (ow z p i os).1 = 0 → ∀ o ∈ os, wrong o z = 0 := fun os p i h => (obs_len z os p i h).2
theorem cwrite_bytes {x : Cm} {z : Nat} (hz : z ≤ 16383) (hs : Sound x.os) : (∀ y ∈ (cwrite x z).1, y < 256) ∧ (cwrite x z).1.length ≤ 8192 := by
  cases hk : known x.cmd with
  | false => rw [cwrite_unknown hk]; simp
  | true =>
    have hc : 0 ≤ x.cmd ∧ x.cmd < 256 := by simp [known, writes] at hk; omega
    cases hw : writes x.cmd with
    | true =>
      rw [cwrite_writes hk hw]
      split
      · simp
      · rename_i h0
        have h0 := Classical.not_not.1 h0
        split
        · simp
        · rename_i h1
          refine ⟨fun y hy => ?_, by simp only [List.length_cons]; omega⟩
          rcases List.mem_cons.1 hy with rfl | hy
          · omega
          · rcases List.mem_cons.1 hy with rfl | hy
            · exact put_lt _ (by have := wnum_lt x.a x.u x.r; omega)
            · have hf := ow_fine _ _ _ h0
              exact obs_lt z hz x.os (fun o ho => ⟨hf o ho, (hs o ho).1, (hs o ho).2.2⟩) y hy
    | false =>
      cases hm : (x.a || x.u || x.r || !x.os.isEmpty) with
      | true => rw [cwrite_more hk hw hm]; simp
      | false =>
        rw [cwrite_bare hk hw hm]
        refine ⟨fun y hy => ?_, by simp⟩
        simp only [List.mem_singleton] at hy
        omega
end Str
end Go.Proofs.YtpdlpmbjhopnnaaGreatDoor
