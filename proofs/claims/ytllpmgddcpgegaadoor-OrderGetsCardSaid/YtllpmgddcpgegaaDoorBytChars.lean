/- Chars of a cursor. -/
import Derived.Test.YtllpmgddcpgegaaDoorBytStep
import Derived.Test.YtllpmgddcpgegaaDoorAttrChar
import Derived.Deep.LoopGhost
namespace Go.Proofs.YtllpmgddcpgegaaDoor
open Go.RowKit Sha Cut Err Six Apd Att
namespace Byt
/-- How many characters stand at the head. -/
def crun (ys : List Nat) : Nat := (ys.takeWhile char).length
theorem crun_le (ys : List Nat) : crun ys ≤ ys.length := (List.takeWhile_sublist char).length_le
theorem crun_is : ∀ (ys : List Nat) (k : Nat), k ≤ ys.length → (∀ j, j < k → char (ys.getD j 0) = true) → (k < ys.length → char (ys.getD k 0) = false) → crun ys = k := by
  intro ys
  induction ys with
  | nil => intro k hk _ _; simp at hk; subst hk; rfl
  | cons y ys ih =>
    intro k hk ha hs
    cases k with
    | zero =>
      have := hs (by simp)
      simp at this
      simp [crun, List.takeWhile, this]
    | succ k =>
      have h0 := ha 0 (by omega)
      simp at h0
      have := ih k (by simp at hk; omega) (fun j hj => by have := ha (j + 1) (by omega); simpa using this) (fun h => by have := hs (by simp; omega); simpa using this)
      simp only [crun, List.takeWhile, h0] at this ⊢
      simp [this]
theorem crun_at (ys : List Nat) : (∀ j, j < crun ys → char (ys.getD j 0) = true) ∧ (crun ys < ys.length → char (ys.getD (crun ys) 0) = false) := by
  induction ys with
  | nil => exact ⟨fun j hj => by simp [crun] at hj, fun h => by simp [crun] at h⟩
  | cons y ys ih =>
    by_cases hy : char y = true
    · have e : crun (y :: ys) = crun ys + 1 := by simp [crun, List.takeWhile, hy]
      rw [e]
      refine ⟨fun j hj => ?_, fun h => ?_⟩
      · cases j with
        | zero => simpa using hy
        | succ j => have := ih.1 j (by omega); simpa using this
      · have := ih.2 (by simp at h; omega); simpa using this
    · have hf : char y = false := by simpa using hy
      have e : crun (y :: ys) = 0 := by simp [crun, List.takeWhile, hf]
      rw [e]
      exact ⟨fun j hj => by omega, fun _ => by simpa using hf⟩
set_option maxRecDepth 100000 in
set_option maxHeartbeats 2000000 in
theorem chars_ok {C g at_ : Nat} {xs : List Nat} (w : World) (h : Cur w C g xs at_ .nilIface) (h8 : ∀ x ∈ xs, x < 256) (hx : xs.length < 1000000000) :
    Calls Tryd.prog 39 #[.pointer (some ⟨C, 0, none⟩)] w fun e w' => ∃ v, e = .returned v ∧ w'.ownsRow w.heap.size 5 1 v (crun (xs.drop at_)) (u8s ((xs.drop at_).take (crun (xs.drop at_)))) ∧ Cur w' C g xs (at_ + crun (xs.drop at_)) .nilIface ∧ w.grownBy w' (some C) := by
  have HN := Lib.hid (next_ok w h)
  have HL := Lib.hid (show (xs.drop at_).length = xs.length - at_ from List.length_drop)
  have HS := Lib.hid (fun k m (hk : k ≤ xs.length - at_) => step_any k (w.drewN m) (h.drewN m) (by have := h.le; omega) hx)
  have HY8 := Lib.hid (fun (k : Nat) => byte_lt (l := xs.drop at_) (fun y hy => h8 y (List.mem_of_mem_drop hy)) (by decide) k)
  have HC := Lib.hid fun b W hb => char_any b W hb
  have HX := Lib.hid (show (xs.drop at_).length < 1000000000 by rw [List.length_drop]; omega)
  clear h h8 hx
  generalize xs.drop at_ = ys at *
  rw [← HL.out] at HN HS
  go_enter Tryd.func39, Tryd.ntmps39
  go_wp2_with fail
  refine HN.out.mono ?_
  rintro e w1 ⟨ad, cap, rfl, hB, m, rfl⟩
  have HB := Lib.hid hB
  clear HN hB
  go_wp2_with fail
  go_loopg [4] (ys.length + 1) (fun n i wr => ∃ k : Nat, k ≤ ys.length ∧ n = ys.length + 1 - k ∧ i = .int .i64 k ∧ wr = w.drewN m ∧ Hid (∀ j, j < k → char (ys.getD j 0) = true))
  case atStart => exact ⟨0, Nat.zero_le _, rfl, rfl, rfl, Lib.hid fun j hj => absurd hj (by omega)⟩
  case round =>
    obtain ⟨k, hk, rfl, rfl, rfl, hall⟩ := hrel
    by_cases hlt : k < ys.length
    · obtain ⟨g1, o, rfl, c0⟩ : ∃ g1 o, ad = some ⟨g1, o, none⟩ ∧ (w.drewN m).cell? ⟨g1, o + k, none⟩ = some (.int .u8 ((ys.getD k 0 : Nat) : Int)) := by
        obtain ⟨_, _, hv, _, hc⟩ := HB.out
        injection hv with hv1 _ _
        rcases hc with h0 | ⟨g1, o, hg, hc⟩
        · rw [h0] at hlt; simp at hlt
        · exact ⟨g1, o, hv1.trans hg, hc k hlt⟩
      have hb := HY8.out k
      have HCA := Lib.hid fun (h : char (ys.getD k 0) = true) => (show ∀ j, j < k + 1 → char (ys.getD j 0) = true from fun j hj => by
        rcases Nat.lt_or_ge j k with h' | h'
        · exact hall.out j h'
        · obtain rfl : j = k := by omega
          exact h)
      have HCE := Lib.hid fun (h : char (ys.getD k 0) = false) => crun_is ys k hk hall.out (fun _ => h)
      generalize ys.getD k 0 = b at c0 hb HCA HCE
      have hi0 : (0 : Int) ≤ (k : Int) := by omega
      have hi1 : (k : Int) < (ys.length : Int) := by omega
      have ew : IntKind.i64.wrap ((k : Int) + 1) = (k : Int) + 1 := by
        have := HX.out
        rw [IntWalk.i64_in] <;> omega
      go_wp2_with fail
      refine (HC.out b _ hb).mono ?_
      rintro e w' ⟨rfl, rfl⟩
      cases hcb : char b
      · have HE := Lib.hid (HCE.out hcb)
        have HSS := Lib.hid (HS.out k m hk)
        clear HCA HCE hcb HC
        go_wp2_with fail
        refine HSS.out.mono ?_
        rintro e w2 ⟨v, rfl, ho, hr⟩
        have HO := Lib.hid ho
        have HR := Lib.hid hr
        clear ho hr HSS HS
        obtain ⟨va, vc, rfl⟩ := own_form HO.out
        go_wp2_with fail
        go_ret
        rw [HE.out]
        exact ⟨_, rfl, HO.out, HR.out.1, gtrans (gdrewN w m _) HR.out.2⟩
      · have HA := Lib.hid (HCA.out hcb)
        clear HCA HCE hcb
        go_wp2_with fail
        go_roundg (ys.length + 1 - (k + 1))
        case measure => omega
        case rel => exact ⟨k + 1, by omega, rfl, by go_num, rfl, HA⟩
    · have HE := Lib.hid (crun_is ys k hk hall.out (fun h => absurd h hlt))
      have HSS := Lib.hid (HS.out k m hk)
      have hge : ys.length ≤ k := by omega
      clear hlt HC
      go_wp2_with fail
      refine HSS.out.mono ?_
      rintro e w2 ⟨v, rfl, ho, hr⟩
      have HO := Lib.hid ho
      have HR := Lib.hid hr
      clear ho hr HSS HS
      obtain ⟨va, vc, rfl⟩ := own_form HO.out
      go_wp2_with fail
      go_ret
      rw [HE.out]
      exact ⟨_, rfl, HO.out, HR.out.1, gtrans (gdrewN w m _) HR.out.2⟩
theorem chars_met {C g at_ b : Nat} {xs : List Nat} (w : World) (h : Cur w C g xs at_ (.iface 78 (.pointer (some ⟨b, 0, none⟩)))) :
    Calls Tryd.prog 39 #[.pointer (some ⟨C, 0, none⟩)] w fun e w' => e = .returned (.slice none 0 0) ∧ w = w' := by
  have HN := Lib.hid (next_met w h)
  have HS := Lib.hid (step_zero C w)
  clear h
  go_enter Tryd.func39, Tryd.ntmps39
  go_wp2_with fail
  refine HN.out.mono ?_
  rintro e w1 ⟨rfl, rfl⟩
  clear HN
  go_wp2_with fail
  refine wp_loop_rounds 1 ?_
  rw [rounds_succ]
  go_wp2_with fail
  refine HS.out.mono ?_
  rintro e w1 ⟨rfl, rfl⟩
  clear HS
  go_wp2_with fail
  go_ret
  exact ⟨rfl, rfl⟩
end Byt
end Go.Proofs.YtllpmgddcpgegaaDoor
