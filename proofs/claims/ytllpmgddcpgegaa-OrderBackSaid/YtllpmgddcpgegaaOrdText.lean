/- checkText of package order. -/
import Derived.Test.YtllpmgddcpgegaaOrdSame
import Derived.Test.YtllpmgddcpgegaaAttrChar
namespace Go.Proofs.Ytllpmgddcpgegaa
open Go.RowKit Sha Cut Err Six Att
namespace Ord
/-- An error that is a number (0: nil). -/
def errv (c : Nat) : Value := if c = 0 then .nilIface else .iface 60 (.int .i64 (c : Int))
/-- What is wrong with characters. -/
def tcode (xs : List Nat) : Nat := if xs = [] ∨ xs.all char = false then 1 else 0
theorem all_to {xs : List Nat} {f : Nat → Bool} (h : ∀ i, i < xs.length → f (xs.getD i 0) = true) : xs.all f = true := by
  rw [List.all_eq_true]
  intro x hx
  obtain ⟨i, hi, rfl⟩ := List.getElem_of_mem hx
  have := h i hi
  rwa [List.getD_eq_getElem?_getD, List.getElem?_eq_getElem hi] at this
theorem not_all {xs : List Nat} {f : Nat → Bool} {i : Nat} (hi : i < xs.length) (h : f (xs.getD i 0) = false) : xs.all f = false := by
  rw [List.getD_eq_getElem?_getD, List.getElem?_eq_getElem hi] at h
  rw [List.all_eq_false]
  exact ⟨_, List.getElem_mem hi, by simpa using h⟩
set_option maxRecDepth 100000 in
set_option maxHeartbeats 1000000 in
theorem text_empty (ad : Option Addr) (cap : Nat) (w : World) :
    Calls Try.prog 28 #[.slice ad 0 cap] w fun e w' => e = .returned (.iface 60 (.int .i64 1)) ∧ w = w' := by
  go_enter Try.func28, Try.ntmps28
  go_wp2_with fail
  go_ret
  exact ⟨rfl, rfl⟩
set_option maxRecDepth 100000 in
set_option maxHeartbeats 1000000 in
theorem text_any (ad : Option Addr) (len cap : Nat) (xs : List Nat) (w : World) (hB : BytesIn w (.slice ad len cap) xs) (h8 : ∀ x ∈ xs, x < 256) (hl : xs.length < 1000000) (h0 : xs ≠ []) :
    Calls Try.prog 28 #[.slice ad len cap] w fun e w' => e = .returned (errv (tcode xs)) ∧ w = w' := by
  obtain ⟨ad1, c1, hv, _, h1⟩ := hB
  injection hv with e1 e2 e3
  subst e1 e2 e3
  have hpos : 0 < xs.length := List.length_pos_iff.2 h0
  have hne : ((xs.length : Int) == 0) = false := by simp; omega
  rcases h1 with h1 | ⟨g, o, rfl, hc⟩
  · exact absurd h1 h0
  have HC := Lib.hid fun b W hb => char_any b W hb
  have HA := Lib.hid hc
  have H8 := Lib.hid fun k => byte_lt h8 (by decide) k
  clear h0 h8 hc
  go_enter Try.func28, Try.ntmps28
  go_wp2_with fail
  go_loopg [11] (xs.length + 1) (fun n i wr => wr = w ∧ ∃ k : Nat, k ≤ xs.length ∧ n = xs.length + 1 - k ∧ i = .int .i64 k ∧ Hid (∀ i, i < k → char (xs.getD i 0) = true))
  case atStart => exact ⟨rfl, 0, Nat.zero_le _, rfl, rfl, Lib.hid fun i hi => absurd hi (by omega)⟩
  case round =>
    obtain ⟨rfl, k, hk, rfl, rfl, hall⟩ := hrel
    by_cases hlt : k < xs.length
    · have c0 := HA.out k hlt
      have hb := H8.out k
      have HN := Lib.hid (show char (xs.getD k 0) = true → ∀ i, i < k + 1 → char (xs.getD i 0) = true from fun h i hi => by
          rcases Nat.lt_or_ge i k with h' | h'
          · exact hall.out i h'
          · obtain rfl : i = k := by omega
            exact h)
      have HF := Lib.hid (show char (xs.getD k 0) = false → tcode xs = 1 from fun h => by unfold tcode; rw [if_pos (.inr (not_all hlt h))])
      generalize xs.getD k 0 = b at c0 hb HN HF
      have hi0 : (0 : Int) ≤ (k : Int) := by omega
      have hi1 : (k : Int) < (xs.length : Int) := by omega
      have ew : IntKind.i64.wrap ((k : Int) + 1) = (k : Int) + 1 := by
        rw [IntWalk.i64_in] <;> omega
      clear hall
      go_wp2_with fail
      refine (HC.out b _ hb).mono ?_
      rintro e w' ⟨rfl, rfl⟩
      cases hcb : char b with
      | true =>
        have HN2 := Lib.hid (HN.out hcb)
        clear HN HF hcb
        go_wp2_with fail
        go_roundg (xs.length + 1 - (k + 1))
        case measure => omega
        case rel => exact ⟨rfl, k + 1, by omega, rfl, by go_num, HN2⟩
      | false =>
        have HF2 := Lib.hid (HF.out hcb)
        clear HN HF hcb
        go_wp2_with fail
        go_ret
        refine ⟨?_, rfl⟩
        rw [HF2.out]; rfl
    · have HE := Lib.hid (show tcode xs = 0 by
        have h1 := all_to (xs := xs) (f := char) fun i hi => hall.out i (by omega)
        have h2 : xs ≠ [] := List.length_pos_iff.1 hpos
        unfold tcode; rw [if_neg (by rw [h1]; simp [h2])])
      have hge : xs.length ≤ k := by omega
      clear hlt hall
      go_wp2_with fail
      go_ret
      refine ⟨?_, rfl⟩
      rw [HE.out]; rfl
end Ord
end Go.Proofs.Ytllpmgddcpgegaa
