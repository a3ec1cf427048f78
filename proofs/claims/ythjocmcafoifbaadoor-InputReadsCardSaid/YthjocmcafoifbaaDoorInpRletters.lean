/- Letter and letters of the document. -/
import Derived.Test.YthjocmcafoifbaaDoorInpMore
import Derived.Test.YthjocmcafoifbaaDoorInpMem
import Derived.Test.YthjocmcafoifbaaDoorBunRlg
import Derived.Deep.LoopGhost
import Derived.IntWalk
namespace Go.Proofs.YthjocmcafoifbaaDoor
open Go.RowKit Sha Cut Err Six Att
namespace Inp
theorem rletter_any (b : Nat) (w : World) (hb : b < 256) :
    Calls Tryd.prog 48 #[.int .u8 (b : Int)] w fun e w' => e = .returned (.bool (letter b)) ∧ w = w' := by
  have HC := Lib.hid fun W => rchar_any b W hb
  have HL := Lib.hid (show letter b = (b != 0 && char b) from rfl)
  generalize letter b = res at HL ⊢
  by_cases h0 : b = 0
  · subst h0
    clear hb HC
    go_enter Tryd.func48, Tryd.ntmps48
    go_wp2_with fail
    go_ret
    exact ⟨by rw [HL.out]; rfl, rfl⟩
  · have e1 : ((b : Int) != 0) = true := by simpa using h0
    have HL := Lib.hid (show res = char b by rw [HL.out]; simp [h0])
    generalize char b = r at *
    clear h0 hb
    go_enter Tryd.func48, Tryd.ntmps48
    go_wp2_with fail
    with_reducible refine (HC.out _).mono ?_
    rintro e w1 ⟨rfl, rfl⟩
    go_wp2_with fail
    go_ret
    exact ⟨by rw [HL.out]; rfl, rfl⟩
theorem lets_at {T : List Nat} : ∀ {k : Nat}, k ≤ (lets T).length → k < T.length → letter (T.getD k 0) = decide (k < (lets T).length) := by
  induction T with
  | nil => intro k _ h; simp at h
  | cons x T ih =>
    intro k h1 h2
    cases hx : letter x with
    | false =>
      have e : lets (x :: T) = [] := by simp [lets, hx]
      rw [e] at h1 ⊢
      have : k = 0 := by simpa using h1
      subst this
      simpa using hx
    | true =>
      have e : lets (x :: T) = x :: lets T := by simp [lets, hx]
      rw [e] at h1 ⊢
      cases k with
      | zero => simpa using hx
      | succ k =>
        simp only [List.length_cons] at h1 h2 ⊢
        rw [List.getD_cons_succ, ih (by omega) (by omega)]
        simp
theorem lets_le (T : List Nat) : (lets T).length ≤ T.length := by
  have := congrArg List.length (lets_rest T)
  simp only [List.length_append] at this; omega
set_option maxRecDepth 100000 in
set_option maxHeartbeats 4000000 in
theorem rletters_any (ad : Option Addr) (len cap : Nat) (ys : List Nat) (at_ : Nat) (w : World) (hB : BytesIn w (.slice ad len cap) ys) (h8 : ∀ y ∈ ys, y < 256) (ha : at_ ≤ ys.length) (hl : ys.length < 1000000) :
    Calls Tryd.prog 27 #[.slice ad len cap, .int .i64 (at_ : Int)] w fun e w' => e = .returned (.int .i64 ((lets (ys.drop at_)).length : Nat)) ∧ w = w' := by
  obtain ⟨ad', cap', hv, hcap, hc⟩ := hB
  injection hv with e1 e2 e3
  subst e1 e2 e3
  have HT := Lib.hid (lets_le (ys.drop at_))
  have HAT := Lib.hid (fun k => lets_at (T := ys.drop at_) (k := k))
  have HD : Hid ((ys.drop at_).length = ys.length - at_) := List.length_drop
  have HG : Hid (∀ k, (ys.drop at_).getD k 0 = ys.getD (at_ + k) 0) := fun k => by simp [List.getD_eq_getElem?_getD, List.getElem?_drop]
  generalize (lets (ys.drop at_)).length = L at *
  generalize ys.drop at_ = T at *
  have HL := Lib.hid hl
  have HA := Lib.hid ha
  have H8 := Lib.hid h8
  have HC := Lib.hid hc
  clear hl ha h8 hc hcap
  go_enter Tryd.func27, Tryd.ntmps27
  go_wp2_with fail
  go_loopg [5] (L + 1) (fun m i wr => ∃ k : Nat, k ≤ L ∧ m = L + 1 - k ∧ i = .int .i64 k ∧ wr = w)
  case atStart => exact ⟨0, Nat.zero_le _, rfl, rfl, rfl⟩
  case round =>
    obtain ⟨k, hk, rfl, rfl, rfl⟩ := hrel
    have es : IntKind.i64.wrap ((at_ : Int) + (k : Int)) = ((at_ + k : Nat) : Int) := by
      have := HT.out; have := HD.out; have := HA.out; have := HL.out
      rw [IntWalk.i64_in] <;> omega
    have ew : IntKind.i64.wrap ((k : Int) + 1) = (k : Int) + 1 := by
      have := HT.out; have := HD.out; have := HL.out
      rw [IntWalk.i64_in] <;> omega
    by_cases hlt : at_ + k < ys.length
    · have HX := Lib.hid (HAT.out k hk (by have := HD.out; have := HA.out; omega))
      rw [HG.out] at HX
      have hm : ys.getD (at_ + k) 0 < 256 := by
        rw [List.getD_eq_getElem?_getD, List.getElem?_eq_getElem hlt]; exact H8.out _ (List.getElem_mem hlt)
      rcases HC.out with h0 | ⟨g, off, rfl, hcell⟩
      · simp [h0] at hlt
      · have hc := hcell (at_ + k) hlt
        have HR := Lib.hid fun W => rletter_any (ys.getD (at_ + k) 0) W hm
        rw [HX.out] at HR
        generalize ys.getD (at_ + k) 0 = b at *
        generalize at_ + k = j at *
        have hi0 : (0 : Int) ≤ (j : Int) := by omega
        have hi1 : (j : Int) < (ys.length : Int) := by omega
        clear HX
        by_cases hkL : k < L
        · rw [decide_eq_true hkL] at HR
          clear hm hlt
          go_wp2_with fail
          with_reducible refine (HR.out _).mono ?_
          rintro e w1 ⟨rfl, rfl⟩
          go_wp2_with fail
          go_roundg (L + 1 - (k + 1))
          case measure => omega
          case rel => exact ⟨k + 1, by omega, rfl, rfl, rfl⟩
        · rw [decide_eq_false hkL] at HR
          obtain rfl : k = L := by omega
          clear hm hlt hkL hk
          go_wp2_with fail
          with_reducible refine (HR.out _).mono ?_
          rintro e w1 ⟨rfl, rfl⟩
          go_wp2_with fail
          go_ret
          exact ⟨rfl, rfl⟩
    · have hkL : k = L := by have := HT.out; have := HD.out; have := HA.out; omega
      subst hkL
      generalize at_ + k = j at *
      have hn : ¬ (j : Int) < (ys.length : Int) := by omega
      clear hlt
      go_wp2_with fail
      go_ret
      exact ⟨rfl, rfl⟩
end Inp
end Go.Proofs.YthjocmcafoifbaaDoor
