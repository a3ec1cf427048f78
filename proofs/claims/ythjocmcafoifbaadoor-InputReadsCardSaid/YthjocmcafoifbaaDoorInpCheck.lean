/- letter, checkText, checkField, checkFields, checkBare and Right of package input. -/
import Derived.Test.YthjocmcafoifbaaDoorInpMore
import Derived.Test.YthjocmcafoifbaaDoorInpMem
import Derived.Test.YthjocmcafoifbaaDoorBunLow
import Derived.Test.YthjocmcafoifbaaDoorBunByt
import Derived.Deep.LoopGhost
import Derived.IntWalk
namespace Go.Proofs.YthjocmcafoifbaaDoor
open Go.RowKit Sha Cut Err Six Att
namespace Inp
/-- An error that is a number (0: nil). -/
def errv (c : Nat) : Value := if c = 0 then .nilIface else .iface 50 (.int .i64 (c : Int))
theorem errv_0 : errv 0 = .nilIface := rfl
theorem letter_any (b : Nat) (w : World) (hb : b < 256) :
    Calls Tryd.prog 71 #[.int .u8 (b : Int)] w fun e w' => e = .returned (.bool (letter b)) ∧ w = w' := by
  have HC := Lib.hid fun W => char_any b W hb
  have HL := Lib.hid (show letter b = (b != 0 && char b) from rfl)
  generalize letter b = res at HL ⊢
  by_cases h0 : b = 0
  · subst h0
    clear hb HC
    go_enter Tryd.func71, Tryd.ntmps71
    go_wp2_with fail
    go_ret
    rw [HL.out]
    exact ⟨rfl, rfl⟩
  · have k0 : ((b : Int) != 0) = true := by simp; omega
    have k1 : (b != 0) = true := by simpa using h0
    rw [k1] at HL
    generalize char b = c at *
    clear h0 hb k1
    go_enter Tryd.func71, Tryd.ntmps71
    go_wp2_with fail
    with_reducible refine (HC.out _).mono ?_
    rintro e w' ⟨rfl, rfl⟩
    go_wp2_with fail
    go_ret
    rw [HL.out]
    exact ⟨rfl, rfl⟩
theorem all_to {xs : List Nat} {f : Nat → Bool} (h : ∀ i, i < xs.length → f (xs.getD i 0) = true) : xs.all f = true := by
  rw [List.all_eq_true]
  intro x hx
  obtain ⟨i, hi, rfl⟩ := List.getElem_of_mem hx
  have := h i hi
  rwa [List.getD_eq_getElem?_getD, List.getElem?_eq_getElem hi] at this
theorem not_all {xs : List Nat} {f : Nat → Bool} {i : Nat} (hi : i < xs.length) (h : f (xs.getD i 0) = false) : xs.all f = false := by
  rw [List.getD_eq_getElem?_getD, List.getElem?_eq_getElem hi] at h
  rw [List.all_eq_false]
  exact ⟨_, List.getElem_mem hi, by simpa using h⟩
/-- What is wrong with letters. -/
def tcode (xs : List Nat) : Nat := if xs.all letter = false then 3 else 0
set_option maxRecDepth 100000 in
set_option maxHeartbeats 1000000 in
theorem text_any (ad : Option Addr) (len cap : Nat) (xs : List Nat) (w : World) (hB : BytesIn w (.slice ad len cap) xs) (h8 : ∀ x ∈ xs, x < 256) (hl : xs.length < 1000000) :
    Calls Tryd.prog 68 #[.slice ad len cap] w fun e w' => e = .returned (errv (tcode xs)) ∧ w = w' := by
  obtain ⟨ad1, c1, hv, _, h1⟩ := hB
  injection hv with e1 e2 e3
  subst e1 e2 e3
  have HC := Lib.hid fun b W hb => letter_any b W hb
  have HA := Lib.hid h1
  have H8 := Lib.hid fun k => byte_lt h8 (by decide) k
  clear h8 h1
  go_enter Tryd.func68, Tryd.ntmps68
  go_wp2_with fail
  go_loopg [7] (xs.length + 1) (fun n i wr => wr = w ∧ ∃ k : Nat, k ≤ xs.length ∧ n = xs.length + 1 - k ∧ i = .int .i64 k ∧ Hid (∀ i, i < k → letter (xs.getD i 0) = true))
  case atStart => exact ⟨rfl, 0, Nat.zero_le _, rfl, rfl, Lib.hid fun i hi => absurd hi (by omega)⟩
  case round =>
    obtain ⟨rfl, k, hk, rfl, rfl, hall⟩ := hrel
    by_cases hlt : k < xs.length
    · rcases HA.out with h0 | ⟨g, o, rfl, hcell⟩
      · simp [h0] at hlt
      have c0 := hcell k hlt
      have hb := H8.out k
      have HN := Lib.hid (show letter (xs.getD k 0) = true → ∀ i, i < k + 1 → letter (xs.getD i 0) = true from fun h i hi => by
          rcases Nat.lt_or_ge i k with h' | h'
          · exact hall.out i h'
          · obtain rfl : i = k := by omega
            exact h)
      have HF := Lib.hid (show letter (xs.getD k 0) = false → tcode xs = 3 from fun h => by unfold tcode; rw [if_pos (not_all hlt h)])
      generalize xs.getD k 0 = b at c0 hb HN HF
      have hi0 : (0 : Int) ≤ (k : Int) := by omega
      have hi1 : (k : Int) < (xs.length : Int) := by omega
      have ew : IntKind.i64.wrap ((k : Int) + 1) = (k : Int) + 1 := by
        rw [IntWalk.i64_in] <;> omega
      clear hall hcell
      go_wp2_with fail
      with_reducible refine (HC.out b _ hb).mono ?_
      rintro e w' ⟨rfl, rfl⟩
      cases hcb : letter b with
      | true =>
        have HN2 := Lib.hid (HN.out hcb)
        clear HN HF hcb
        go_wp2_with fail
        go_roundg (xs.length + 1 - (k + 1))
        case measure => omega
        case rel => exact ⟨rfl, k + 1, by omega, rfl, by go_num, HN2⟩
      | false =>
        have HF2 := Lib.hid (HF.out hcb)
        clear HN HF hcb
        go_wp2_with fail
        go_ret
        refine ⟨?_, rfl⟩
        rw [HF2.out]; rfl
    · have HE := Lib.hid (show tcode xs = 0 by
        have h1 := all_to (xs := xs) (f := letter) fun i hi => hall.out i (by omega)
        unfold tcode; rw [if_neg (by rw [h1]; simp)])
      have hge : xs.length ≤ k := by omega
      clear hlt hall
      go_wp2_with fail
      go_ret
      refine ⟨?_, rfl⟩
      rw [HE.out]; rfl
/-- A field that is alone, without an address. -/
theorem field_free {t : List Nat} (ta : Option Addr) (tn tc z : Nat) (w : World) (hB : BytesIn w (.slice ta tn tc) t) (h8 : ∀ x ∈ t, x < 256) (hl : t.length < 1000000) :
    Calls Tryd.prog 55 #[.agg #[.int .i64 (-1), .slice ta tn tc], .bool true, .int .i64 (z : Int)] w fun e w' => e = .returned (errv (fwrong z true ⟨-1, t⟩)) ∧ Below w.heap.size w w' := by
  have hlen : tn = t.length := by
    obtain ⟨_, _, hv, _⟩ := hB
    injection hv
  subst hlen
  have HA : Hid (Below w.heap.size w (w.alloc (.cells #[.int .i64 (-1), .slice ta t.length tc] 47))) := (Below.refl _ _).alloc (Nat.le_refl _) _
  have HT := Lib.hid fun W hb => text_any ta t.length tc t W (bytes_below hB hb) h8 hl
  by_cases h0 : t = []
  · have hw : fwrong z true ⟨-1, t⟩ = 1 := by subst h0; simp [fwrong]
    rw [hw]
    have e0 : ((t.length : Int) == 0) = true := by subst h0; simp
    clear hw h0 HT hB h8 hl
    go_enter Tryd.func55, Tryd.ntmps55
    go_wp2_with fail
    go_ret
    exact ⟨rfl, HA.out⟩
  · have hw : fwrong z true ⟨-1, t⟩ = tcode t := by
      unfold fwrong tcode
      rw [if_neg (by simp)]
      simp only
      by_cases hh : t.all letter = false
      · rw [if_pos hh, if_pos hh]
      · rw [if_neg hh, if_neg hh, if_neg (by simpa using h0)]
    rw [hw]
    have hpos : 0 < t.length := List.length_pos_iff.2 h0
    have e0 : ((t.length : Int) == 0) = false := by simp; omega
    generalize tcode t = tw at *
    clear hw h0 hB h8 hl hpos
    go_enter Tryd.func55, Tryd.ntmps55
    go_wp2_with fail
    with_reducible refine (HT.out _ HA.out).mono ?_
    rintro e w' ⟨rfl, rfl⟩
    go_wp2_with fail
    go_ret
    exact ⟨rfl, HA.out⟩
set_option maxRecDepth 100000 in
set_option maxHeartbeats 2000000 in
/-- A field with an address. -/
theorem field_at {a : Int} {t : List Nat} (alone : Bool) (ta : Option Addr) (tn tc z : Nat) (w : World) (hB : BytesIn w (.slice ta tn tc) t) (h8 : ∀ x ∈ t, x < 256) (hl : t.length < 1000000) (hna : (alone && a == -1) = false) (h1 : 1 ≤ z) (h2 : z ≤ 16383) :
    Calls Tryd.prog 55 #[.agg #[.int .i64 a, .slice ta tn tc], .bool alone, .int .i64 (z : Int)] w fun e w' => e = .returned (errv (fwrong z alone ⟨a, t⟩)) ∧ Below w.heap.size w w' := by
  have hlen : tn = t.length := by
    obtain ⟨_, _, hv, _⟩ := hB
    injection hv
  subst hlen
  have HA : Hid (Below w.heap.size w (w.alloc (.cells #[.int .i64 a, .slice ta t.length tc] 47))) := (Below.refl _ _).alloc (Nat.le_refl _) _
  have HG := Lib.hid (heap_alloc_new w (.cells #[.int .i64 a, .slice ta t.length tc] 47))
  have HT := Lib.hid fun W hb => text_any ta t.length tc t W (bytes_below hB hb) h8 hl
  by_cases hr : a < 0 ∨ (z : Int) ≤ a
  · have hw : fwrong z alone ⟨a, t⟩ = 4 := by unfold fwrong; rw [if_pos ⟨hna, hr⟩]
    rw [hw]
    have HP := Lib.hid fun W => Adr.put_none a z W h1 h2 hr
    have key : ∀ al : Bool, (al && a == -1) = false → Calls Tryd.prog 55 #[.agg #[.int .i64 a, .slice ta t.length tc], .bool al, .int .i64 (z : Int)] w fun e w' => e = .returned (errv 4) ∧ Below w.heap.size w w' := by
      intro al hal
      clear hw hr hB h8 hl HT hna
      cases al with
      | false =>
        clear hal
        go_enter Tryd.func55, Tryd.ntmps55
        go_wp2_with fail
        with_reducible refine (HP.out _).mono ?_
        rintro e w2 ⟨rfl, hb⟩
        have K2 := kept_alloc (kept_hid HA hb) (.cells #[.int .u8 0, .int .u8 0] 69)
        clear hb
        go_wp2_with fail
        go_ret
        exact ⟨rfl, K2.out⟩
      | true =>
        have e0 : (a == -1) = false := by simpa using hal
        clear hal
        go_enter Tryd.func55, Tryd.ntmps55
        go_wp2_with fail
        with_reducible refine (HP.out _).mono ?_
        rintro e w2 ⟨rfl, hb⟩
        have K2 := kept_alloc (kept_hid HA hb) (.cells #[.int .u8 0, .int .u8 0] 69)
        clear hb
        go_wp2_with fail
        go_ret
        exact ⟨rfl, K2.out⟩
    exact key alone hna
  · have hw : fwrong z alone ⟨a, t⟩ = tcode t := by
      unfold fwrong tcode
      rw [if_neg (fun h => hr h.2)]
      simp only [hna]
      by_cases hh : t.all letter = false
      · rw [if_pos hh, if_pos hh]
      · rw [if_neg hh, if_neg hh, if_neg (by simp)]
    rw [hw]
    obtain ⟨k, rfl⟩ := Int.eq_ofNat_of_zero_le (show 0 ≤ a by omega)
    have HP := Lib.hid fun W => Adr.put_all k z W (by omega) h2
    generalize tcode t = tw at *
    generalize Adr.first k z = q1 at *
    generalize Adr.second k z = q2 at *
    have e0 : ((k : Int) == -1) = false := by simp
    clear hw hr hB h8 hl hna
    cases alone with
    | false =>
      go_enter Tryd.func55, Tryd.ntmps55
      go_wp2_with fail
      with_reducible refine (HP.out _).mono ?_
      rintro e w2 ⟨rfl, hb⟩
      have K1 := kept_hid HA hb
      have K2 := kept_alloc K1 (.cells #[.int .u8 (q1 : Nat), .int .u8 (q2 : Nat)] 69)
      have G2 := blk (blk HG.out hb) (al_any w2 (.cells #[.int .u8 (q1 : Nat), .int .u8 (q2 : Nat)] 69))
      have G1 := there_lt (blk HG.out hb)
      have c0 := cell_of_row _ w.heap.size 0 _ _ (0, 0) G2
      have c1 := cell_of_row _ w.heap.size 1 _ _ (0, 0) G2
      clear hb HP HA
      go_wp2_with fail
      with_reducible refine (HT.out _ K2.out).mono ?_
      rintro e w' ⟨rfl, rfl⟩
      go_wp2_with fail
      go_ret
      exact ⟨rfl, K2.out⟩
    | true =>
      go_enter Tryd.func55, Tryd.ntmps55
      go_wp2_with fail
      with_reducible refine (HP.out _).mono ?_
      rintro e w2 ⟨rfl, hb⟩
      have K1 := kept_hid HA hb
      have K2 := kept_alloc K1 (.cells #[.int .u8 (q1 : Nat), .int .u8 (q2 : Nat)] 69)
      have G2 := blk (blk HG.out hb) (al_any w2 (.cells #[.int .u8 (q1 : Nat), .int .u8 (q2 : Nat)] 69))
      have G1 := there_lt (blk HG.out hb)
      have c0 := cell_of_row _ w.heap.size 0 _ _ (0, 0) G2
      have c1 := cell_of_row _ w.heap.size 1 _ _ (0, 0) G2
      clear hb HP HA
      go_wp2_with fail
      with_reducible refine (HT.out _ K2.out).mono ?_
      rintro e w' ⟨rfl, rfl⟩
      go_wp2_with fail
      go_ret
      exact ⟨rfl, K2.out⟩
theorem field_any {a : Int} {t : List Nat} (alone : Bool) (ta : Option Addr) (tn tc z : Nat) (w : World) (hB : BytesIn w (.slice ta tn tc) t) (h8 : ∀ x ∈ t, x < 256) (hl : t.length < 1000000) (h1 : 1 ≤ z) (h2 : z ≤ 16383) :
    Calls Tryd.prog 55 #[.agg #[.int .i64 a, .slice ta tn tc], .bool alone, .int .i64 (z : Int)] w fun e w' => e = .returned (errv (fwrong z alone ⟨a, t⟩)) ∧ Below w.heap.size w w' := by
  cases hna : (alone && a == -1) with
  | false => exact field_at alone ta tn tc z w hB h8 hl hna h1 h2
  | true =>
    simp only [Bool.and_eq_true, beq_iff_eq] at hna
    obtain ⟨rfl, rfl⟩ := hna
    exact field_free ta tn tc z w hB h8 hl
end Inp
end Go.Proofs.YthjocmcafoifbaaDoor
