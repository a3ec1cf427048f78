/- The document's mod, Formatted and Begin of layer 11. -/
import Derived.Test.YtoacookbfpcncaaFldMore
import Derived.Test.YtoacookbfpcncaaGrdBox
import Derived.Deep.LoopGhost
import Derived.Deep.Cut
import Derived.IntWalk
namespace Go.Proofs.Ytoacookbfpcncaa
open Go.RowKit Sha Six Apd Cut Err Att Grd
set_option linter.unusedVariables false
namespace Fld
set_option maxRecDepth 100000 in
set_option maxHeartbeats 4000000 in
theorem rmod_any (n : Int) (z r : Nat) (w : World) (hz : 0 < z) (hz2 : z < 100000000) (hn : -1000000000 < n ∧ n < 1000000000) (hr : (r : Int) = n % (z : Int)) :
    Calls Try.prog 32 #[.int .i64 n, .int .i64 (z : Int)] w fun e w' => e = .returned (.int .i64 (r : Int)) ∧ w = w' := by
  have hne : ¬ (z : Int) = 0 := by omega
  have hne2 : ((z : Int) == 0) = false := by simp; omega
  have HR := Lib.hid hr
  have HZ := Lib.hid hz
  have HZ2 := Lib.hid hz2
  have HN := Lib.hid hn
  clear hr hz hz2 hn
  go_enter Try.func32, Try.ntmps32
  go_wp2_with fail
  go_loopg [0] ((1 - n).toNat + 1) (fun m v wr => ∃ n' : Int, v = .int .i64 n' ∧ m = (1 - n').toNat + 1 ∧ Hid (n' % (z : Int) = n % (z : Int)) ∧ Hid (-1000000000 < n' ∧ n' < 1000000000) ∧ wr = w)
  case atStart => exact ⟨n, rfl, rfl, Lib.hid rfl, HN, rfl⟩
  case round =>
    obtain ⟨n', rfl, rfl, HE, HB, rfl⟩ := hrel
    by_cases h0 : n' < 0
    · have hs : wrap64 (n' + (z : Int)) = n' + (z : Int) := by
        have := HB.out; have := HZ2.out; unfold wrap64; omega
      have HE2 := Lib.hid (show (n' + (z : Int)) % (z : Int) = n % (z : Int) by rw [Int.add_emod_right]; exact HE.out)
      have HB2 := Lib.hid (show -1000000000 < n' + (z : Int) ∧ n' + (z : Int) < 1000000000 by have := HB.out; have := HZ2.out; omega)
      have HS := Lib.hid hs
      go_wp2_with fail
      clear hs
      go_roundg ((1 - (n' + (z : Int))).toNat + 1)
      case measure => have := HZ.out; omega
      case rel => exact ⟨n' + (z : Int), by rw [HS.out], rfl, HE2, HB2, rfl⟩
    · have hr : n' % (z : Int) = (r : Int) := by rw [HE.out, HR.out]
      have hr2 : n'.tmod (z : Int) = (r : Int) := by rw [Int.tmod_eq_emod_of_nonneg (by omega), hr]
      go_wp2_with fail
      go_ret
      exact ⟨rfl, rfl⟩
theorem fat_of {cs : List C} {i : Nat} {f p n : Bool} {s : Int} {m : Bool} {c : Nat} (h : cs.getD i noC = ⟨f, p, n, s, m, c⟩) : fat cs i = f := by unfold fat; rw [h]
set_option maxRecDepth 100000 in
set_option maxHeartbeats 8000000 in
theorem rfmt_any (s : S) (ad : Option Addr) (k : Nat) (w : World) (h : CelsIn w (.slice ad s.cs.length k) s.cs) (hz : 0 < s.cs.length) (hl : s.cs.length < 100000000) :
    Calls Try.prog 12 #[.agg #[.int .i64 s.rows, .int .i64 s.cols, .slice ad s.cs.length k, .int .i64 s.cur, .bool s.lk, .bool s.ins]] w fun e w' => e = .returned (.bool (fmt s.cs)) ∧ Below w.heap.size w w' := by
  have HB := Lib.hid (al_any w (.cells #[.int .i64 s.rows, .int .i64 s.cols, .slice ad s.cs.length k, .int .i64 s.cur, .bool s.lk, .bool s.ins] 24))
  have HX := Lib.hid (heap_alloc_new w (.cells #[.int .i64 s.rows, .int .i64 s.cols, .slice ad s.cs.length k, .int .i64 s.cur, .bool s.lk, .bool s.ins] 24))
  have HI := Lib.hid (h.below HB.out)
  have HZ := Lib.hid hz
  have HL := Lib.hid hl
  clear h hz hl
  go_enter Try.func12, Try.ntmps12
  go_upto_region 1 with (fail)
  generalize w.alloc _ = w1 at *
  go_wp2_with fail
  go_loopg [3] (s.cs.length + 1) (fun m i wr => ∃ q : Nat, q ≤ s.cs.length ∧ m = s.cs.length + 1 - q ∧ i = .int .i64 q ∧ Hid (∀ j, j < q → fat s.cs j = false) ∧ wr = w1)
  case atStart => exact ⟨0, Nat.zero_le _, rfl, rfl, Lib.hid nofun, rfl⟩
  case round =>
    obtain ⟨q, hq, rfl, rfl, HF, rfl⟩ := hrel
    have ew : IntKind.i64.wrap ((q : Int) + 1) = (q : Int) + 1 := by
      have := HL.out
      rw [IntWalk.i64_in] <;> omega
    obtain ⟨c0, c1, c2, c3, c4, c5⟩ := cells6 HX.out
    by_cases hlt : q < s.cs.length
    · obtain ⟨xf, xp, xn, xs, xm, xc, ex⟩ := c_eta (s.cs.getD q noC)
      obtain ⟨b1, o1, rfl, g0, g1, g2, g3, g4, g5⟩ := HI.out.cells hlt ex
      have hi0 : (0 : Int) ≤ (q : Int) := by omega
      have hi1 : (q : Int) < (s.cs.length : Int) := by omega
      have HQ := Lib.hid (fat_of ex)
      clear ex
      cases xf with
      | true =>
        have HT := Lib.hid (fmt_iff.2 ⟨q, hlt, HQ.out⟩)
        go_wp2_with fail
        go_ret
        exact ⟨by rw [HT.out]; rfl, HB.out⟩
      | false =>
        go_wp2_with fail
        go_roundg (s.cs.length + 1 - (q + 1))
        case measure => omega
        case rel =>
          refine ⟨q + 1, by omega, rfl, rfl, Lib.hid fun j hj => ?_, rfl⟩
          by_cases hjq : j = q
          · subst hjq; exact HQ.out
          · exact HF.out j (by omega)
    · have HT := Lib.hid (show fmt s.cs = false by
        cases hf : fmt s.cs with
        | false => rfl
        | true =>
          obtain ⟨i, hi, hfi⟩ := fmt_iff.1 hf
          rw [HF.out i (by omega)] at hfi; cases hfi)
      have hn0 : ¬ (q : Int) < (s.cs.length : Int) := by omega
      clear hlt
      go_wp2_with fail
      go_ret
      exact ⟨by rw [HT.out]; rfl, HB.out⟩
theorem begin_at {cs : List C} {a k : Nat} (hk : k < cs.length) (h : fat cs (on cs.length a (-(k : Int))) = true) (hn : ∀ j, j < k → fat cs (on cs.length a (-(j : Int))) = false) : begin_ cs a = ((on cs.length (a : Int) (-(k : Int)) : Nat) : Int) := by
  have : backK cs a = some k := firstK_is (Nat.zero_le _) (by omega) h (fun i _ hi => hn i hi)
  unfold begin_; rw [this]
theorem begin_no {cs : List C} {a : Nat} (hn : ∀ j, j < cs.length → fat cs (on cs.length a (-(j : Int))) = false) : begin_ cs a = -1 := by
  have : backK cs a = none := firstK_no (fun i _ hi => hn i (by omega))
  unfold begin_; rw [this]
set_option maxRecDepth 100000 in
set_option maxHeartbeats 8000000 in
theorem rbegin_any (s : S) (ad : Option Addr) (k : Nat) (a : Nat) (w : World) (h : CelsIn w (.slice ad s.cs.length k) s.cs) (hz : 0 < s.cs.length) (hl : s.cs.length < 100000000) (ha : a < s.cs.length) :
    Calls Try.prog 14 #[.agg #[.int .i64 s.rows, .int .i64 s.cols, .slice ad s.cs.length k, .int .i64 s.cur, .bool s.lk, .bool s.ins], .int .i64 (a : Int)] w fun e w' => e = .returned (.int .i64 (begin_ s.cs a)) ∧ Below w.heap.size w w' := by
  have HB := Lib.hid (al_any w (.cells #[.int .i64 s.rows, .int .i64 s.cols, .slice ad s.cs.length k, .int .i64 s.cur, .bool s.lk, .bool s.ins] 24))
  have HX := Lib.hid (heap_alloc_new w (.cells #[.int .i64 s.rows, .int .i64 s.cols, .slice ad s.cs.length k, .int .i64 s.cur, .bool s.lk, .bool s.ins] 24))
  have HI := Lib.hid (h.below HB.out)
  have HZ := Lib.hid hz
  have HL := Lib.hid hl
  have HA := Lib.hid ha
  clear h hz hl ha
  go_enter Try.func14, Try.ntmps14
  go_upto_region 1 with (fail)
  generalize w.alloc _ = w1 at *
  go_wp2_with fail
  go_loopg [5] (s.cs.length + 1) (fun m i wr => ∃ q : Nat, q ≤ s.cs.length ∧ m = s.cs.length + 1 - q ∧ i = .int .i64 q ∧ Hid (∀ j, j < q → fat s.cs (on s.cs.length a (-(j : Int))) = false) ∧ wr = w1)
  case atStart => exact ⟨0, Nat.zero_le _, rfl, rfl, Lib.hid nofun, rfl⟩
  case round =>
    obtain ⟨q, hq, rfl, rfl, HF, rfl⟩ := hrel
    have ew : IntKind.i64.wrap ((q : Int) + 1) = (q : Int) + 1 := by
      have := HL.out
      rw [IntWalk.i64_in] <;> omega
    have ea : wrap64 ((a : Int) - (q : Int)) = (a : Int) - (q : Int) := by
      have := HL.out; have := HA.out; unfold wrap64; omega
    obtain ⟨c0, c1, c2, c3, c4, c5⟩ := cells6 HX.out
    by_cases hlt : q < s.cs.length
    · have HM := Lib.hid (rmod_any ((a : Int) - (q : Int)) s.cs.length (on s.cs.length a (-(q : Int))) wr HZ.out HL.out (by have := HL.out; have := HA.out; omega) (by rw [on_cast HZ.out]; congr 1))
      have HIX := Lib.hid (on_lt HZ.out (a : Int) (-(q : Int)))
      obtain ⟨xf, xp, xn, xs, xm, xc, ex⟩ := c_eta (s.cs.getD (on s.cs.length a (-(q : Int))) noC)
      obtain ⟨b1, o1, rfl, g0, g1, g2, g3, g4, g5⟩ := HI.out.cells HIX.out ex
      have HQ := Lib.hid (fat_of ex)
      have HBA := Lib.hid fun h => begin_at (cs := s.cs) (a := a) (k := q) hlt h HF.out
      clear ex
      generalize hix : on s.cs.length (a : Int) (-(q : Int)) = ix at *
      replace hix := Lib.hid hix
      have hi0 : (0 : Int) ≤ (ix : Int) := by omega
      have hi1 : (ix : Int) < (s.cs.length : Int) := by have := HIX.out; omega
      have hi2 : (q : Int) < (s.cs.length : Int) := by omega
      go_wp2_with fail
      with_reducible refine HM.out.mono ?_
      rintro e w2 ⟨rfl, rfl⟩
      cases xf with
      | true =>
        have HT := Lib.hid (HBA.out HQ.out)
        clear ea
        go_wp2_with fail
        go_ret
        exact ⟨by rw [HT.out]; rfl, HB.out⟩
      | false =>
        clear ea
        go_wp2_with fail
        go_roundg (s.cs.length + 1 - (q + 1))
        case measure => omega
        case rel =>
          refine ⟨q + 1, by omega, rfl, rfl, Lib.hid fun j hj => ?_, rfl⟩
          by_cases hjq : j = q
          · subst hjq; rw [hix.out]; exact HQ.out
          · exact HF.out j (by omega)
    · have HT := Lib.hid (begin_no (cs := s.cs) (a := a) fun j hj => HF.out j (by omega))
      have hn0 : ¬ (q : Int) < (s.cs.length : Int) := by omega
      clear hlt ea
      go_wp2_with fail
      go_ret
      exact ⟨by rw [HT.out]; rfl, HB.out⟩
end Fld
end Go.Proofs.Ytoacookbfpcncaa
