/- Right and Has of the document. Written by tools/gen_win.py. -/
import Derived.Test.YteggdfkmncikpaaDoorWinList
import Derived.Deep.QuietTactic
import Derived.BigQuiet
import Derived.Deep.Cut
import Derived.Deep.LoopGhost
import Derived.Deep.RegionLaw
import Derived.Deep.RegionHeld3
import Derived.IntWalk
import Derived.Lib.SmallJoins
namespace Go.Proofs.YteggdfkmncikpaaDoor
open Go.RowKit Sha Six Apd Cut Err
set_option linter.unusedVariables false
set_option linter.unusedSimpArgs false
namespace Win
set_option maxRecDepth 100000 in
set_option maxHeartbeats 8000000 in
theorem rright_any (s : W) (w : World) (hf : Fit s) : Calls Tryd.prog 10 #[.agg #[.int .i64 s.top, .int .u64 (s.bits : Int)]] w fun e w' => e = .returned (.bool (right s)) ∧ Below w.heap.size w w' := by
  rw [← rightR_eq hf.bits]
  by_cases h0 : 0 ≤ s.top
  case neg =>
    have HR := Lib.hid (show rightR s = false from by unfold rightR; simp [h0])
    generalize rightR s = r at *
    obtain ⟨t, b⟩ := s
    simp only at h0 ⊢
    have h0 : t < 0 := by omega
    have HB := Lib.hid (al_any w (.cells #[.int .i64 t, .int .u64 (b : Int)] 24))
    have HX := Lib.hid (heap_alloc_new w (.cells #[.int .i64 t, .int .u64 (b : Int)] 24))
    go_enter Tryd.func10, Tryd.ntmps10
    go_upto_region 1 with (fail)
    generalize w.alloc _ = w1 at *
    obtain ⟨c0, c1⟩ := cells2 HX.out
    go_wp2_with fail
    go_ret
    exact ⟨by rw [HR.out]; rfl, HB.out⟩
  case pos =>
  by_cases h1 : s.top ≤ 4611686018427387904
  case neg =>
    have HR := Lib.hid (show rightR s = false from by unfold rightR; simp [h0, h1])
    generalize rightR s = r at *
    obtain ⟨t, b⟩ := s
    simp only at h0 h1 ⊢
    have h0 : ¬ t < 0 := by omega
    have h1 : 4611686018427387904 < t := by omega
    have HB := Lib.hid (al_any w (.cells #[.int .i64 t, .int .u64 (b : Int)] 24))
    have HX := Lib.hid (heap_alloc_new w (.cells #[.int .i64 t, .int .u64 (b : Int)] 24))
    go_enter Tryd.func10, Tryd.ntmps10
    go_upto_region 1 with (fail)
    generalize w.alloc _ = w1 at *
    obtain ⟨c0, c1⟩ := cells2 HX.out
    go_wp2_with fail
    go_ret
    exact ⟨by rw [HR.out]; rfl, HB.out⟩
  case pos =>
  have HL := Lib.hid fun W => list_any s W hf (by omega) h1
  have HLN := Lib.hid (show (list s).length ≤ 64 from listTo_len s 64)
  have HR := Lib.hid (show rightR s = if s.top = 0 then decide ((list s).length = 0) else decide (0 < (list s).length) && (decide ((list s).getD 0 0 = s.top) && decide (1 ≤ (list s).getD ((list s).length - 1) 0)) from by unfold rightR; rw [decide_eq_true h0, decide_eq_true h1]; simp)
  generalize rightR s = r at *
  generalize list s = l at *
  obtain ⟨t, b⟩ := s
  simp only at *
  have h0' : ¬ t < 0 := by omega
  by_cases hz : t = 0
  · subst hz
    replace HR : Hid (r = decide (l.length = 0)) := Lib.hid (by rw [HR.out]; simp)
    have HLE := Lib.hid (show (((l.length : Int)) == 0) = decide (l.length = 0) from by rw [Bool.eq_iff_iff]; simp)
    have HB := Lib.hid (al_any w (.cells #[.int .i64 0, .int .u64 (b : Int)] 24))
    have HX := Lib.hid (heap_alloc_new w (.cells #[.int .i64 0, .int .u64 (b : Int)] 24))
    go_enter Tryd.func10, Tryd.ntmps10
    go_upto_region 1 with (fail)
    generalize w.alloc _ = w1 at *
    obtain ⟨c0, c1⟩ := cells2 HX.out
    go_wp2_with fail
    with_reducible refine (HL.out _).mono ?_
    rintro e w2 ⟨ad, c, rfl, ho, hb⟩
    have K2 := kept_hid HB hb
    have X2 := Lib.hid (blk HX.out hb)
    have O2 := Lib.hid ho
    clear hb ho HB HX c0 c1 HL
    obtain ⟨c0, c1⟩ := cells2 X2.out
    generalize hx : ((l.length : Int) == 0) = x at HLE
    go_wp2_with fail
    go_ret
    exact ⟨by rw [HR.out, ← HLE.out]; first | rfl | (rw [hx]; rfl) | (rw [← hx]; rfl), K2.out⟩
  · have hz0 : (t == 0) = false := by simp [hz]
    replace HR : Hid (r = (decide (0 < l.length) && (decide (l.getD 0 0 = t) && decide (1 ≤ l.getD (l.length - 1) 0)))) := Lib.hid (by rw [HR.out, if_neg hz])
    have HB := Lib.hid (al_any w (.cells #[.int .i64 t, .int .u64 (b : Int)] 24))
    have HX := Lib.hid (heap_alloc_new w (.cells #[.int .i64 t, .int .u64 (b : Int)] 24))
    go_enter Tryd.func10, Tryd.ntmps10
    go_upto_region 1 with (fail)
    generalize w.alloc _ = w1 at *
    obtain ⟨c0, c1⟩ := cells2 HX.out
    go_wp2_with fail
    with_reducible refine (HL.out _).mono ?_
    rintro e w2 ⟨ad, c, rfl, ho, hb⟩
    have K2 := kept_hid HB hb
    have X2 := Lib.hid (blk HX.out hb)
    have O2 := Lib.hid ho
    clear hb ho HB HX c0 c1 HL
    obtain ⟨c0, c1⟩ := cells2 X2.out
    clear hz
    by_cases hl : 0 < l.length
    · have hl0 : (0 : Int) < (l.length : Int) := by omega
      obtain ⟨g, rfl, _, _, d0, _⟩ := O2.out.cell hl
      rw [Nat.zero_add] at d0
      obtain ⟨g', hg, _, _, d1, _⟩ := O2.out.cell (i := l.length - 1) (by omega)
      injection hg with hg
      injection hg with hg _ _
      subst hg
      rw [Nat.zero_add] at d1
      have hlw : wrap64 ((l.length : Int) - 1) = ((l.length - 1 : Nat) : Int) := by have := HLN.out; rw [IntWalk.wrap64_in] <;> omega
      have hl1 : ((l.length - 1 : Nat) : Int) < (l.length : Int) := by omega
      have hl2 : (0 : Int) ≤ ((l.length - 1 : Nat) : Int) := by omega
      rw [decide_eq_true hl] at HR
      generalize l.getD 0 0 = x0 at *
      generalize l.getD (l.length - 1) 0 = x1 at *
      generalize l.length - 1 = m at *
      by_cases he : x0 = t
      · have he0 : (x0 == t) = true := by simp [he]
        rw [decide_eq_true he] at HR
        by_cases h11 : 1 ≤ x1
        · rw [decide_eq_true h11] at HR
          go_upto_region 6 with (fail)
          go_quiet (fail)
          go_wp2_with fail
          go_ret
          exact ⟨by rw [HR.out]; rfl, kept_trans K2.out (Six.below_drewN _ _ _)⟩
        · have h11d : decide (1 ≤ x1) = false := decide_eq_false h11
          rw [h11d] at HR
          go_upto_region 6 with (fail)
          go_quiet (fail)
          go_wp2_with fail
          go_ret
          exact ⟨by rw [HR.out]; rfl, kept_trans K2.out (Six.below_drewN _ _ _)⟩
      · have he0 : (x0 == t) = false := by simp [he]
        rw [decide_eq_false he] at HR
        go_upto_region 6 with (fail)
        go_quiet (fail)
        go_wp2_with fail
        go_ret
        exact ⟨by rw [HR.out]; rfl, kept_trans K2.out (Six.below_drewN _ _ _)⟩
    · have hl0 : decide ((0 : Int) < (l.length : Int)) = false := decide_eq_false (by omega)
      rw [decide_eq_false hl] at HR
      go_upto_region 6 with (fail)
      go_quiet (fail)
      go_wp2_with fail
      go_ret
      exact ⟨by rw [HR.out]; rfl, kept_trans K2.out (Six.below_drewN _ _ _)⟩
set_option maxRecDepth 100000 in
set_option maxHeartbeats 8000000 in
theorem rhas_any (s : W) (n : Int) (w : World) (hf : Fit s) (ht0 : -1000 ≤ s.top) (ht1 : s.top ≤ 4611686018427387904) : Calls Tryd.prog 15 #[.agg #[.int .i64 s.top, .int .u64 (s.bits : Int)], .int .i64 n] w fun e w' => e = .returned (.bool (has s n)) ∧ Below w.heap.size w w' := by
  have HL := Lib.hid fun W => list_any s W hf ht0 ht1
  have HLN := Lib.hid (show (list s).length ≤ 64 from listTo_len s 64)
  have HM := Lib.hid (mem_list (s := s) (x := n))
  generalize has s n = r at *
  generalize list s = l at *
  obtain ⟨t, b⟩ := s
  simp only at *
  have HB := Lib.hid (al_any w (.cells #[.int .i64 t, .int .u64 (b : Int)] 24))
  have HX := Lib.hid (heap_alloc_new w (.cells #[.int .i64 t, .int .u64 (b : Int)] 24))
  go_enter Tryd.func15, Tryd.ntmps15
  go_upto_region 1 with (fail)
  generalize w.alloc _ = w1 at *
  obtain ⟨c0, c1⟩ := cells2 HX.out
  go_wp2_with fail
  with_reducible refine (HL.out _).mono ?_
  rintro e w2 ⟨ad, c, rfl, ho, hb⟩
  have K2 := kept_hid HB hb
  have X2 := Lib.hid (blk HX.out hb)
  have O2 := Lib.hid ho
  clear hb ho HB HX c0 c1 HL
  obtain ⟨c0, c1⟩ := cells2 X2.out
  clear c0 c1 X2
  go_wp2_with fail
  go_loopg [6] (l.length + 1) (fun mm ii wr => ∃ (k : Nat), k ≤ l.length ∧ mm = l.length + 1 - k ∧ ii = .int .i64 (k : Int) ∧ Hid (∀ j, j < k → l.getD j 0 ≠ n) ∧ wr = w2)
  case atStart => exact ⟨0, Nat.zero_le _, rfl, rfl, Lib.hid nofun, rfl⟩
  case round =>
    obtain ⟨k, hk, rfl, rfl, HN, rfl⟩ := hrel
    have HK := Lib.hid hk
    by_cases hlt : k < l.length
    · have hj : (k : Int) < (l.length : Int) := by omega
      have hj0 : (0 : Int) ≤ (k : Int) := by omega
      obtain ⟨g, rfl, _, _, d0, _⟩ := O2.out.cell hlt
      rw [Nat.zero_add] at d0
      have ew : wrap64 ((k : Int) + 1) = (k : Int) + 1 := by have := HLN.out; rw [IntWalk.wrap64_in] <;> omega
      by_cases he : l.getD k 0 = n
      · have HR := Lib.hid (show r = true from HM.out.1 (by
          rw [List.getD_eq_getElem?_getD, List.getElem?_eq_getElem hlt] at he
          rw [← he]; exact List.getElem_mem _))
        have he0 : (l.getD k 0 == n) = true := by simp only [beq_iff_eq]; exact he
        generalize l.getD k 0 = x at *
        clear he hk
        go_wp2_with fail
        go_ret
        exact ⟨by rw [HR.out]; rfl, K2.out⟩
      · have he0 : (l.getD k 0 == n) = false := by simp only [beq_eq_false_iff_ne, ne_eq]; exact he
        have HN2 := Lib.hid (show ∀ j, j < k + 1 → l.getD j 0 ≠ n from fun j hj => by
          rcases Nat.lt_or_ge j k with h | h
          · exact HN.out j h
          · rw [show j = k by omega]; exact he)
        have HLT := Lib.hid hlt
        generalize l.getD k 0 = x at *
        clear he hk hlt
        go_wp2_with fail
        go_roundg (l.length + 1 - (k + 1))
        case measure => have := HLT.out; omega
        case rel => exact ⟨k + 1, HLT.out, rfl, by first | exact congrArg (Value.int .i64) ew | rfl, HN2, rfl⟩
    · obtain rfl : k = l.length := by omega
      have HR := Lib.hid (show r = false from by
        cases r with
        | false => rfl
        | true =>
          obtain ⟨i, hi, he⟩ := List.mem_iff_getElem.1 (HM.out.2 rfl)
          refine absurd ?_ (HN.out i hi)
          rw [List.getD_eq_getElem?_getD, List.getElem?_eq_getElem hi]
          exact he)
      have hj : ¬ (l.length : Int) < (l.length : Int) := by omega
      clear hk hlt
      go_wp2_with fail
      go_ret
      exact ⟨by rw [HR.out]; rfl, K2.out⟩
end Win
end Go.Proofs.YteggdfkmncikpaaDoor
