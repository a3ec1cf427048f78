/- The document's Cell, Sized, Right and Few of layer 10. -/
import Derived.Test.YtoacookbfpcncaaGrdBox
import Derived.Deep.LoopGhost
import Derived.IntWalk
import Derived.Test.YtoacookbfpcncaaBunRlp
namespace Go.Proofs.Ytoacookbfpcncaa
open Go.RowKit Sha Six Cut Err Att
set_option linter.unusedVariables false
namespace Grd
set_option maxHeartbeats 4000000 in
theorem rsized_any (r c : Int) (w : World) :
    Calls Try.prog 35 #[.int .i64 r, .int .i64 c] w fun e w' => e = .returned (.bool (sized r c)) ∧ w = w' := by
  by_cases h1 : 1 ≤ r
  · by_cases h2 : 1 ≤ c
    · by_cases h3 : r ≤ 16383
      · by_cases h4 : c ≤ 16383
        · have HE := Lib.hid (show sized r c = decide (r * c ≤ 16383) by unfold sized; simp [h1, h2])
          have hm : wrap64 (r * c) = r * c := by
            have a1 : 0 ≤ r * c := Int.mul_nonneg (by omega) (by omega)
            have a2 : r * c ≤ 16383 * c := Int.mul_le_mul_of_nonneg_right h3 (by omega)
            unfold wrap64; omega
          generalize sized r c = res at HE ⊢
          go_enter Try.func35, Try.ntmps35
          go_wp2_with fail
          go_ret
          exact ⟨ret_bool HE.out.symm, rfl⟩
        · have HE := Lib.hid (show sized r c = false by
            cases hs : sized r c with
            | false => rfl
            | true => have := sized_le hs; omega)
          generalize sized r c = res at HE ⊢
          go_enter Try.func35, Try.ntmps35
          go_wp2_with fail
          go_ret
          exact ⟨ret_bool HE.out.symm, rfl⟩
      · have HE := Lib.hid (show sized r c = false by
          cases hs : sized r c with
          | false => rfl
          | true => have := sized_le hs; omega)
        generalize sized r c = res at HE ⊢
        go_enter Try.func35, Try.ntmps35
        go_wp2_with fail
        go_ret
        exact ⟨ret_bool HE.out.symm, rfl⟩
    · have HE := Lib.hid (show sized r c = false by
        cases hs : sized r c with
        | false => rfl
        | true => have := sized_le hs; omega)
      generalize sized r c = res at HE ⊢
      go_enter Try.func35, Try.ntmps35
      go_wp2_with fail
      go_ret
      exact ⟨ret_bool HE.out.symm, rfl⟩
  · have HE := Lib.hid (show sized r c = false by
      cases hs : sized r c with
      | false => rfl
      | true => have := sized_le hs; omega)
    generalize sized r c = res at HE ⊢
    go_enter Try.func35, Try.ntmps35
    go_wp2_with fail
    go_ret
    exact ⟨ret_bool HE.out.symm, rfl⟩
set_option maxRecDepth 100000 in
set_option maxHeartbeats 4000000 in
theorem rcell_any (f p n : Bool) (s : Int) (m : Bool) (c : Nat) (w : World) (hc : c < 256) :
    Calls Try.prog 36 #[.agg #[.bool f, .bool p, .bool n, .int .i64 s, .bool m, .int .u8 (c : Int)]] w fun e w' => e = .returned (.bool (cright ⟨f, p, n, s, m, c⟩)) ∧ Below w.heap.size w w' := by
  cases f with
  | true =>
    by_cases h0 : c = 0
    · subst h0
      by_cases h1 : 0 ≤ s
      · have HE := Lib.hid (show cright ⟨true, p, n, s, m, 0⟩ = decide (s ≤ 3) by simp [cright, h1])
        generalize cright _ = res at HE ⊢
        go_enter Try.func36, Try.ntmps36
        go_wp2_with fail
        go_ret
        exact ⟨ret_bool HE.out.symm, al_any _ _⟩
      · have HE := Lib.hid (show cright ⟨true, p, n, s, m, 0⟩ = false by simp [cright, h1])
        generalize cright _ = res at HE ⊢
        go_enter Try.func36, Try.ntmps36
        go_wp2_with fail
        go_ret
        exact ⟨ret_bool HE.out.symm, al_any _ _⟩
    · have HE := Lib.hid (show cright ⟨true, p, n, s, m, c⟩ = false by simp [cright, h0])
      have hz : ((c : Int) == 0) = false := by simp; omega
      generalize cright _ = res at HE ⊢
      go_enter Try.func36, Try.ntmps36
      go_wp2_with fail
      go_ret
      exact ⟨ret_bool HE.out.symm, al_any _ _⟩
  | false =>
    by_cases ha : p = false ∧ n = false ∧ s = 0 ∧ m = false
    · obtain ⟨rfl, rfl, rfl, rfl⟩ := ha
      have HC := Lib.hid fun W => rchar_any c W hc
      have HE := Lib.hid (show cright ⟨false, false, false, 0, false, c⟩ = Att.char c by simp [cright])
      generalize cright _ = res at HE ⊢
      generalize Att.char c = ch at HC HE
      go_enter Try.func36, Try.ntmps36
      go_wp2_with fail
      refine (HC.out _).mono ?_
      rintro e w1 ⟨rfl, rfl⟩
      go_wp2_with fail
      go_ret
      exact ⟨ret_bool HE.out.symm, al_any _ _⟩
    · have HE := Lib.hid (show cright ⟨false, p, n, s, m, c⟩ = false by
        simp [cright]; intro h1 h2 h3 h4; exact absurd ⟨h1, h2, h3, h4⟩ ha)
      generalize cright _ = res at HE ⊢
      cases p <;> cases n <;> cases m <;> simp at ha
      all_goals
        go_enter Try.func36, Try.ntmps36
        go_wp2_with fail
        go_ret
        exact ⟨ret_bool HE.out.symm, al_any _ _⟩
set_option maxRecDepth 100000 in
set_option maxHeartbeats 8000000 in
theorem rright_any (s : S) (ad : Option Addr) (k : Nat) (w : World) (h : CelsIn w (.slice ad s.cs.length k) s.cs) (h8 : Sound s.cs) (hl : s.cs.length < 1000000000) :
    Calls Try.prog 30 #[.agg #[.int .i64 s.rows, .int .i64 s.cols, .slice ad s.cs.length k, .int .i64 s.cur, .bool s.lk, .bool s.ins]] w fun e w' => e = .returned (.bool (sright s)) ∧ Below w.heap.size w w' := by
  obtain ⟨r, c, cs, cur, lk, ins⟩ := s
  simp only at h h8 hl ⊢
  have HZ := Lib.hid fun W => rsized_any r c W
  cases hz : sized r c with
  | false =>
    rw [hz] at HZ
    have HE := Lib.hid (show sright ⟨r, c, cs, cur, lk, ins⟩ = false by simp [sright, hz])
    generalize sright _ = res at HE ⊢
    clear h h8
    go_enter Try.func30, Try.ntmps30
    go_wp2_with fail
    with_reducible refine (HZ.out _).mono ?_
    rintro e w1 ⟨rfl, rfl⟩
    go_wp2_with fail
    go_ret
    exact ⟨ret_bool HE.out.symm, al_any _ _⟩
  | true =>
    rw [hz] at HZ
    obtain ⟨z1, z2, z3, z4, z5⟩ := sized_le hz
    have hw : wrap64 (r * c) = r * c := by
      have : 0 ≤ r * c := Int.mul_nonneg (by omega) (by omega)
      unfold wrap64; omega
    clear z1 z2 z3 z4 z5
    by_cases hq : (cs.length : Int) = r * c
    · have hqb : ((cs.length : Int) != r * c) = false := by simp [hq]
      by_cases h0 : cur < 0
      · clear h h8
        have HE := Lib.hid (show sright ⟨r, c, cs, cur, lk, ins⟩ = false by
          cases hs : sright ⟨r, c, cs, cur, lk, ins⟩ with
          | false => rfl
          | true => have := sright_parts hs; simp only at this; omega)
        generalize sright _ = res at HE ⊢
        clear hq hz
        go_enter Try.func30, Try.ntmps30
        go_wp2_with fail
        with_reducible refine (HZ.out _).mono ?_
        rintro e w1 ⟨rfl, rfl⟩
        go_wp2_with fail
        go_ret
        exact ⟨ret_bool HE.out.symm, al_any _ _⟩
      · by_cases h1 : cur < (cs.length : Int)
        · have HE := Lib.hid (show sright ⟨r, c, cs, cur, lk, ins⟩ = cs.all cright by
            have g0 : 0 ≤ cur := by omega
            have g1 : cur < r * c := by omega
            simp [sright, hz, hq, g0, g1])
          generalize sright _ = res at HE ⊢
          have HB := Lib.hid (al_any w (.cells #[.int .i64 r, .int .i64 c, .slice ad cs.length k, .int .i64 cur, .bool lk, .bool ins] 24))
          have HA := Lib.hid (heap_alloc_new w (.cells #[.int .i64 r, .int .i64 c, .slice ad cs.length k, .int .i64 cur, .bool lk, .bool ins] 24))
          have HI := Lib.hid (h.below HB.out)
          have H8 := Lib.hid h8
          have HL := Lib.hid hl
          have h2 : ¬ ((cs.length : Int) ≤ cur) := by omega
          clear hq hz h h8 hl
          go_enter Try.func30, Try.ntmps30
          go_wp2_with fail
          with_reducible refine (HZ.out _).mono ?_
          rintro e w1 ⟨rfl, rfl⟩
          go_wp2_with fail
          clear h0 h1 h2 hqb hw
          generalize w.alloc _ = wc at *
          go_loopg [3] (cs.length + 1) (fun m i wr => ∃ q : Nat, q ≤ cs.length ∧ m = cs.length + 1 - q ∧ i = .int .i64 q ∧ Hid (Below wc.heap.size wc wr) ∧ Hid (∀ j, j < q → cright (cs.getD j noC) = true))
          case atStart => exact ⟨0, Nat.zero_le _, rfl, rfl, Lib.hid (Below.refl _ _), Lib.hid nofun⟩
          case round =>
            obtain ⟨q, hq, rfl, rfl, HR, HC⟩ := hrel
            have ew : IntKind.i64.wrap ((q : Int) + 1) = (q : Int) + 1 := by
              have := HL.out
              rw [IntWalk.i64_in] <;> omega
            obtain ⟨c0, c1, c2, c3, c4, c5⟩ := cells6 (blk HA.out HR.out)
            by_cases hlt : q < cs.length
            · obtain ⟨xf, xp, xn, xs, xm, xc, ex⟩ := c_eta (cs.getD q noC)
              obtain ⟨b1, o1, rfl, g0, g1, g2, g3, g4, g5⟩ := (HI.out.below HR.out).cells hlt ex
              have hi0 : (0 : Int) ≤ (q : Int) := by omega
              have hi1 : (q : Int) < (cs.length : Int) := by omega
              have h8q := sound_at H8.out q
              rw [ex] at h8q
              have HCC := Lib.hid fun W => rcell_any xf xp xn xs xm xc W h8q
              clear h8q
              go_wp2_with fail
              clear g0 g1 g2 g3 g4 g5 c0 c1 c2 c3 c4 c5
              cases hcc : cright ⟨xf, xp, xn, xs, xm, xc⟩ with
              | true =>
                rw [hcc] at HCC
                with_reducible refine (HCC.out _).mono ?_
                rintro e w2 ⟨rfl, hb⟩
                have HW2 := kept_hid HR hb
                clear hb HCC
                go_wp2_with fail
                go_roundg (cs.length + 1 - (q + 1))
                case measure => omega
                case rel =>
                  refine ⟨q + 1, by omega, rfl, rfl, HW2, Lib.hid fun j hj => ?_⟩
                  by_cases hjk : j = q
                  · subst hjk; rw [ex]; exact hcc
                  · exact HC.out j (by omega)
              | false =>
                rw [hcc] at HCC
                have HN := Lib.hid (show cs.all cright = false from not_all hlt (by rw [ex]; exact hcc))
                with_reducible refine (HCC.out _).mono ?_
                rintro e w2 ⟨rfl, hb⟩
                have HW2 := kept_hid HR hb
                clear hb HCC
                go_wp2_with fail
                go_ret
                exact ⟨ret_bool (by rw [HE.out, HN.out]), kept_trans HB.out HW2.out⟩
            · obtain rfl : q = cs.length := by omega
              have HT := Lib.hid (show cs.all cright = true from all_at HC.out)
              clear hlt
              have hn0 : ¬ (cs.length : Int) < (cs.length : Int) := by omega
              go_wp2_with fail
              go_ret
              exact ⟨ret_bool (by rw [HE.out, HT.out]), kept_trans HB.out HR.out⟩
        · clear h h8
          have HE := Lib.hid (show sright ⟨r, c, cs, cur, lk, ins⟩ = false by
            cases hs : sright ⟨r, c, cs, cur, lk, ins⟩ with
            | false => rfl
            | true => have := sright_parts hs; simp only at this; omega)
          generalize sright _ = res at HE ⊢
          have h2 : (cs.length : Int) ≤ cur := by omega
          clear hq hz
          go_enter Try.func30, Try.ntmps30
          go_wp2_with fail
          with_reducible refine (HZ.out _).mono ?_
          rintro e w1 ⟨rfl, rfl⟩
          go_wp2_with fail
          go_ret
          exact ⟨ret_bool HE.out.symm, al_any _ _⟩
    · have hqb : ((cs.length : Int) != r * c) = true := by simp [hq]
      clear h h8
      have HE := Lib.hid (show sright ⟨r, c, cs, cur, lk, ins⟩ = false by
        cases hs : sright ⟨r, c, cs, cur, lk, ins⟩ with
        | false => rfl
        | true => have := sright_parts hs; simp only at this; omega)
      generalize sright _ = res at HE ⊢
      clear hq hz
      go_enter Try.func30, Try.ntmps30
      go_wp2_with fail
      with_reducible refine (HZ.out _).mono ?_
      rintro e w1 ⟨rfl, rfl⟩
      go_wp2_with fail
      go_ret
      exact ⟨ret_bool HE.out.symm, al_any _ _⟩
set_option maxRecDepth 100000 in
set_option maxHeartbeats 8000000 in
theorem rfew_any (s : S) (ad : Option Addr) (k : Nat) (w : World) (h : CelsIn w (.slice ad s.cs.length k) s.cs) (h8 : Sound s.cs) :
    Calls Try.prog 10 #[.agg #[.int .i64 s.rows, .int .i64 s.cols, .slice ad s.cs.length k, .int .i64 s.cur, .bool s.lk, .bool s.ins]] w fun e w' => e = .returned (.bool (few s)) ∧ Below w.heap.size w w' := by
  have HR := Lib.hid fun W hb hl => rright_any s ad k W (h.below hb) h8 hl
  obtain ⟨r, c, cs, cur, lk, ins⟩ := s
  simp only at h h8 HR ⊢
  by_cases h2 : (cs.length : Int) ≤ 200
  · have HE := Lib.hid (show few ⟨r, c, cs, cur, lk, ins⟩ = sright ⟨r, c, cs, cur, lk, ins⟩ by
      unfold few; simp only; rw [show decide (cs.length ≤ 200) = true by simp; omega, Bool.true_and])
    generalize few _ = res at HE ⊢
    generalize sright _ = sr at HR HE
    have HLL := Lib.hid (show cs.length < 1000000000 by omega)
    clear h h8
    go_enter Try.func10, Try.ntmps10
    go_wp2_with fail
    with_reducible refine (HR.out _ (al_any _ _) HLL.out).mono ?_
    rintro e w1 ⟨rfl, hb⟩
    have HK := Lib.hid (kept_trans (al_any w _) hb)
    clear hb
    go_wp2_with fail
    go_ret
    exact ⟨ret_bool HE.out.symm, HK.out⟩
  · have HE := Lib.hid (show few ⟨r, c, cs, cur, lk, ins⟩ = false by
      unfold few; simp only; rw [show decide (cs.length ≤ 200) = false by simp; omega, Bool.false_and])
    generalize few _ = res at HE ⊢
    clear h h8 HR
    go_enter Try.func10, Try.ntmps10
    go_wp2_with fail
    go_ret
    exact ⟨ret_bool HE.out.symm, al_any _ _⟩
end Grd
end Go.Proofs.Ytoacookbfpcncaa
