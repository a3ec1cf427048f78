/- Copy and Same of the document, layer 10. -/
import Derived.Test.YtoacookbfpcncaaGrdEq
import Derived.Deep.LoopGhost
import Derived.Deep.QuietTactic
import Derived.BigQuiet
import Derived.IntWalk
import Derived.Deep.Cut
namespace Go.Proofs.Ytoacookbfpcncaa
open Go.RowKit Sha Six Apd Cut Err
set_option linter.unusedVariables false
namespace Grd
set_option maxRecDepth 100000 in
set_option maxHeartbeats 4000000 in
theorem rcopy_any (s : S) (ad : Option Addr) (k : Nat) (w : World) (h : CelsIn w (.slice ad s.cs.length k) s.cs) (hl : s.cs.length < 100000000) :
    Calls Try.prog 27 #[.agg #[.int .i64 s.rows, .int .i64 s.cols, .slice ad s.cs.length k, .int .i64 s.cur, .bool s.lk, .bool s.ins]] w fun e w' => Copied w w' s e := by
  obtain ⟨r, c, cs, cur, lk, ins⟩ := s
  simp only at h hl ⊢
  have HB := Lib.hid (kept_trans (al_any w (.cells #[.int .i64 r, .int .i64 c, .slice ad cs.length k, .int .i64 cur, .bool lk, .bool ins] 24)) (al_any _ (.cells #[.int .i64 0, .int .i64 0, .slice none 0 0, .int .i64 0, .bool false, .bool false] 24)))
  have HX := Lib.hid (heap_alloc2_old w (.cells #[.int .i64 r, .int .i64 c, .slice ad cs.length k, .int .i64 cur, .bool lk, .bool ins] 24) (.cells #[.int .i64 0, .int .i64 0, .slice none 0 0, .int .i64 0, .bool false, .bool false] 24))
  have HY := Lib.hid (heap_alloc2_new w (.cells #[.int .i64 r, .int .i64 c, .slice ad cs.length k, .int .i64 cur, .bool lk, .bool ins] 24) (.cells #[.int .i64 0, .int .i64 0, .slice none 0 0, .int .i64 0, .bool false, .bool false] 24))
  have HC := Lib.hid (h.below HB.out)
  have HL := Lib.hid hl
  clear h hl
  go_enter Try.func27, Try.ntmps27
  go_upto_region 1 with (fail)
  generalize (w.alloc _).alloc _ = w1 at *
  have HAL := al_any w1 (.cells #[] 39)
  have HO0 := Lib.hid (World.ownsRow_lit (e := 39) (size := 6) w1 #[] 0 (Nat.le_refl _) (Nat.zero_le _) rfl)
  have HC1 := Lib.hid (HC.out.below HAL)
  have HAL := Lib.hid HAL
  have hX := blk HX.out HAL.out
  obtain ⟨c0, c1, c2, c3, c4, c5⟩ := cells6 hX
  clear HC hX
  go_wp2_with (at_builtin; refine wpList_mark ?_)
  refine Lib.hid ?_
  refine append_cels rfl (.tmp 3) (.tmp 5) rfl w1.heap.size (.slice (some ⟨w1.heap.size, 0, none⟩) 0 0) 0 [] rfl HO0.out ad cs.length k cs rfl HC1.out (by have := HL.out; omega) HAL.out.size ?_
  intro v w2 hown hgr
  have ho : OwnCels w2 w1.heap.size v cs := by unfold OwnCels; simpa using hown
  have hb : Below w1.heap.size w1 w2 := HAL.out.grown hgr HAL.out.size (by intro k hk; simp [Value.ownBlock] at hk; omega)
  obtain ⟨va, vc, rfl⟩ := ho.form
  clear hown hgr HO0 HC1 HAL c0 c1 c2 c3 c4 c5
  have K2 := kept_hid HB hb
  have HO := Lib.hid (ho.mono HB.out.size)
  have HOG := Lib.hid (show ∀ g, (Value.slice va cs.length vc).ownBlock = some g → w.heap.size + 1 < g from fun g hg => by
    have h1 := own_ge ho g hg
    have h2 := there_lt HY.out
    omega)
  have X2 := Lib.hid (blk HX.out hb)
  have Y2 := Lib.hid (blk HY.out hb)
  clear ho hb HX HY HB HL
  obtain ⟨f0, f1, f2, f3, f4, f5⟩ := free6 X2.out
  obtain ⟨c0, c1, c2, c3, c4, c5⟩ := cells6 X2.out
  have X3 := Lib.hid (heap_setCell_same w2 w.heap.size 2 _ 24 (.slice va cs.length vc) X2.out)
  have Y3 := Lib.hid (blk_g Y2.out (gsetCell w2 w.heap.size 2 (.slice va cs.length vc)) (by intro e; injection e with e; omega))
  have G3 := Lib.hid (gsetCell w2 w.heap.size 2 (.slice va cs.length vc))
  have O3 := Lib.hid (show OwnCels (w2.setCell ⟨w.heap.size, 2, none⟩ (.slice va cs.length vc)) w.heap.size (.slice va cs.length vc) cs from HO.out.kept (gsetCell w2 w.heap.size 2 (.slice va cs.length vc)) (.inr (fun e => by have := HOG.out _ e; omega)))
  have K3 := Lib.hid (below_grown K2.out G3.out (Nat.le_refl _))
  go_upto_region 2 with (fail)
  clear f0 f1 f2 f3 f4 f5 c0 c1 c2 c3 c4 c5
  generalize w2.setCell _ _ = w3 at *
  obtain ⟨c0, c1, c2, c3, c4, c5⟩ := cells6 X3.out
  obtain ⟨f0, f1, f2, f3, f4, f5⟩ := free6 Y3.out
  obtain ⟨d0, d1, d2, d3, d4, d5⟩ := cells6 Y3.out
  have SF := Lib.hid (over6 w3 (w.heap.size + 1) _ _ _ _ _ _ _ (.int .i64 r) (.int .i64 c) (.slice va cs.length vc) (.int .i64 cur) (.bool lk) (.bool ins) Y3.out)
  go_wp2_with fail
  clear c0 c1 c2 c3 c4 c5 d0 d1 d2 d3 d4 d5 f0 f1 f2 f3 f4 f5
  generalize (((((w3.setCell _ _).setCell _ _).setCell _ _).setCell _ _).setCell _ _).setCell _ _ = w4 at *
  refine bodyPost_ret (v := .agg #[.int .i64 r, .int .i64 c, .slice va cs.length vc, .int .i64 cur, .bool lk, .bool ins]) (results_cell_row rfl _ _ (w.heap.size + 1) 24 _ (0, 0) _ rfl SF.out.1 Try.underlying24 rfl (by kernel_rfl)) rfl ?_
  exact ⟨va, vc, rfl, O3.out.kept SF.out.2 (.inr (fun e => by have := HOG.out _ e; omega)), below_grown K3.out SF.out.2 (by omega)⟩
set_option maxRecDepth 100000 in
set_option maxHeartbeats 8000000 in
theorem rsame_any (r c cur : Int) (lk ins : Bool) (a1 : Option Addr) (n1 k1 : Nat) (a2 : Option Addr) (n2 k2 : Nat) (xs ys : List C) (w : World) (h1 : CelsIn w (.slice a1 n1 k1) xs) (h2 : CelsIn w (.slice a2 n2 k2) ys) (hl : xs.length < 1000000000) :
    Calls Try.prog 28 #[.agg #[.int .i64 r, .int .i64 c, .slice a1 n1 k1, .int .i64 cur, .bool lk, .bool ins], .agg #[.int .i64 r, .int .i64 c, .slice a2 n2 k2, .int .i64 cur, .bool lk, .bool ins]] w fun e w' => e = .returned (.bool (decide (xs = ys))) ∧ Below w.heap.size w w' := by
  obtain rfl := h1.len
  obtain rfl := h2.len
  have HB := Lib.hid (kept_trans (al_any w (.cells #[.int .i64 r, .int .i64 c, .slice a1 xs.length k1, .int .i64 cur, .bool lk, .bool ins] 24)) (al_any _ (.cells #[.int .i64 r, .int .i64 c, .slice a2 ys.length k2, .int .i64 cur, .bool lk, .bool ins] 24)))
  have HX := Lib.hid (heap_alloc2_old w (.cells #[.int .i64 r, .int .i64 c, .slice a1 xs.length k1, .int .i64 cur, .bool lk, .bool ins] 24) (.cells #[.int .i64 r, .int .i64 c, .slice a2 ys.length k2, .int .i64 cur, .bool lk, .bool ins] 24))
  have HY := Lib.hid (heap_alloc2_new w (.cells #[.int .i64 r, .int .i64 c, .slice a1 xs.length k1, .int .i64 cur, .bool lk, .bool ins] 24) (.cells #[.int .i64 r, .int .i64 c, .slice a2 ys.length k2, .int .i64 cur, .bool lk, .bool ins] 24))
  have H1 := Lib.hid (h1.below HB.out)
  have H2 := Lib.hid (h2.below HB.out)
  have HL := Lib.hid hl
  have e0 : ((r : Int) != r) = false := by simp
  have e1 : ((c : Int) != c) = false := by simp
  have e2 : ((cur : Int) != cur) = false := by simp
  have e3 : (lk != lk) = false := by simp
  have e4 : (ins != ins) = false := by simp
  clear h1 h2 hl
  by_cases hlen : xs.length = ys.length
  · have hq : ((xs.length : Int) != (ys.length : Int)) = false := by simp [hlen]
    have HLEN := Lib.hid hlen
    clear hlen
    go_enter Try.func28, Try.ntmps28
    go_upto_region 1 with (fail)
    generalize (w.alloc _).alloc _ = w1 at *
    obtain ⟨c0, c1, c2, c3, c4, c5⟩ := cells6 HX.out
    obtain ⟨d0, d1, d2, d3, d4, d5⟩ := cells6 HY.out
    go_wp2_with fail
    clear e0 e1 e2 e3 e4 hq
    go_loopg [5] (xs.length + 1) (fun m i wr => ∃ k : Nat, k ≤ xs.length ∧ m = xs.length + 1 - k ∧ i = .int .i64 k ∧ Hid (∀ j, j < k → xs.getD j noC = ys.getD j noC) ∧ ∃ n, wr = w1.drewN n)
    case atStart => exact ⟨0, Nat.zero_le _, rfl, rfl, Lib.hid nofun, 0, rfl⟩
    case round =>
      obtain ⟨k, hk, rfl, rfl, HE, n, rfl⟩ := hrel
      have ew : IntKind.i64.wrap ((k : Int) + 1) = (k : Int) + 1 := by
        have := HL.out
        rw [IntWalk.i64_in] <;> omega
      by_cases hlt : k < xs.length
      · obtain ⟨xf, xp, xn, xs', xm, xc, ex⟩ := c_eta (xs.getD k noC)
        obtain ⟨yf, yp, yn, ys', ym, yc, ey⟩ := c_eta (ys.getD k noC)
        obtain ⟨b1, o1, rfl, g0, g1, g2, g3, g4, g5⟩ := H1.out.cells hlt ex
        obtain ⟨b2, o2, rfl, p0, p1, p2, p3, p4, p5⟩ := H2.out.cells (show k < ys.length by have := HLEN.out; omega) ey
        have hi0 : (0 : Int) ≤ (k : Int) := by omega
        have hi1 : (k : Int) < (xs.length : Int) := by omega
        have hi2 : (k : Int) < (ys.length : Int) := by have := HLEN.out; omega
        have HN := run_neqC ⟨xf, xp, xn, xs', xm, xc⟩ ⟨yf, yp, yn, ys', ym, yc⟩
        simp only at HN
        generalize hd : decide ((⟨xf, xp, xn, xs', xm, xc⟩ : C) = ⟨yf, yp, yn, ys', ym, yc⟩) = bd at HN
        cases bd with
        | true =>
          have HP := Lib.hid (show xs.getD k noC = ys.getD k noC by rw [ex, ey]; simpa using hd)
          clear hd
          go_wp2_with fail
          go_quiet (fail)
          go_wp2_with fail
          go_roundg (xs.length + 1 - (k + 1))
          case measure => omega
          case rel =>
            refine ⟨k + 1, by omega, rfl, by first | rfl | go_num, Lib.hid fun j hj => ?_, n + nq, by first | rfl | simp [World.drewN, Nat.add_assoc]⟩
            by_cases hjk : j = k
            · subst hjk; exact HP.out
            · exact HE.out j (by omega)
        | false =>
          have HF := Lib.hid (show decide (xs = ys) = false by
            simp only [decide_eq_false_iff_not] at hd ⊢
            intro e; apply hd; rw [← ex, ← ey, e])
          clear hd
          go_wp2_with fail
          go_quiet (fail)
          go_wp2_with fail
          go_ret
          refine ⟨by rw [HF.out]; rfl, kept_trans HB.out ?_⟩
          have := below_drewN w1.heap.size (n + nq) w1
          simpa [World.drewN, Nat.add_assoc] using this
      · obtain rfl : k = xs.length := by omega
        have HT := Lib.hid (show decide (xs = ys) = true by simp only [decide_eq_true_eq]; exact c_ext HLEN.out HE.out)
        clear hlt
        have hn0 : ¬ (xs.length : Int) < (xs.length : Int) := by omega
        go_wp2_with fail
        go_ret
        exact ⟨by rw [HT.out]; rfl, kept_trans HB.out (below_drewN _ _ _)⟩
  · have hq : ((xs.length : Int) != (ys.length : Int)) = true := by simp; omega
    have HF := Lib.hid (show decide (xs = ys) = false by simp only [decide_eq_false_iff_not]; intro e; exact hlen (by rw [e]))
    clear hlen
    go_enter Try.func28, Try.ntmps28
    go_wp2_with fail
    go_ret
    exact ⟨by rw [HF.out]; rfl, HB.out⟩
end Grd
end Go.Proofs.Ytoacookbfpcncaa
