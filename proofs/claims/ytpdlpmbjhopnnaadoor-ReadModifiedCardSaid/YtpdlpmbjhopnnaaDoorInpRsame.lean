/- Same of the document, of submissions. -/
import Derived.Test.YtpdlpmbjhopnnaaDoorInpMore
import Derived.Test.YtpdlpmbjhopnnaaDoorInpMem
import Derived.Test.YtpdlpmbjhopnnaaDoorBunBase
import Derived.Deep.QuietTactic
import Derived.BigQuiet
import Derived.Deep.LoopGhost
namespace Go.Proofs.YtpdlpmbjhopnnaaDoor
open Go.RowKit Sha Cut Err Six
namespace Inp
set_option maxRecDepth 100000 in
set_option maxHeartbeats 4000000 in
theorem risame_any (x y : I) (a1 : Option Addr) (n1 c1 : Nat) (a2 : Option Addr) (n2 c2 : Nat) (w : World) (h1 : FldsIn w 0 (.slice a1 n1 c1) x.fs) (h2 : FldsIn w 0 (.slice a2 n2 c2) y.fs) (s1 : Sound x.fs) (s2 : Sound y.fs) (hl : x.fs.length < 1000000) :
    Calls Tryd.prog 12 #[.agg #[.int .u8 (x.aid : Int), .int .i64 x.cur, .slice a1 n1 c1], .agg #[.int .u8 (y.aid : Int), .int .i64 y.cur, .slice a2 n2 c2]] w fun e w' => e = .returned (.bool (isame x y)) ∧ Below w.heap.size w w' := by
  obtain ⟨xk, xc, xo⟩ := x
  obtain ⟨yk, yc, yo⟩ := y
  simp only at h1 h2 s1 s2 hl ⊢
  obtain rfl := h1.len
  obtain rfl := h2.len
  have HS := Lib.hid (show isame ⟨xk, xc, xo⟩ ⟨yk, yc, yo⟩ = (((xk : Int) == (yk : Int)) && ((xc == yc) && fsames xo yo)) by
    simp only [isame]
    rw [show (xk == yk) = ((xk : Int) == (yk : Int)) by rw [Bool.eq_iff_iff]; simp; omega])
  generalize isame _ _ = res at HS ⊢
  generalize (xk : Int) = xa at *
  generalize (yk : Int) = ya at *
  have H1 := Lib.hid h1
  have H2 := Lib.hid h2
  have S1 := Lib.hid s1
  have S2 := Lib.hid s2
  have HL := Lib.hid hl
  clear h1 h2 s1 s2 hl
  have HB1 := Lib.hid (heap_alloc2_old w (.cells #[.int .u8 xa, .int .i64 xc, .slice a1 xo.length c1] 29) (.cells #[.int .u8 ya, .int .i64 yc, .slice a2 yo.length c2] 29))
  have HB2 := Lib.hid (heap_alloc2_new w (.cells #[.int .u8 xa, .int .i64 xc, .slice a1 xo.length c1] 29) (.cells #[.int .u8 ya, .int .i64 yc, .slice a2 yo.length c2] 29))
  by_cases hd : (xa == ya && (xc == yc && decide (xo.length = yo.length))) = true
  · simp only [Bool.and_eq_true, beq_iff_eq, decide_eq_true_eq] at hd
    obtain ⟨rfl, rfl, hlen⟩ := hd
    have hq : ((xo.length : Int) != (yo.length : Int)) = false := by simp [hlen]
    have e1 : (xa != xa) = false := by simp
    have e2 : (xc != xc) = false := by simp
    have HLEN := Lib.hid hlen
    have HR := Lib.hid (show res = fsames xo yo by rw [HS.out]; simp)
    clear hlen HS
    go_enter Tryd.func12, Tryd.ntmps12
    go_wp2_with fail
    have HA := Lib.hid (al2 w (.cells #[.int .u8 xa, .int .i64 xc, .slice a1 xo.length c1] 29) (.cells #[.int .u8 xa, .int .i64 xc, .slice a2 yo.length c2] 29))
    generalize (w.alloc (.cells #[.int .u8 xa, .int .i64 xc, .slice a1 xo.length c1] 29)).alloc (.cells #[.int .u8 xa, .int .i64 xc, .slice a2 yo.length c2] 29) = w1 at *
    go_loopg [5] (xo.length + 1) (fun m i wr => ∃ k : Nat, k ≤ xo.length ∧ m = xo.length + 1 - k ∧ i = .int .i64 k ∧ Hid (Below w1.heap.size w1 wr) ∧ Hid (∀ j, j < k → xo.getD j noneF = yo.getD j noneF))
    case atStart => exact ⟨0, Nat.zero_le _, rfl, rfl, Lib.hid (Below.refl _ _), Lib.hid nofun⟩
    case round =>
      obtain ⟨k, hk, rfl, rfl, HB, HE⟩ := hrel
      have ew : IntKind.i64.wrap ((k : Int) + 1) = (k : Int) + 1 := by
        have := HL.out
        rw [IntWalk.i64_in] <;> omega
      have cx := cell_of_row wr w.heap.size 2 _ _ (0, 0) (blk HB1.out HB.out)
      have cy := cell_of_row wr (w.heap.size + 1) 2 _ _ (0, 0) (blk HB2.out HB.out)
      simp only [show (#[Value.int .u8 xa, .int .i64 xc, .slice a1 xo.length c1])[2]? = some (.slice a1 xo.length c1) from rfl] at cx
      simp only [show (#[Value.int .u8 xa, .int .i64 xc, .slice a2 yo.length c2])[2]? = some (.slice a2 yo.length c2) from rfl] at cy
      have HAW := kept_hid HA HB.out
      by_cases hlt : k < xo.length
      · obtain ⟨pa, pt, ex⟩ := f_eta (xo.getD k noneF)
        obtain ⟨qa, qt, ey⟩ := f_eta (yo.getD k noneF)
        obtain ⟨b1, o1, t1, m1, q1, rfl, g0, g1, B1, _⟩ := (H1.out.below HAW.out).cells hlt ex
        obtain ⟨b2, o2, t2, m2, q2, rfl, f0, f1, B2, _⟩ := (H2.out.below HAW.out).cells (show k < yo.length by have := HLEN.out; omega) ey
        have hi0 : (0 : Int) ≤ (k : Int) := by omega
        have hi1 : (k : Int) < (xo.length : Int) := by omega
        have hi2 : (k : Int) < (yo.length : Int) := by have := HLEN.out; omega
        have sx := sound_at S1.out k
        have sy := sound_at S2.out k
        rw [ex] at sx
        rw [ey] at sy
        have HSM : Hid (∀ n, Calls Tryd.prog 28 #[.slice t1 m1 q1, .slice t2 m2 q2] (wr.drewN n) fun e w'' => e = .returned (.bool (decide (pt = qt))) ∧ ∃ m, w'' = wr.drewN m) :=
          fun n => (Sam.same_gen _ _ pt qt (wr.drewN n) (bytes_below B1 (below_drewN _ n _)) (bytes_below B2 (below_drewN _ n _)) sx.1 sy.1 sx.2).mono fun e w'' ⟨he, k, hw⟩ => ⟨he, n + k, by rw [hw, World.drewN_drewN]⟩
        clear sx sy B1 B2
        by_cases ha : pa = qa
        · subst ha
          have e3 : (pa != pa) = false := by simp
          by_cases ht : pt = qt
          · subst ht
            have HSM := Lib.hid (fun n => by have := HSM.out n; rwa [decide_eq_true rfl] at this)
            rename_i HSM0; clear HSM0
            go_wp2_with fail
            go_quiet ((go_at_call 28; exact HSM.out _))
            have HK := kept_draw HB nq
            clear HSM cx cy g0 g1 f0 f1
            go_wp2_with fail
            go_roundg (xo.length + 1 - (k + 1))
            case measure => omega
            case rel =>
              refine ⟨k + 1, by omega, rfl, rfl, HK, Lib.hid fun j hj => ?_⟩
              by_cases hjk : j = k
              · subst hjk; rw [ex, ey]
              · exact HE.out j (by omega)
          · have HF := Lib.hid (show res = false by
              rw [HR.out]
              refine fsames_at (i := k) ?_
              rw [ex, ey]; simpa [fsame] using ht)
            have HSM := Lib.hid (fun n => by have := HSM.out n; rwa [decide_eq_false ht] at this)
            rename_i HSM0; clear HSM0 ht
            go_wp2_with fail
            go_quiet ((go_at_call 28; exact HSM.out _))
            have HK := kept_draw HAW nq
            clear HSM cx cy g0 g1 f0 f1
            go_wp2_with fail
            go_ret
            exact ⟨by rw [HF.out]; rfl, HK.out⟩
        · have e3 : (pa != qa) = true := by simpa using ha
          have HF := Lib.hid (show res = false by
            rw [HR.out]
            refine fsames_at (i := k) ?_
            rw [ex, ey]; simp [fsame, ha])
          clear ha HSM
          go_wp2_with fail
          go_quiet (fail)
          have HK := kept_draw HAW nq
          clear cx cy g0 g1 f0 f1
          go_wp2_with fail
          go_ret
          exact ⟨by rw [HF.out]; rfl, HK.out⟩
      · obtain rfl : k = xo.length := by omega
        have HT := Lib.hid (show res = true by rw [HR.out]; exact (fsames_iff _ _).2 (getD_ext HLEN.out HE.out))
        clear hlt
        have hn0 : ¬ (xo.length : Int) < (xo.length : Int) := by omega
        go_wp2_with fail
        go_ret
        exact ⟨by rw [HT.out]; rfl, HAW.out⟩
  · have HF := Lib.hid (show res = false by
      rw [HS.out, Bool.eq_false_iff]
      intro h
      simp only [Bool.and_eq_true] at h
      refine hd ?_
      simp only [Bool.and_eq_true, decide_eq_true_eq]
      exact ⟨h.1, h.2.1, by rw [(fsames_iff _ _).1 h.2.2]⟩)
    clear HS H1 H2 S1 S2 HL HB1 HB2
    have hd := Bool.eq_false_iff.2 hd
    generalize e0 : (xa == ya) = b0 at hd
    cases b0 with
    | false =>
      have e1 : (xa != ya) = true := by simp only [bne, e0]; rfl
      clear hd
      go_enter Tryd.func12, Tryd.ntmps12
      go_wp2_with fail
      go_ret
      exact ⟨by rw [HF.out]; rfl, al2 ..⟩
    | true =>
      have e1 : (xa != ya) = false := by simp only [bne, e0]; rfl
      generalize e3 : (xc == yc) = b1 at hd
      cases b1 with
      | false =>
        have e4 : (xc != yc) = true := by simp only [bne, e3]; rfl
        clear hd
        go_enter Tryd.func12, Tryd.ntmps12
        go_wp2_with fail
        go_ret
        exact ⟨by rw [HF.out]; rfl, al2 ..⟩
      | true =>
        have e4 : (xc != yc) = false := by simp only [bne, e3]; rfl
        have hq : ((xo.length : Int) != (yo.length : Int)) = true := by simp at hd; simp; omega
        clear hd
        go_enter Tryd.func12, Tryd.ntmps12
        go_wp2_with fail
        go_ret
        exact ⟨by rw [HF.out]; rfl, al2 ..⟩
end Inp
end Go.Proofs.YtpdlpmbjhopnnaaDoor
