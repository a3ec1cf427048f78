/- OrdAl2, OrdRsame in one text (by tools/bundle.py). -/
import Derived.Test.YtpdlpmbjhopnnaaDoorBunBase
import Derived.Test.YtpdlpmbjhopnnaaDoorBunPlain
/- Two new blocks. -/
namespace Go.Proofs.YtpdlpmbjhopnnaaDoor
open Go.RowKit Sha Cut Err Six
namespace Ord
theorem al2 (w : World) (x y : Obj) : Below w.heap.size w ((w.alloc x).alloc y) := ((Below.refl _ _).alloc (Nat.le_refl _) _).alloc (by simp) _
end Ord
end Go.Proofs.YtpdlpmbjhopnnaaDoor
/- The document's Same of orders. -/
namespace Go.Proofs.YtpdlpmbjhopnnaaDoor
open Go.RowKit Sha Cut Err Six
namespace Ord
set_option maxRecDepth 100000 in
set_option maxHeartbeats 2000000 in
theorem rsame_any (x y : O) (a1 : Option Addr) (l1 c1 : Nat) (a2 : Option Addr) (l2 c2 : Nat) (w : World) (h1 : BytesIn w (.slice a1 l1 c1) x.t) (h2 : BytesIn w (.slice a2 l2 c2) y.t) (hx8 : ∀ b ∈ x.t, b < 256) (hy8 : ∀ b ∈ y.t, b < 256) (hl : x.t.length < 1000000) :
    Calls Tryd.prog 33 #[.agg #[.int .i64 x.k, .slice a1 l1 c1, .bool x.p, .bool x.n, .int .i64 x.s, .bool x.m, .int .i64 x.a, .int .u8 (x.c : Int)], .agg #[.int .i64 y.k, .slice a2 l2 c2, .bool y.p, .bool y.n, .int .i64 y.s, .bool y.m, .int .i64 y.a, .int .u8 (y.c : Int)]] w fun e w' => e = .returned (.bool (same x y)) ∧ Below w.heap.size w w' := by
  obtain ⟨xk, xt, xp, xn, xs, xm, xa, xc⟩ := x
  obtain ⟨yk, yt, yp, yn, ys, ym, ya, yc⟩ := y
  simp only at h1 h2 hx8 hy8 hl ⊢
  have HE := Lib.hid fun W hb => Sam.same_gen _ _ xt yt W (bytes_below h1 hb) (bytes_below h2 hb) hx8 hy8 hl
  have HS := Lib.hid (show same ⟨xk, xt, xp, xn, xs, xm, xa, xc⟩ ⟨yk, yt, yp, yn, ys, ym, ya, yc⟩ = ((xk == yk) && (decide (xt = yt) && ((xp == yp && (xn == yn && (xs == ys && xm == ym))) && ((xa == ya) && ((xc : Int) == (yc : Int)))))) by
    simp only [same]
    have e1 : decide (xk = yk) = (xk == yk) := by rw [Bool.eq_iff_iff]; simp
    have e2 : decide (xs = ys) = (xs == ys) := by rw [Bool.eq_iff_iff]; simp
    have e3 : decide (xa = ya) = (xa == ya) := by rw [Bool.eq_iff_iff]; simp
    have e4 : decide (xc = yc) = ((xc : Int) == (yc : Int)) := by rw [Bool.eq_iff_iff]; simp; omega
    rw [e1, e2, e3, e4])
  generalize same _ _ = r at HS ⊢
  generalize decide (xt = yt) = bt at HE HS
  clear h1 h2 hx8 hy8 hl
  generalize hk : (xk == yk) = bk at HS
  cases bk with
  | false =>
    go_enter Tryd.func33, Tryd.ntmps33
    go_wp2
    go_ret
    rw [HS.out]
    refine ⟨rfl, ?_⟩
    exact ((Below.refl _ _).alloc (Nat.le_refl _) _).alloc (by simp) _
  | true =>
    go_enter Tryd.func33, Tryd.ntmps33
    go_wp2_with fail
    refine (HE.out _ (al2 ..)).mono ?_
    rintro e w1 ⟨rfl, m, rfl⟩
    cases bt with
    | false =>
      go_wp2
      go_ret
      rw [HS.out]
      exact ⟨rfl, (al2 ..).trans (below_drewN _ _ _)⟩
    | true =>
      generalize hp : (xp == yp && (xn == yn && (xs == ys && xm == ym))) = bp at HS
      go_wp2
      all_goals
        go_ret
        refine ⟨?_, (al2 ..).trans (below_drewN _ _ _)⟩
        have hr := HS.out
        subst hp
        clear HS HE
        simp_all
end Ord
end Go.Proofs.YtpdlpmbjhopnnaaDoor
