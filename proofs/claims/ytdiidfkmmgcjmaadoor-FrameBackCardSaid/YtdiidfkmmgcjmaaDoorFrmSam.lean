/- Same of the document. Written by tools/gen_frm_ref.py. -/
import Derived.Test.YtdiidfkmmgcjmaaDoorFrmMem
import Derived.Deep.Cut
import Derived.Deep.LoopGhost
import Derived.Deep.RegionHeld3
import Derived.IntWalk
namespace Go.Proofs.YtdiidfkmmgcjmaaDoor
open Go.RowKit Sha Six Apd Cut Err
set_option linter.unusedVariables false
namespace Frm
set_option maxRecDepth 100000 in
set_option maxHeartbeats 8000000 in
theorem rsame_any (x y : F) (a1 : Option Addr) (n1 c1 : Nat) (a2 : Option Addr) (n2 c2 : Nat) (w : World) (h1 : BytesIn w (.slice a1 n1 c1) x.b) (h2 : BytesIn w (.slice a2 n2 c2) y.b) (hx8 : ∀ b ∈ x.b, b < 256) (hy8 : ∀ b ∈ y.b, b < 256) (hl : x.b.length < 1000000) :
    Calls Tryd.prog 15 #[.agg #[.int .i64 x.d, .int .i64 x.q, .slice a1 n1 c1], .agg #[.int .i64 y.d, .int .i64 y.q, .slice a2 n2 c2]] w fun e w' => e = .returned (.bool (same x y)) ∧ Below w.heap.size w w' := by
  have HE := Lib.hid fun W (hb : Below w.heap.size w W) => Sam.same_gen _ _ x.b y.b W (bytes_below h1 hb) (bytes_below h2 hb) hx8 hy8 hl
  have HS := Lib.hid (show same x y = ((x.d == y.d) && ((x.q == y.q) && decide (x.b = y.b))) from rfl)
  obtain ⟨xd, xq, xb⟩ := x
  obtain ⟨yd, yq, yb⟩ := y
  simp only at h1 h2 hx8 hy8 hl HE HS ⊢
  generalize same ⟨xd, xq, xb⟩ ⟨yd, yq, yb⟩ = r at HS ⊢
  generalize decide (xb = yb) = bt at HE HS
  have HB := Lib.hid (kept_trans (al_any w (.cells #[.int .i64 xd, .int .i64 xq, .slice a1 n1 c1] 24)) (al_any _ (.cells #[.int .i64 yd, .int .i64 yq, .slice a2 n2 c2] 24)))
  have HX := Lib.hid (heap_alloc2_old w (.cells #[.int .i64 xd, .int .i64 xq, .slice a1 n1 c1] 24) (.cells #[.int .i64 yd, .int .i64 yq, .slice a2 n2 c2] 24))
  have HY := Lib.hid (heap_alloc2_new w (.cells #[.int .i64 xd, .int .i64 xq, .slice a1 n1 c1] 24) (.cells #[.int .i64 yd, .int .i64 yq, .slice a2 n2 c2] 24))
  clear h1 h2 hx8 hy8 hl
  generalize hk : (xd == yd) = bk at HS
  generalize hq : (xq == yq) = bq at HS
  go_enter Tryd.func15, Tryd.ntmps15
  go_upto_region 1 with (fail)
  generalize (w.alloc _).alloc _ = w1 at *
  obtain ⟨c0, c1, c2⟩ := cells3 HX.out
  obtain ⟨d0, d1, d2⟩ := cells3 HY.out
  cases bk with
  | false =>
    go_wp2_with fail
    go_ret
    exact ⟨by rw [HS.out]; rfl, HB.out⟩
  | true =>
    cases bq with
    | false =>
      go_wp2_with fail
      go_ret
      exact ⟨by rw [HS.out]; rfl, HB.out⟩
    | true =>
      go_wp2_with fail
      refine (HE.out _ HB.out).mono ?_
      rintro e w2 ⟨rfl, m, rfl⟩
      go_wp2_with fail
      go_ret
      exact ⟨by rw [HS.out]; rfl, kept_trans HB.out (below_drewN _ _ _)⟩
end Frm
end Go.Proofs.YtdiidfkmmgcjmaaDoor
