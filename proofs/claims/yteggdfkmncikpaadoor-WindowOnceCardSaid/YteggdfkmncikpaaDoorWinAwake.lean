/- awake of the laws of window. Written by tools/gen_win_laws.py. -/
import Derived.Test.YteggdfkmncikpaaDoorWinCode
import Derived.Test.YteggdfkmncikpaaDoorWinEq
import Derived.Deep.QuietTactic
import Derived.BigQuiet
import Derived.Deep.Cut
import Derived.Deep.LoopGhost
import Derived.Deep.RegionLaw
import Derived.Deep.RegionHeld3
import Derived.IntWalk
import Derived.Lib.SmallJoins
namespace Go.Proofs.YteggdfkmncikpaaDoor
open Go.RowKit Sha Six Apd Cut Err
set_option linter.unusedVariables false
set_option linter.unusedSimpArgs false
namespace Win
set_option maxRecDepth 100000 in
set_option maxHeartbeats 8000000 in
theorem awake_any (w : World) (hg : Handle w) : Calls Tryd.prog 8 #[] w fun e w' => e = .returned (.bool true) ∧ Below w.heap.size w w' := by
  have HG := Lib.hid fun W (hb : Below w.heap.size w W) => hand_of hg hb
  have L1 := Lib.hid fun W => let_any ⟨0, 0⟩ 5 W rfl ⟨by decide, rfl⟩ rfl
  have L2 := Lib.hid fun W => let_any ⟨5, 1⟩ 3 W rfl ⟨by decide, rfl⟩ rfl
  have L3 := Lib.hid fun W => let_any ⟨5, 5⟩ 5 W rfl ⟨by decide, rfl⟩ rfl
  rw [show lets ⟨0, 0⟩ 5 = (⟨5, 1⟩, 0) from rfl] at L1
  rw [show lets ⟨5, 1⟩ 3 = (⟨5, 5⟩, 0) from rfl] at L2
  rw [show lets ⟨5, 5⟩ 5 = (⟨5, 5⟩, 12) from rfl] at L3
  simp only [GaveL, errn_0, show errn 12 = .iface 46 (.int .i64 12) from rfl] at L1 L2 L3
  have H1 := Lib.hid fun W => has_any ⟨5, 5⟩ 3 W rfl ⟨by decide, rfl⟩ rfl
  have H2 := Lib.hid fun W => has_any ⟨5, 5⟩ 4 W rfl ⟨by decide, rfl⟩ rfl
  have HR := Lib.hid fun W => right_any ⟨5, 5⟩ W ⟨by decide, rfl⟩
  rw [show has ⟨5, 5⟩ 3 = true from rfl] at H1
  rw [show has ⟨5, 5⟩ 4 = false from rfl] at H2
  rw [show right ⟨5, 5⟩ = true from rfl] at HR
  have HC := Lib.hid fun W (hb : Below w.heap.size w W) => code_errno 12 W (HG.out W hb)
  have hq := fun W => run_sameS ⟨5, 1⟩ W
  simp only [show ((0 : Nat) : Int) = 0 from rfl, show ((1 : Nat) : Int) = 1 from rfl, show ((5 : Nat) : Int) = 5 from rfl] at L1 L2 L3 H1 H2 HR hq
  clear hg HG
  go_enter Tryd.func8, Tryd.ntmps8
  go_wp2_with fail
  with_reducible refine (L1.out _).mono ?_
  rintro e w1 ⟨rfl, hb⟩
  have HA := al_any w1 (.cells #[.int .i64 5, .int .u64 1] 24)
  have X1 := Lib.hid (heap_alloc_new w1 (.cells #[.int .i64 5, .int .u64 1] 24))
  have K1 := Lib.hid (kept_trans hb HA)
  clear hb HA L1
  go_upto_region 2 with (fail)
  generalize w1.heap.size = G1 at *
  generalize w1.alloc _ = w2 at *
  obtain ⟨c0, c1⟩ := cells2 X1.out
  go_wp2_with fail
  with_reducible refine (L2.out _).mono ?_
  rintro e w3 ⟨rfl, hb⟩
  have HA := al_any w3 (.cells #[.int .i64 5, .int .u64 5] 24)
  have X2 := Lib.hid (heap_alloc_new w3 (.cells #[.int .i64 5, .int .u64 5] 24))
  have Y2 := Lib.hid (blk X1.out (kept_trans hb HA))
  have K2 := kept_hid K1 (kept_trans hb HA)
  clear hb HA L2 X1 K1 c0 c1
  go_upto_region 3 with (fail)
  generalize w3.heap.size = G2 at *
  generalize w3.alloc _ = w4 at *
  obtain ⟨c0, c1⟩ := cells2 X2.out
  go_wp2_with fail
  with_reducible refine (L3.out _).mono ?_
  rintro e w5 ⟨rfl, hb⟩
  have HA := al_any w5 (.cells #[.int .i64 5, .int .u64 5] 24)
  have X3 := Lib.hid (blk X2.out (kept_trans hb HA))
  have Y3 := Lib.hid (blk Y2.out (kept_trans hb HA))
  have K3 := kept_hid K2 (kept_trans hb HA)
  clear hb HA L3 X2 Y2 K2 c0 c1
  go_upto_region 4 with (fail)
  generalize w5.alloc _ = w6 at *
  obtain ⟨c0, c1⟩ := cells2 X3.out
  obtain ⟨d0, d1⟩ := cells2 Y3.out
  go_wp2_with fail
  with_reducible refine (HC.out _ K3.out).mono ?_
  rintro e w7 ⟨rfl, hb⟩
  have X4 := Lib.hid (blk X3.out hb)
  have K4 := kept_hid K3 hb
  clear hb X3 Y3 K3 c0 c1 d0 d1 hq
  obtain ⟨c0, c1⟩ := cells2 X4.out
  go_wp2_with fail
  with_reducible refine (H1.out _).mono ?_
  rintro e w8 ⟨rfl, hb⟩
  have X5 := Lib.hid (blk X4.out hb)
  have K5 := kept_hid K4 hb
  clear hb X4 K4 c0 c1
  obtain ⟨c0, c1⟩ := cells2 X5.out
  go_wp2_with fail
  with_reducible refine (H2.out _).mono ?_
  rintro e w9 ⟨rfl, hb⟩
  have X6 := Lib.hid (blk X5.out hb)
  have K6 := kept_hid K5 hb
  clear hb X5 K5 c0 c1
  obtain ⟨c0, c1⟩ := cells2 X6.out
  go_wp2_with fail
  with_reducible refine (HR.out _).mono ?_
  rintro e wa ⟨rfl, hb⟩
  have K7 := kept_hid K6 hb
  clear hb X6 K6 c0 c1
  go_wp2_with fail
  go_ret
  exact ⟨rfl, K7.out⟩
end Win
end Go.Proofs.YteggdfkmncikpaaDoor
