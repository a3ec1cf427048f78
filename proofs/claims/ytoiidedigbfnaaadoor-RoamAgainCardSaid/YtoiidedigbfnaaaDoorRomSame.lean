/- 'same' of the laws of roam. Written by tools/gen_rom.py. -/
import Derived.Test.YtoiidedigbfnaaaDoorRomArg
import Derived.Test.YtoiidedigbfnaaaDoorWinEq
import Derived.Test.YtoiidedigbfnaaaDoorBunBase
import Derived.Deep.QuietTactic
import Derived.BigQuiet
import Derived.Deep.Cut
import Derived.Deep.LoopGhost
import Derived.Deep.RegionLaw
import Derived.Deep.RegionHeld3
import Derived.IntWalk
import Derived.Lib.SmallJoins
namespace Go.Proofs.YtoiidedigbfnaaaDoor
open Go.RowKit Sha Six Apd Cut Err Frm
set_option linter.unusedVariables false
set_option linter.unusedSimpArgs false
namespace Rom
set_option maxRecDepth 100000 in
theorem run_eqP (a : ByteArray) (q : Int) (w : World) : (Op.equalIn 10000 29 (.agg #[.string a, .int .i64 q]) (.agg #[.string a, .int .i64 q])).run Tryd.prog w = .ok true w := by
  rw [run_equalIn_agg w 9999 29 _ _ (by kernel_rfl) (by kernel_rfl)]
  have hq : (q == q) = true := by simp
  generalize hx : (q == q) = x at *
  subst hq
  go_simp
theorem run_sameP (a : ByteArray) (q : Int) (w : World) : (binOp BinOp.eql 29 (.agg #[.string a, .int .i64 q]) (.agg #[.string a, .int .i64 q])).run Tryd.prog w = .ok (.bool true) w := by
  rw [run_eql_struct, run_eqP]; simp [Result.andThen]
set_option maxRecDepth 100000 in
set_option maxHeartbeats 8000000 in
theorem same_any (g : G) (ka : Option Addr) (kc : Nat) (ja : Option Addr) (jc : Nat) (w : World) (h1 : Byts w ka kc g.k) (h2 : Byts w ja jc g.k) (hl : g.k.length < 1000000) :
    Calls Tryd.prog 9 #[.agg #[.slice ka g.k.length kc, .int .i64 g.d, .int .i64 g.s.top, .int .u64 (g.s.bits : Int), .string g.pa, .int .i64 g.pq], .agg #[.slice ja g.k.length jc, .int .i64 g.d, .int .i64 g.s.top, .int .u64 (g.s.bits : Int), .string g.pa, .int .i64 g.pq]] w fun e w' => e = .returned (.bool true) ∧ Below w.heap.size w w' := by
  obtain ⟨k, d, ⟨t, b⟩, pa, pq⟩ := g
  simp only at *
  have HS := Lib.hid fun W (hb : Below w.heap.size w W) => Sam.same_any _ _ _ W (h1.below hb).at_ (h2.below hb).at_ h1.small hl
  have hd : (d == d) = true := by simp
  have hq := fun W => Win.run_sameS ⟨t, b⟩ W
  have hp := fun W => run_sameP pa pq W
  simp only at hq
  clear h1 h2 hl
  have HB := Lib.hid (kept_trans (al_any w (.cells #[.slice ka k.length kc, .int .i64 d, .int .i64 t, .int .u64 (b : Int), .string pa, .int .i64 pq] 31)) (al_any _ (.cells #[.slice ja k.length jc, .int .i64 d, .int .i64 t, .int .u64 (b : Int), .string pa, .int .i64 pq] 31)))
  have HX := Lib.hid (heap_alloc2_old w (.cells #[.slice ka k.length kc, .int .i64 d, .int .i64 t, .int .u64 (b : Int), .string pa, .int .i64 pq] 31) (.cells #[.slice ja k.length jc, .int .i64 d, .int .i64 t, .int .u64 (b : Int), .string pa, .int .i64 pq] 31))
  have HY := Lib.hid (heap_alloc2_new w (.cells #[.slice ka k.length kc, .int .i64 d, .int .i64 t, .int .u64 (b : Int), .string pa, .int .i64 pq] 31) (.cells #[.slice ja k.length jc, .int .i64 d, .int .i64 t, .int .u64 (b : Int), .string pa, .int .i64 pq] 31))
  go_enter Tryd.func9, Tryd.ntmps9
  go_upto_region 1 with (fail)
  generalize (w.alloc _).alloc _ = w1 at *
  obtain ⟨c0, c1, c2, c3, c4, c5⟩ := cells6 HX.out
  obtain ⟨d0, d1, d2, d3, d4, d5⟩ := cells6 HY.out
  go_wp2_with fail
  with_reducible refine (HS.out _ HB.out).mono ?_
  rintro e w2 ⟨rfl, m, rfl⟩
  have hdr : Below w1.heap.size w1 (w1.drewN m) := Six.below_drewN _ _ _
  have K2 := kept_hid HB hdr
  obtain ⟨c0, c1, c2, c3, c4, c5⟩ := cells6 (blk HX.out hdr)
  obtain ⟨d0, d1, d2, d3, d4, d5⟩ := cells6 (blk HY.out hdr)
  clear hdr HX HY HB HS
  generalize w1.drewN m = w2 at *
  go_wp2_with fail
  go_ret
  exact ⟨rfl, K2.out⟩
end Rom
end Go.Proofs.YtoiidedigbfnaaaDoor
