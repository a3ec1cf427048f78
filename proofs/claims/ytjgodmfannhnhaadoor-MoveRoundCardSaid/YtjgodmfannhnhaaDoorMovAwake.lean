/- awake of the laws of move. Written by tools/gen_mov_awake.py. -/
import Derived.Test.YtjgodmfannhnhaaDoorMovCode
import Derived.Test.YtjgodmfannhnhaaDoorBunErr
import Derived.Deep.Cut
import Derived.Deep.RegionHeld3
import Derived.IntWalk
namespace Go.Proofs.YtjgodmfannhnhaaDoor
open Go.RowKit Sha Six Apd Cut Err Att Grd Fld Scr
set_option linter.unusedVariables false
set_option linter.unusedSimpArgs false
namespace Mov
theorem code_errn (n : Nat) (w : World) (hg : Handle w) :
    Calls Tryd.prog 13 #[errn n] w fun e w' => e = .returned (.int .i64 (n : Int)) ∧ Below w.heap.size w w' := by
  unfold errn
  split
  · rename_i h
    subst h
    exact code_nil w
  · exact code_errno (n : Int) w hg
def awc : List C := [⟨true, true, false, 0, false, 0⟩, noC, ⟨true, false, false, 0, false, 0⟩, noC]
theorem awc_sound : Sound awc := by intro o ho; simp [awc] at ho; rcases ho with rfl | rfl | rfl | rfl <;> decide
theorem aw1 : mdo ⟨2, 2, awc, 0, false, false⟩ 6 = (⟨2, 2, awc, 3, false, false⟩, 0) := by decide +kernel
theorem aw2 : mdo ⟨2, 2, awc, 3, false, false⟩ 5 = (⟨2, 2, awc, 1, false, false⟩, 0) := by decide +kernel
theorem aw3 : mdo ⟨2, 2, awc, 0, false, false⟩ 1 = (⟨2, 2, awc, 0, false, false⟩, 1) := by decide +kernel
theorem awr1 : sright ⟨2, 2, awc, 0, false, false⟩ = true := by decide +kernel
theorem awr2 : sright ⟨2, 2, awc, 3, false, false⟩ = true := by decide +kernel
set_option maxRecDepth 100000 in
set_option maxHeartbeats 8000000 in
theorem awake_any (w : World) (hg : Handle w) : Calls Tryd.prog 8 #[] w fun e w' => e = .returned (.bool true) ∧ Below w.heap.size w w' := by
  have HA1 := al_any w (.cells #[.bool true, .bool true, .bool false, .int .i64 0, .bool false, .int .u8 0, .bool false, .bool false, .bool false, .int .i64 0, .bool false, .int .u8 0, .bool true, .bool false, .bool false, .int .i64 0, .bool false, .int .u8 0, .bool false, .bool false, .bool false, .int .i64 0, .bool false, .int .u8 0] 44)
  have HC1 := lit_cels w awc 4 rfl (by decide)
  rw [show (crow awc).toArray = #[.bool true, .bool true, .bool false, .int .i64 0, .bool false, .int .u8 0, .bool false, .bool false, .bool false, .int .i64 0, .bool false, .int .u8 0, .bool true, .bool false, .bool false, .int .i64 0, .bool false, .int .u8 0, .bool false, .bool false, .bool false, .int .i64 0, .bool false, .int .u8 0] from rfl] at HC1
  have HY := al_any (w.alloc (.cells #[.bool true, .bool true, .bool false, .int .i64 0, .bool false, .int .u8 0, .bool false, .bool false, .bool false, .int .i64 0, .bool false, .int .u8 0, .bool true, .bool false, .bool false, .int .i64 0, .bool false, .int .u8 0, .bool false, .bool false, .bool false, .int .i64 0, .bool false, .int .u8 0] 44)) (.cells #[.int .i64 2, .int .i64 2, .slice (some ⟨w.heap.size, 0, none⟩) 4 4, .int .i64 0, .bool false, .bool false] 24)
  have B1 := heap_alloc_new (w.alloc (.cells #[.bool true, .bool true, .bool false, .int .i64 0, .bool false, .int .u8 0, .bool false, .bool false, .bool false, .int .i64 0, .bool false, .int .u8 0, .bool true, .bool false, .bool false, .int .i64 0, .bool false, .int .u8 0, .bool false, .bool false, .bool false, .int .i64 0, .bool false, .int .u8 0] 44)) (.cells #[.int .i64 2, .int .i64 2, .slice (some ⟨w.heap.size, 0, none⟩) 4 4, .int .i64 0, .bool false, .bool false] 24)
  rw [World.size_alloc] at B1
  have X3 := Lib.hid B1
  have K3 := Lib.hid (kept_trans HA1 HY)
  have I3 := Lib.hid (HC1.below HY)
  have HG3 := Lib.hid fun W (hb : Below w.heap.size w W) => hand_of hg hb
  clear hg HA1 HC1 HY B1
  go_enter Tryd.func8, Tryd.ntmps8
  go_upto_region 2 with (fail)
  generalize (w.alloc _).alloc _ = w3 at *
  have Q1 := do_any ⟨2, 2, awc, 0, false, false⟩ (some ⟨w.heap.size, 0, none⟩) 4 6 w3 I3.out awr1 awc_sound (by decide)
  rw [aw1] at Q1
  simp only [GaveN] at Q1
  rw [show awc.length = 4 from rfl] at Q1
  replace Q1 := Lib.hid Q1
  obtain ⟨c0, c1, c2, c3, c4, c5⟩ := cells6 X3.out
  go_wp2_with fail
  with_reducible refine Q1.out.mono ?_
  rintro e w4 ⟨va1, vc1, rfl, hc, hn, hb⟩
  have HA := al_any w4 (.cells #[.int .i64 2, .int .i64 2, .slice va1 4 vc1, .int .i64 3, .bool false, .bool false] 24)
  have B1 := Lib.hid (heap_alloc_new w4 (.cells #[.int .i64 2, .int .i64 2, .slice va1 4 vc1, .int .i64 3, .bool false, .bool false] 24))
  have C1 := Lib.hid (hc.below HA)
  replace hb := kept_trans hb HA
  replace X3 := Lib.hid (blk X3.out hb)
  replace I3 := Lib.hid (I3.out.below hb)
  replace K3 := kept_hid K3 hb
  clear HA hc hn hb Q1 c0 c1 c2 c3 c4 c5
  go_upto_region 3 with (fail)
  generalize w4.heap.size = N1 at *
  generalize w4.alloc _ = w4b at *
  have Q2 := do_any ⟨2, 2, awc, 3, false, false⟩ va1 vc1 5 w4b C1.out awr2 awc_sound (by decide)
  rw [aw2] at Q2
  simp only [GaveN] at Q2
  rw [show awc.length = 4 from rfl] at Q2
  replace Q2 := Lib.hid Q2
  obtain ⟨c0, c1, c2, c3, c4, c5⟩ := cells6 B1.out
  go_wp2_with fail
  with_reducible refine Q2.out.mono ?_
  rintro e w5 ⟨va2, vc2, rfl, hc, hn, hb⟩
  have HA := al_any w5 (.cells #[.int .i64 2, .int .i64 2, .slice va2 4 vc2, .int .i64 1, .bool false, .bool false] 24)
  have B2 := Lib.hid (heap_alloc_new w5 (.cells #[.int .i64 2, .int .i64 2, .slice va2 4 vc2, .int .i64 1, .bool false, .bool false] 24))
  have C2 := Lib.hid (hc.below HA)
  replace hb := kept_trans hb HA
  replace X3 := Lib.hid (blk X3.out hb)
  replace B1 := Lib.hid (blk B1.out hb)
  replace I3 := Lib.hid (I3.out.below hb)
  replace K3 := kept_hid K3 hb
  clear HA hc hn hb Q2 c0 c1 c2 c3 c4 c5
  go_upto_region 4 with (fail)
  generalize w5.heap.size = N2 at *
  generalize w5.alloc _ = w5b at *
  have Q3 := do_any ⟨2, 2, awc, 0, false, false⟩ (some ⟨w.heap.size, 0, none⟩) 4 1 w5b I3.out awr1 awc_sound (by decide)
  rw [aw3] at Q3
  simp only [GaveN] at Q3
  rw [show awc.length = 4 from rfl] at Q3
  replace Q3 := Lib.hid Q3
  obtain ⟨c0, c1, c2, c3, c4, c5⟩ := cells6 X3.out
  go_wp2_with fail
  with_reducible refine Q3.out.mono ?_
  rintro e w6 ⟨va3, vc3, rfl, hc, hn, hb⟩
  have HA := al_any w6 (.cells #[.int .i64 2, .int .i64 2, .slice va3 4 vc3, .int .i64 0, .bool false, .bool false] 24)
  have B3 := Lib.hid (heap_alloc_new w6 (.cells #[.int .i64 2, .int .i64 2, .slice va3 4 vc3, .int .i64 0, .bool false, .bool false] 24))
  have C3 := Lib.hid (hc.below HA)
  replace hb := kept_trans hb HA
  replace X3 := Lib.hid (blk X3.out hb)
  replace B1 := Lib.hid (blk B1.out hb)
  replace B2 := Lib.hid (blk B2.out hb)
  replace K3 := kept_hid K3 hb
  clear HA hc hn hb Q3 c0 c1 c2 c3 c4 c5
  go_upto_region 5 with (fail)
  generalize w6.heap.size = N3 at *
  generalize w6.alloc _ = w6b at *
  have HC := Lib.hid (code_errn 1 w6b (HG3.out _ K3.out))
  obtain ⟨c0, c1, c2, c3, c4, c5⟩ := cells6 B1.out
  obtain ⟨d0, d1, d2, d3, d4, d5⟩ := cells6 B2.out
  simp only [show errn 0 = .nilIface from rfl]
  go_wp2_with fail
  with_reducible refine HC.out.mono ?_
  rintro e w7 ⟨rfl, hb⟩
  have K7 := kept_hid K3 hb
  clear hb HC c0 c1 c2 c3 c4 c5 d0 d1 d2 d3 d4 d5
  have HM1 := Lib.hid fun W => moves_any 9 W
  have HM2 := Lib.hid fun W => moves_any 10 W
  rw [show isMove 9 = true from by decide] at HM1
  rw [show isMove 10 = false from by decide] at HM2
  go_wp2_with fail
  with_reducible refine (HM1.out _).mono ?_
  rintro e w8 ⟨rfl, rfl⟩
  go_wp2_with fail
  with_reducible refine (HM2.out _).mono ?_
  rintro e w8 ⟨rfl, rfl⟩
  go_wp2_with fail
  go_ret
  exact ⟨rfl, K7.out⟩
end Mov
end Go.Proofs.YtjgodmfannhnhaaDoor
