/- awake of the laws of keys. Written by tools/gen_kyb_awake.py. -/
import Derived.Test.YtpgbnnnfeaodmaaGreatDoorSKybDo
import Derived.Test.YtpgbnnnfeaodmaaGreatDoorSKybRefd
import Derived.Test.YtpgbnnnfeaodmaaGreatDoorSBunErr
import Derived.Deep.Cut
import Derived.Deep.RegionHeld3
import Derived.Deep.LoopGhost
import Derived.IntWalk
namespace Go.Proofs.YtpgbnnnfeaodmaaGreatDoor
open Go.RowKit Sha Six Apd Cut Err Att Grd Fld Scr
set_option linter.unusedVariables false
set_option linter.unusedSimpArgs false
namespace Kyb
open Edt
def awc : List C := [⟨true, false, false, 0, false, 0⟩, noC]
def awu : List C := [⟨true, false, false, 0, true, 0⟩, ⟨false, false, false, 0, false, 193⟩]
theorem awc_sound : Sound awc := by intro o ho; simp [awc] at ho; rcases ho with rfl | rfl <;> decide
theorem aw1 : kdo ⟨1, 2, awc, 1, false, false⟩ 17 125 = (⟨1, 2, awc, 1, true, false⟩, true, 0, -1) := by decide +kernel
theorem aw2 : kdo ⟨1, 2, awc, 1, false, false⟩ 1 193 = (⟨1, 2, awu, 1, false, false⟩, false, 0, -1) := by decide +kernel
theorem aw3 : kdo ⟨1, 2, awc, 1, false, false⟩ 0 0 = (⟨1, 2, awc, 1, false, false⟩, false, 1, -1) := by decide +kernel
theorem awr1 : sright ⟨1, 2, awc, 1, false, false⟩ = true := by decide +kernel
set_option maxRecDepth 100000 in
set_option maxHeartbeats 8000000 in
theorem awake_any (w : World) (hg : Handle w) : Calls Tryz.prog 8 #[] w fun e w' => e = .returned (.bool true) ∧ Below w.heap.size w w' := by
  have HA1 := al_any w (.cells #[.bool true, .bool false, .bool false, .int .i64 0, .bool false, .int .u8 0, .bool false, .bool false, .bool false, .int .i64 0, .bool false, .int .u8 0] 42)
  have HC1 := lit_cels w awc 2 rfl (by decide)
  rw [show (crow awc).toArray = #[.bool true, .bool false, .bool false, .int .i64 0, .bool false, .int .u8 0, .bool false, .bool false, .bool false, .int .i64 0, .bool false, .int .u8 0] from rfl] at HC1
  have HY := al_any (w.alloc (.cells #[.bool true, .bool false, .bool false, .int .i64 0, .bool false, .int .u8 0, .bool false, .bool false, .bool false, .int .i64 0, .bool false, .int .u8 0] 42)) (.cells #[.int .i64 1, .int .i64 2, .slice (some ⟨w.heap.size, 0, none⟩) 2 2, .int .i64 1, .bool false, .bool false] 24)
  have B1 := heap_alloc_new (w.alloc (.cells #[.bool true, .bool false, .bool false, .int .i64 0, .bool false, .int .u8 0, .bool false, .bool false, .bool false, .int .i64 0, .bool false, .int .u8 0] 42)) (.cells #[.int .i64 1, .int .i64 2, .slice (some ⟨w.heap.size, 0, none⟩) 2 2, .int .i64 1, .bool false, .bool false] 24)
  rw [World.size_alloc] at B1
  have X3 := Lib.hid B1
  have K3 := Lib.hid (kept_trans HA1 HY)
  have I3 := Lib.hid (HC1.below HY)
  have HG3 := Lib.hid fun W (hb : Below w.heap.size w W) => hand_of hg hb
  clear hg HA1 HC1 HY B1
  go_enter Tryz.func8, Tryz.ntmps8
  go_upto_region 2 with (fail)
  generalize (w.alloc _).alloc _ = w3 at *
  have Q := do_any ⟨1, 2, awc, 1, false, false⟩ (some ⟨w.heap.size, 0, none⟩) 2 125 17 w3 I3.out awr1 awc_sound (by decide) (by decide)
  rw [aw1] at Q
  simp only [GaveK] at Q
  rw [show awc.length = 2 from rfl] at Q
  try rw [show awc.length = 2 from rfl] at Q
  simp only [show ((0 : Nat) : Int) = 0 from rfl, show ((2 : Nat) : Int) = 2 from rfl, show ((1 : Nat) : Int) = 1 from rfl, show ((125 : Nat) : Int) = 125 from rfl, show ((193 : Nat) : Int) = 193 from rfl] at Q
  replace Q := Lib.hid Q
  obtain ⟨c0, c1, c2, c3, c4, c5⟩ := cells6 X3.out
  go_wp2_with fail
  with_reducible refine Q.out.mono ?_
  rintro e w4 ⟨va1, vc1, ev1, rfl, hc, ht, hn, hb⟩
  have HA := al_any w4 (.cells #[.int .i64 1, .int .i64 2, .slice va1 2 vc1, .int .i64 1, .bool true, .bool false] 24)
  have B1 := Lib.hid (heap_alloc_new w4 (.cells #[.int .i64 1, .int .i64 2, .slice va1 2 vc1, .int .i64 1, .bool true, .bool false] 24))
  have T1 := Lib.hid (Err.Told.below ht HA)
  have E1 := (hn trivial).1
  have P1 := Lib.hid (OwnCels.below (hn trivial).2 HA)
  replace hb := kept_trans hb HA
  replace X3 := Lib.hid (blk X3.out hb)
  replace I3 := Lib.hid (I3.out.below hb)
  subst E1
  replace K3 := kept_hid K3 hb
  clear HA hc ht hn hb Q c0 c1 c2 c3 c4 c5
  go_upto_region 3 with (fail)
  generalize w4.heap.size = N1 at *
  generalize w4.alloc _ = w4b at *
  have Q := do_any ⟨1, 2, awc, 1, false, false⟩ (some ⟨w.heap.size, 0, none⟩) 2 193 1 w4b I3.out awr1 awc_sound (by decide) (by decide)
  rw [aw2] at Q
  simp only [GaveK] at Q
  rw [show awc.length = 2 from rfl] at Q
  try rw [show awu.length = 2 from rfl] at Q
  simp only [show ((0 : Nat) : Int) = 0 from rfl, show ((2 : Nat) : Int) = 2 from rfl, show ((1 : Nat) : Int) = 1 from rfl, show ((125 : Nat) : Int) = 125 from rfl, show ((193 : Nat) : Int) = 193 from rfl] at Q
  replace Q := Lib.hid Q
  obtain ⟨c0, c1, c2, c3, c4, c5⟩ := cells6 X3.out
  go_wp2_with fail
  with_reducible refine Q.out.mono ?_
  rintro e w5 ⟨va2, vc2, ev2, rfl, hc, ht, hn, hb⟩
  have HA := al_any w5 (.cells #[.int .i64 1, .int .i64 2, .slice va2 2 vc2, .int .i64 1, .bool false, .bool false] 24)
  have B2 := Lib.hid (heap_alloc_new w5 (.cells #[.int .i64 1, .int .i64 2, .slice va2 2 vc2, .int .i64 1, .bool false, .bool false] 24))
  have T2 := Lib.hid (Err.Told.below ht HA)
  have E2 := (hn trivial).1
  have P2 := Lib.hid (OwnCels.below (hn trivial).2 HA)
  replace hb := kept_trans hb HA
  replace X3 := Lib.hid (blk X3.out hb)
  replace B1 := Lib.hid (blk B1.out hb)
  replace I3 := Lib.hid (I3.out.below hb)
  subst E2
  replace K3 := kept_hid K3 hb
  clear HA hc ht hn hb Q c0 c1 c2 c3 c4 c5
  go_upto_region 4 with (fail)
  generalize w5.heap.size = N2 at *
  generalize w5.alloc _ = w5b at *
  have Q := do_any ⟨1, 2, awc, 1, false, false⟩ (some ⟨w.heap.size, 0, none⟩) 2 0 0 w5b I3.out awr1 awc_sound (by decide) (by decide)
  rw [aw3] at Q
  simp only [GaveK] at Q
  rw [show awc.length = 2 from rfl] at Q
  try rw [show awc.length = 2 from rfl] at Q
  simp only [show ((0 : Nat) : Int) = 0 from rfl, show ((2 : Nat) : Int) = 2 from rfl, show ((1 : Nat) : Int) = 1 from rfl, show ((125 : Nat) : Int) = 125 from rfl, show ((193 : Nat) : Int) = 193 from rfl] at Q
  replace Q := Lib.hid Q
  obtain ⟨c0, c1, c2, c3, c4, c5⟩ := cells6 X3.out
  go_wp2_with fail
  with_reducible refine Q.out.mono ?_
  rintro e w6 ⟨va3, vc3, ev3, rfl, hc, ht, hn, hb⟩
  have HA := al_any w6 (.cells #[.int .i64 1, .int .i64 2, .slice va3 2 vc3, .int .i64 1, .bool false, .bool false] 24)
  have B3 := Lib.hid (heap_alloc_new w6 (.cells #[.int .i64 1, .int .i64 2, .slice va3 2 vc3, .int .i64 1, .bool false, .bool false] 24))
  have T3 := Lib.hid (Err.Told.below ht HA)
  replace hb := kept_trans hb HA
  replace X3 := Lib.hid (blk X3.out hb)
  replace B1 := Lib.hid (blk B1.out hb)
  replace B2 := Lib.hid (blk B2.out hb)
  replace P2 := Lib.hid (OwnCels.below P2.out hb)
  replace K3 := kept_hid K3 hb
  clear HA hc ht hn hb Q c0 c1 c2 c3 c4 c5
  go_upto_region 5 with (fail)
  generalize w6.heap.size = N3 at *
  generalize w6.alloc _ = w6b at *
  obtain ⟨h, z, ez, _, _, _⟩ := OwnCels.at P2.out (by decide)
  injection ez with e1 e2 e3
  subst e1
  subst e3
  clear e2
  obtain ⟨⟨_, _, _, _, _, u5⟩, _⟩ := OwnCels.spot P2.out (i := 1) (by decide) (f := false) (p := false) (n' := false) (s := 0) (m' := false) (ch := 193) rfl
  have u5' : w6b.cell? ⟨h, 11, none⟩ = some (.int .u8 193) := u5
  clear u5
  obtain ⟨c0, c1, c2, c3, c4, c5⟩ := cells6 B1.out
  obtain ⟨e0, e1, e2, e3, e4, e5⟩ := cells6 B2.out
  have HC1 := Lib.hid (code_told _ _ _ w6b (HG3.out _ K3.out) T3.out)
  go_wp2_with fail
  with_reducible refine HC1.out.mono ?_
  rintro e w8 ⟨rfl, hb⟩
  have K8 := kept_hid K3 hb
  have HR1 := Lib.hid (refused_any _ _ _ w8 (Err.Told.below T3.out hb))
  rw [show refd 1 = false from rfl] at HR1
  clear hb HC1 u5' c0 c1 c2 c3 c4 c5 e0 e1 e2 e3 e4 e5
  go_wp2_with fail
  with_reducible refine HR1.out.mono ?_
  rintro e w9 ⟨rfl, rfl⟩
  go_wp2_with fail
  go_ret
  exact ⟨rfl, K8.out⟩
end Kyb
end Go.Proofs.YtpgbnnnfeaodmaaGreatDoor
