/- awake of the laws of read. Written by tools/gen_red_awake.py. -/
import Derived.Test.YtpdlpmbjhopnnaaGreatDoorBunRdc
import Derived.Test.YtpdlpmbjhopnnaaGreatDoorBunErr
import Derived.Test.YtpdlpmbjhopnnaaGreatDoorBunGrd
import Derived.Test.YtpdlpmbjhopnnaaGreatDoorBunScr
import Derived.Deep.Cut
import Derived.Deep.RegionHeld3
import Derived.Deep.LoopGhost
import Derived.IntWalk
namespace Go.Proofs.YtpdlpmbjhopnnaaGreatDoor
open Go.RowKit Sha Six Apd Cut Err Att Grd Fld
set_option linter.unusedVariables false
set_option linter.unusedSimpArgs false
namespace Red
theorem code_errn (n : Nat) (w : World) (hg : Handle w) :
    Calls Tryz.prog 12 #[Scr.errn n] w fun e w' => e = .returned (.int .i64 (n : Int)) ∧ Below w.heap.size w w' := by
  unfold Scr.errn
  split
  · rename_i h
    subst h
    exact code_nil w
  · exact code_errno (n : Int) w hg
def awc : List C := [⟨true, false, false, 0, true, 0⟩, ⟨false, false, false, 0, false, 193⟩, noC]
theorem awc_sound : Sound awc := by intro o ho; simp [awc] at ho; rcases ho with rfl | rfl | rfl <;> decide
theorem aw1 : asks ⟨1, 3, awc, 2, false, false⟩ 125 = ⟨125, 2, [⟨1, [193]⟩]⟩ := by kernel_rfl
theorem aw2 : asks ⟨1, 3, awc, 2, false, false⟩ 96 = Inp.noneI := by kernel_rfl
theorem awe1 : asksE 125 = 0 := by decide +kernel
theorem awe2 : asksE 96 = 3 := by decide +kernel
theorem awr : sright ⟨1, 3, awc, 2, false, false⟩ = true := by decide +kernel
theorem awi : (image ⟨1, 3, awc, 2, false, false⟩).length = 5 := by decide +kernel
set_option maxRecDepth 100000 in
set_option maxHeartbeats 8000000 in
theorem awake_any (w : World) (hg : Handle w) : Calls Tryz.prog 6 #[] w fun e w' => e = .returned (.bool true) ∧ Below w.heap.size w w' := by
  have HA1 := al_any w (.cells #[.bool true, .bool false, .bool false, .int .i64 0, .bool true, .int .u8 0, .bool false, .bool false, .bool false, .int .i64 0, .bool false, .int .u8 193, .bool false, .bool false, .bool false, .int .i64 0, .bool false, .int .u8 0] 64)
  have HC1 := Scr.lit_cels w awc 3 rfl (by decide)
  rw [show (crow awc).toArray = #[.bool true, .bool false, .bool false, .int .i64 0, .bool true, .int .u8 0, .bool false, .bool false, .bool false, .int .i64 0, .bool false, .int .u8 193, .bool false, .bool false, .bool false, .int .i64 0, .bool false, .int .u8 0] from rfl] at HC1
  have HY := al_any (w.alloc (.cells #[.bool true, .bool false, .bool false, .int .i64 0, .bool true, .int .u8 0, .bool false, .bool false, .bool false, .int .i64 0, .bool false, .int .u8 193, .bool false, .bool false, .bool false, .int .i64 0, .bool false, .int .u8 0] 64)) (.cells #[.int .i64 1, .int .i64 3, .slice (some ⟨w.heap.size, 0, none⟩) 3 3, .int .i64 2, .bool false, .bool false] 24)
  have B1 := heap_alloc_new (w.alloc (.cells #[.bool true, .bool false, .bool false, .int .i64 0, .bool true, .int .u8 0, .bool false, .bool false, .bool false, .int .i64 0, .bool false, .int .u8 193, .bool false, .bool false, .bool false, .int .i64 0, .bool false, .int .u8 0] 64)) (.cells #[.int .i64 1, .int .i64 3, .slice (some ⟨w.heap.size, 0, none⟩) 3 3, .int .i64 2, .bool false, .bool false] 24)
  rw [World.size_alloc] at B1
  have X3 := Lib.hid B1
  have K3 := Lib.hid (kept_trans HA1 HY)
  have I3 := Lib.hid (HC1.below HY)
  have HG3 := Lib.hid fun W (hb : Below w.heap.size w W) => hand_of hg hb
  have HM1 := Lib.hid fun W (hb : CelsIn W (.slice (some ⟨w.heap.size, 0, none⟩) 3 3) awc) => modified_any ⟨1, 3, awc, 2, false, false⟩ (some ⟨w.heap.size, 0, none⟩) 3 125 W hb (by decide) (by decide) awc_sound awr (by decide)
  have HM2 := Lib.hid fun W (hb : CelsIn W (.slice (some ⟨w.heap.size, 0, none⟩) 3 3) awc) => modified_any ⟨1, 3, awc, 2, false, false⟩ (some ⟨w.heap.size, 0, none⟩) 3 96 W hb (by decide) (by decide) awc_sound awr (by decide)
  have HIM := Lib.hid fun W (hb : CelsIn W (.slice (some ⟨w.heap.size, 0, none⟩) 3 3) awc) => image_any ⟨1, 3, awc, 2, false, false⟩ (some ⟨w.heap.size, 0, none⟩) 3 W hb (by decide) (by decide) awr
  rw [aw1, awe1] at HM1
  rw [aw2, awe2] at HM2
  simp only [GaveM, GaveO, awi, Inp.noneI, show Scr.errn 0 = .nilIface from rfl, show Scr.errn 3 = .iface 71 (.int .i64 3) from rfl] at HM1 HM2 HIM
  simp only [show awc.length = 3 from rfl, List.length_cons, List.length_nil, Nat.zero_add, show ((0 : Nat) : Int) = 0 from rfl, show ((3 : Nat) : Int) = 3 from rfl, show ((125 : Nat) : Int) = 125 from rfl, show ((96 : Nat) : Int) = 96 from rfl] at HM1 HM2 HIM
  clear hg HA1 HC1 HY B1
  go_enter Tryz.func6, Tryz.ntmps6
  go_upto_region 2 with (fail)
  generalize (w.alloc _).alloc _ = w3 at *
  obtain ⟨c0, c1, c2, c3, c4, c5⟩ := cells6 X3.out
  go_wp2_with fail
  with_reducible refine (HM1.out _ I3.out).mono ?_
  rintro e w4 ⟨va, vc, rfl, ho, hb⟩
  have HA := al_any w4 (.cells #[.int .u8 125, .int .i64 2, .slice va 1 vc] 46)
  have Y4 := Lib.hid (heap_alloc_new w4 (.cells #[.int .u8 125, .int .i64 2, .slice va 1 vc] 46))
  have O4 := Lib.hid (ho.to.below HA)
  replace hb := kept_trans hb HA
  have X4 := Lib.hid (blk X3.out hb)
  have I4 := Lib.hid (I3.out.below hb)
  have K4 := kept_hid K3 hb
  clear hb HA ho X3 I3 K3 c0 c1 c2 c3 c4 c5
  go_upto_region 3 with (fail)
  generalize w4.heap.size = N4 at *
  generalize w4.alloc _ = w4b at *
  obtain ⟨c0, c1, c2, c3, c4, c5⟩ := cells6 X4.out
  go_wp2_with fail
  with_reducible refine (HIM.out _ I4.out).mono ?_
  rintro e w5 ⟨vi, ki, rfl, hi, hb⟩
  have X5 := Lib.hid (blk X4.out hb)
  have Y5 := Lib.hid (blk Y4.out hb)
  have O5 := Lib.hid (O4.out.below hb)
  have I5 := Lib.hid (I4.out.below hb)
  have K5 := kept_hid K4 hb
  clear hb hi X4 Y4 O4 I4 K4 c0 c1 c2 c3 c4 c5
  obtain ⟨c0, c1, c2, c3, c4, c5⟩ := cells6 X5.out
  go_wp2_with fail
  with_reducible refine (HM2.out _ I5.out).mono ?_
  rintro e w6 ⟨vz, kz, rfl, ho, hb⟩
  have HA := al_any w6 (.cells #[.int .u8 0, .int .i64 0, .slice vz 0 kz] 46)
  replace hb := kept_trans hb HA
  have Y6 := Lib.hid (blk Y5.out hb)
  have O6 := Lib.hid (O5.out.below hb)
  have K6 := kept_hid K5 hb
  clear hb HA ho X5 Y5 O5 I5 K5 c0 c1 c2 c3 c4 c5
  go_upto_region 5 with (fail)
  generalize w6.alloc _ = w7 at *
  obtain ⟨y0, y1, y2⟩ := cells3 Y6.out
  obtain ⟨b, off, ta, tn, tc, rfl, z0, z1, HB2, _⟩ := O6.out.cells (i := 0) (by decide) (a := 1) (t := [193]) rfl
  obtain rfl : tn = 1 := by obtain ⟨_, _, e, _⟩ := HB2; injection e
  rw [show off + 0 * 2 = off from by omega] at z0 z1
  have HC1 := Lib.hid (code_errno 3 w7 (HG3.out _ K6.out))
  clear HB2
  go_wp2_with fail
  with_reducible refine HC1.out.mono ?_
  rintro e w8 ⟨rfl, hb⟩
  have K8 := kept_hid K6 hb
  clear hb HC1 y0 y1 y2 z0 z1
  go_wp2_with fail
  go_ret
  exact ⟨rfl, K8.out⟩
end Red
end Go.Proofs.YtpdlpmbjhopnnaaGreatDoor
