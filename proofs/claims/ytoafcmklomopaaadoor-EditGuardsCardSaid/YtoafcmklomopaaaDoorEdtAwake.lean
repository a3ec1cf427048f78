/- awake of the laws of edit. Written by tools/gen_edt_awake.py. -/
import Derived.Test.YtoafcmklomopaaaDoorEdtCode
import Derived.Test.YtoafcmklomopaaaDoorBunErr
import Derived.Deep.Cut
import Derived.Deep.RegionHeld3
import Derived.Deep.LoopGhost
import Derived.IntWalk
namespace Go.Proofs.YtoafcmklomopaaaDoor
open Go.RowKit Sha Six Apd Cut Err Att Grd Fld Scr
set_option linter.unusedVariables false
set_option linter.unusedSimpArgs false
namespace Edt
theorem lit_cels (w : World) (cs : List C) (n : Nat) (hn : n = cs.length) (hl : cs.length < 1000000) : CelsIn (w.alloc (.cells (crow cs).toArray 50)) (.slice (some ⟨w.heap.size, 0, none⟩) n n) cs := by
  subst hn
  refine OwnCels.to (base := w.heap.size) ?_
  have := World.ownsRow_lit (base := w.heap.size) (e := 50) (size := 6) w (crow cs).toArray cs.length (Nat.le_refl _) (by unfold maxLen; omega) (by simp [crow_len])
  unfold OwnCels
  simpa using this
def awc : List C := [⟨true, false, false, 0, false, 0⟩, noC, noC]
def awt : List C := [⟨true, false, false, 0, true, 0⟩, ⟨false, false, false, 0, false, 193⟩, noC]
theorem awc_sound : Sound awc := by intro o ho; simp [awc] at ho; rcases ho with rfl | rfl | rfl <;> decide
theorem awt_sound : Sound awt := by intro o ho; simp [awt] at ho; rcases ho with rfl | rfl | rfl <;> decide
theorem aw1 : typ ⟨1, 3, awc, 1, false, false⟩ 193 = (⟨1, 3, awt, 2, false, false⟩, 0, -1) := by decide +kernel
theorem aw2 : typ ⟨1, 3, awt, 2, false, false⟩ 0 = (⟨1, 3, awt, 2, false, false⟩, 3, -1) := by decide +kernel
theorem aw3 : typ ⟨1, 3, awc, 0, false, false⟩ 193 = (⟨1, 3, awc, 0, true, false⟩, 8, 0) := by decide +kernel
theorem aw4 : line awt 1 = [1, 2] := by decide +kernel
theorem awr1 : sright ⟨1, 3, awc, 1, false, false⟩ = true := by decide +kernel
theorem awr2 : sright ⟨1, 3, awt, 2, false, false⟩ = true := by decide +kernel
theorem awr3 : sright ⟨1, 3, awc, 0, false, false⟩ = true := by decide +kernel
set_option maxRecDepth 100000 in
set_option maxHeartbeats 8000000 in
theorem awake_any (w : World) (hg : Handle w) : Calls Tryd.prog 8 #[] w fun e w' => e = .returned (.bool true) ∧ Below w.heap.size w w' := by
  have HA1 := al_any w (.cells #[.bool true, .bool false, .bool false, .int .i64 0, .bool false, .int .u8 0, .bool false, .bool false, .bool false, .int .i64 0, .bool false, .int .u8 0, .bool false, .bool false, .bool false, .int .i64 0, .bool false, .int .u8 0] 50)
  have HC1 := lit_cels w awc 3 rfl (by decide)
  rw [show (crow awc).toArray = #[.bool true, .bool false, .bool false, .int .i64 0, .bool false, .int .u8 0, .bool false, .bool false, .bool false, .int .i64 0, .bool false, .int .u8 0, .bool false, .bool false, .bool false, .int .i64 0, .bool false, .int .u8 0] from rfl] at HC1
  have HY := al_any (w.alloc (.cells #[.bool true, .bool false, .bool false, .int .i64 0, .bool false, .int .u8 0, .bool false, .bool false, .bool false, .int .i64 0, .bool false, .int .u8 0, .bool false, .bool false, .bool false, .int .i64 0, .bool false, .int .u8 0] 50)) (.cells #[.int .i64 1, .int .i64 3, .slice (some ⟨w.heap.size, 0, none⟩) 3 3, .int .i64 1, .bool false, .bool false] 24)
  have B1 := heap_alloc_new (w.alloc (.cells #[.bool true, .bool false, .bool false, .int .i64 0, .bool false, .int .u8 0, .bool false, .bool false, .bool false, .int .i64 0, .bool false, .int .u8 0, .bool false, .bool false, .bool false, .int .i64 0, .bool false, .int .u8 0] 50)) (.cells #[.int .i64 1, .int .i64 3, .slice (some ⟨w.heap.size, 0, none⟩) 3 3, .int .i64 1, .bool false, .bool false] 24)
  rw [World.size_alloc] at B1
  have X3 := Lib.hid B1
  have K3 := Lib.hid (kept_trans HA1 HY)
  have I3 := Lib.hid (HC1.below HY)
  have HG3 := Lib.hid fun W (hb : Below w.heap.size w W) => hand_of hg hb
  clear hg HA1 HC1 HY B1
  go_enter Tryd.func8, Tryd.ntmps8
  go_upto_region 2 with (fail)
  generalize (w.alloc _).alloc _ = w3 at *
  have Q1 := type_any ⟨1, 3, awc, 1, false, false⟩ (some ⟨w.heap.size, 0, none⟩) 3 193 w3 I3.out awr1 awc_sound (by decide) (by decide)
  rw [aw1] at Q1
  simp only [GaveE] at Q1
  rw [show awt.length = 3 from rfl, show awc.length = 3 from rfl] at Q1
  simp only [show ((193 : Nat) : Int) = 193 from rfl, show ((0 : Nat) : Int) = 0 from rfl, show ((3 : Nat) : Int) = 3 from rfl, show ((8 : Nat) : Int) = 8 from rfl] at Q1
  replace Q1 := Lib.hid Q1
  obtain ⟨c0, c1, c2, c3, c4, c5⟩ := cells6 X3.out
  go_wp2_with fail
  with_reducible refine Q1.out.mono ?_
  rintro e w4 ⟨va1, vc1, ev1, rfl, hc, ht, hn, hb⟩
  have HNE1 := Lib.hid (show w.heap.size + 1 < w4.heap.size from Nat.lt_of_lt_of_le (there_lt X3.out) hb.size)
  have HA := al_any w4 (.cells #[.int .i64 1, .int .i64 3, .slice va1 3 vc1, .int .i64 2, .bool false, .bool false] 24)
  have B1 := Lib.hid (heap_alloc_new w4 (.cells #[.int .i64 1, .int .i64 3, .slice va1 3 vc1, .int .i64 2, .bool false, .bool false] 24))
  have C1 := Lib.hid (hc.below HA)
  have T1 := Lib.hid (Err.Told.below ht HA)
  have E1 := Lib.hid (fun h => (hn h).1)
  have P1 := Lib.hid (fun h => OwnCels.below (hn h).2 HA)
  replace hb := kept_trans hb HA
  replace X3 := Lib.hid (blk X3.out hb)
  replace I3 := Lib.hid (I3.out.below hb)
  replace K3 := kept_hid K3 hb
  clear HA hc ht hn hb Q1 c0 c1 c2 c3 c4 c5
  go_upto_region 3 with (fail)
  generalize w4.heap.size = N1 at *
  generalize w4.alloc _ = w4b at *
  have HX1 := Lib.hid (there_lt X3.out)
  have Q2 := type_any ⟨1, 3, awt, 2, false, false⟩ va1 vc1 0 w4b C1.out awr2 awt_sound (by decide) (by decide)
  rw [aw2] at Q2
  simp only [GaveE] at Q2
  rw [show awt.length = 3 from rfl] at Q2
  simp only [show ((193 : Nat) : Int) = 193 from rfl, show ((0 : Nat) : Int) = 0 from rfl, show ((3 : Nat) : Int) = 3 from rfl, show ((8 : Nat) : Int) = 8 from rfl] at Q2
  replace Q2 := Lib.hid Q2
  obtain ⟨c0, c1, c2, c3, c4, c5⟩ := cells6 B1.out
  go_wp2_with fail
  with_reducible refine Q2.out.mono ?_
  rintro e w5 ⟨va2, vc2, ev2, rfl, hc, ht, hn, hb⟩
  have HNE2 := Lib.hid (show w.heap.size + 1 < w5.heap.size from Nat.lt_of_lt_of_le (there_lt X3.out) hb.size)
  have HA := al_any w5 (.cells #[.int .i64 1, .int .i64 3, .slice va2 3 vc2, .int .i64 2, .bool false, .bool false] 24)
  have B2 := Lib.hid (heap_alloc_new w5 (.cells #[.int .i64 1, .int .i64 3, .slice va2 3 vc2, .int .i64 2, .bool false, .bool false] 24))
  have C2 := Lib.hid (hc.below HA)
  have T2 := Lib.hid (Err.Told.below ht HA)
  have E2 := Lib.hid (fun h => (hn h).1)
  have P2 := Lib.hid (fun h => OwnCels.below (hn h).2 HA)
  replace hb := kept_trans hb HA
  replace X3 := Lib.hid (blk X3.out hb)
  replace B1 := Lib.hid (blk B1.out hb)
  replace I3 := Lib.hid (I3.out.below hb)
  replace C1 := Lib.hid (C1.out.below hb)
  replace T1 := Lib.hid (Err.Told.below T1.out hb)
  replace P1 := Lib.hid (fun h => OwnCels.below (P1.out h) hb)
  replace K3 := kept_hid K3 hb
  clear HA hc ht hn hb Q2 c0 c1 c2 c3 c4 c5
  go_upto_region 4 with (fail)
  generalize w5.heap.size = N2 at *
  generalize w5.alloc _ = w5b at *
  obtain ⟨c0, c1, c2, c3, c4, c5⟩ := cells6 X3.out
  obtain ⟨f0, f1, f2, f3, f4, f5⟩ := free6 X3.out
  have SO := gsetCell w5b (w.heap.size + 1) 3 (.int .i64 0)
  have X4 := Lib.hid (show (w5b.setCell ⟨w.heap.size + 1, 3, none⟩ (.int .i64 0)).heap[w.heap.size + 1]? = some (.cells #[.int .i64 1, .int .i64 3, .slice (some ⟨w.heap.size, 0, none⟩) 3 3, .int .i64 0, .bool false, .bool false] 24 (0, 0)) from heap_setCell_same w5b (w.heap.size + 1) 3 _ 24 _ X3.out)
  have I4 := Lib.hid (celsIn_away I3.out SO (fun y hy => by injection hy with hy; rw [← hy]; exact Nat.ne_of_lt (Nat.lt_succ_self _)))
  have C4 := Lib.hid (celsIn_away C1.out SO (fun y hy => (not_screen C1.out (by decide) X3.out y hy).1))
  have P4 := Lib.hid (OwnCels.away (P1.out trivial) SO (fun e => by
    obtain ⟨g, z, ez, _, _, _⟩ := OwnCels.at (P1.out trivial) (by decide)
    rw [ez] at e
    have h1 := (not_screen C1.out (by decide) X3.out ⟨g, 0, none⟩ (by injection ez)).1
    exact h1 (Option.some.inj e)))
  have B4 := Lib.hid (blk_g B1.out SO (by intro e; injection e with e; have h1 := HNE1.out; omega))
  have D4 := Lib.hid (blk_g B2.out SO (by intro e; injection e with e; have h1 := HNE2.out; omega))
  have T4 := Lib.hid (told_other T2.out SO (fun t x => by rw [c1]; simp))
  have e1 := E1.out trivial
  have K4 := Lib.hid (below_grown K3.out SO (by omega))
  clear SO X3 I3 C1 P1 B1 C2 B2 T1 T2 K3 E1 E2 P2
  subst e1
  go_upto_region 5 with (fail)
  clear c0 c1 c2 c3 c4 c5 f0 f1 f2 f3 f4 f5
  generalize w5b.setCell _ _ = w6 at *
  have Q3 := type_any ⟨1, 3, awc, 0, false, false⟩ (some ⟨w.heap.size, 0, none⟩) 3 193 w6 I4.out awr3 awc_sound (by decide) (by decide)
  rw [aw3] at Q3
  simp only [GaveE] at Q3
  rw [show awc.length = 3 from rfl] at Q3
  simp only [show ((193 : Nat) : Int) = 193 from rfl, show ((0 : Nat) : Int) = 0 from rfl, show ((3 : Nat) : Int) = 3 from rfl, show ((8 : Nat) : Int) = 8 from rfl] at Q3
  replace Q3 := Lib.hid Q3
  obtain ⟨c0, c1, c2, c3, c4, c5⟩ := cells6 X4.out
  go_wp2_with fail
  with_reducible refine Q3.out.mono ?_
  rintro e w7 ⟨va3, vc3, ev3, rfl, hc, ht, hn, hb⟩
  have HNE3 := Lib.hid (show w.heap.size + 1 < w7.heap.size from Nat.lt_of_lt_of_le (there_lt X4.out) hb.size)
  have HA := al_any w7 (.cells #[.int .i64 1, .int .i64 3, .slice va3 3 vc3, .int .i64 0, .bool true, .bool false] 24)
  have B3 := Lib.hid (heap_alloc_new w7 (.cells #[.int .i64 1, .int .i64 3, .slice va3 3 vc3, .int .i64 0, .bool true, .bool false] 24))
  have C3 := Lib.hid (hc.below HA)
  have T3 := Lib.hid (Err.Told.below ht HA)
  have E3 := Lib.hid (fun h => (hn h).1)
  have P3 := Lib.hid (fun h => OwnCels.below (hn h).2 HA)
  replace hb := kept_trans hb HA
  replace X4 := Lib.hid (blk X4.out hb)
  replace B4 := Lib.hid (blk B4.out hb)
  replace D4 := Lib.hid (blk D4.out hb)
  replace C4 := Lib.hid (C4.out.below hb)
  replace P4 := Lib.hid (OwnCels.below P4.out hb)
  replace T4 := Lib.hid (Err.Told.below T4.out hb)
  replace K4 := kept_hid K4 hb
  clear HA hc ht hn hb Q3 c0 c1 c2 c3 c4 c5
  go_upto_region 6 with (fail)
  generalize w7.heap.size = N3 at *
  generalize w7.alloc _ = w7b at *
  obtain ⟨g, z, ez, _, _, _⟩ := OwnCels.at P4.out (by decide)
  injection ez with e1 e2 e3
  subst e1
  subst e3
  clear e2
  obtain ⟨⟨_, _, _, _, a4, _⟩, _⟩ := OwnCels.spot P4.out (i := 0) (by decide) (f := true) (p := false) (n' := false) (s := 0) (m' := true) (ch := 0) rfl
  obtain ⟨⟨_, _, _, _, _, b5⟩, _⟩ := OwnCels.spot P4.out (i := 1) (by decide) (f := false) (p := false) (n' := false) (s := 0) (m' := false) (ch := 193) rfl
  simp only [Nat.zero_mul, Nat.zero_add] at a4
  have b5' : w7b.cell? ⟨g, 11, none⟩ = some (.int .u8 193) := b5
  obtain ⟨c0, c1, c2, c3, c4, c5⟩ := cells6 B4.out
  obtain ⟨d0, d1, d2, d3, d4, d5⟩ := cells6 D4.out
  obtain ⟨e0, e1, e2, e3, e4, e5⟩ := cells6 B3.out
  have HC1 := Lib.hid (code_told _ _ _ w7b (HG3.out _ K4.out) T4.out)
  go_upto_region 8 with (fail)
  go_wp2_with fail
  with_reducible refine HC1.out.mono ?_
  rintro e w8 ⟨rfl, hb⟩
  have K8 := kept_hid K4 hb
  have D8 := Lib.hid (blk B3.out hb)
  have B8 := Lib.hid (blk B4.out hb)
  have P8 := Lib.hid (OwnCels.below P4.out hb)
  have HC2 := Lib.hid (code_told _ _ _ w8 (HG3.out _ K8.out) (Err.Told.below T3.out hb))
  clear hb HC1 a4 b5 b5' c0 c1 c2 c3 c4 c5 d0 d1 d2 d3 d4 d5 e0 e1 e2 e3 e4 e5
  go_wp2_with fail
  with_reducible refine HC2.out.mono ?_
  rintro e w9 ⟨rfl, hb⟩
  have K9 := kept_hid K8 hb
  have D9 := Lib.hid (blk D8.out hb)
  have B9 := Lib.hid (blk B8.out hb)
  have P9 := Lib.hid (OwnCels.below P8.out hb)
  obtain ⟨e0, e1, e2, e3, e4, e5⟩ := cells6 D9.out
  have HDG := digit_any 240 w9 (by decide)
  rw [show digit 240 = true from by decide, show ((240 : Nat) : Int) = 240 from rfl] at HDG
  replace HDG := Lib.hid HDG
  clear hb HC2
  go_wp2_with fail
  with_reducible refine HDG.out.mono ?_
  rintro e wa ⟨rfl, hb⟩
  have Ka := kept_hid K9 hb
  have Ba := Lib.hid (blk B9.out hb)
  have HLI := line_any ⟨1, 3, awt, 2, false, false⟩ (some ⟨g, 0, none⟩) vc1 1 wa (OwnCels.below P9.out hb).to awt_sound (by decide) (by decide)
  rw [aw4, show ((1 : Nat) : Int) = 1 from rfl] at HLI
  simp only at HLI
  rw [show awt.length = 3 from rfl] at HLI
  replace HLI := Lib.hid HLI
  obtain ⟨c0, c1, c2, c3, c4, c5⟩ := cells6 Ba.out
  clear hb HDG
  go_wp2_with fail
  with_reducible refine HLI.out.mono ?_
  rintro e wb ⟨v, rfl, ho, hb⟩
  have Kb := kept_hid Ka hb
  obtain ⟨vl, kl, rfl⟩ := ho.form
  clear hb ho HLI
  simp only [List.length_cons, List.length_nil, Nat.zero_add, Nat.reduceAdd]
  go_wp2_with fail
  go_ret
  exact ⟨rfl, Kb.out⟩
end Edt
end Go.Proofs.YtoafcmklomopaaaDoor
