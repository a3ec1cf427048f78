/- awake of the laws of host. -/
import Derived.Test.YtkobodoejpioeaaGreatDoorHstCode
import Derived.Test.YtkobodoejpioeaaGreatDoorBunErr
import Derived.Deep.Cut
import Derived.Deep.RegionHeld3
import Derived.Deep.LoopGhost
import Derived.IntWalk
namespace Go.Proofs.YtkobodoejpioeaaGreatDoor
open Go.RowKit Sha Six Apd Cut Err Att Grd Fld Pnt
set_option linter.unusedVariables false
namespace Hst
theorem lit_cels (w : World) (cs : List C) (n : Nat) (hn : n = cs.length) (hl : cs.length < 1000000) : CelsIn (w.alloc (.cells (crow cs).toArray 47)) (.slice (some ⟨w.heap.size, 0, none⟩) n n) cs := by
  subst hn
  refine OwnCels.to (base := w.heap.size) ?_
  have := World.ownsRow_lit (base := w.heap.size) (e := 47) (size := 6) w (crow cs).toArray cs.length (Nat.le_refl _) (by unfold maxLen; omega) (by simp [crow_len])
  unfold OwnCels
  simpa using this
def aws : S := ⟨1, 2, [⟨true, false, false, 0, true, 0⟩, ⟨false, false, false, 0, false, 193⟩], 1, true, false⟩
theorem aws_sound : Sound aws.cs := by intro o ho; simp [aws] at ho; rcases ho with rfl | rfl <;> decide
theorem aws_right : sright aws = true := by decide +kernel
set_option maxRecDepth 100000 in
set_option maxHeartbeats 8000000 in
theorem awake_any (w : World) (hg : Handle w) : Calls Tryz.prog 4 #[] w fun e w' => e = .returned (.bool true) ∧ Below w.heap.size w w' := by
  have HA1 := al_any w (.cells #[.bool true, .bool false, .bool false, .int .i64 0, .bool true, .int .u8 0, .bool false, .bool false, .bool false, .int .i64 0, .bool false, .int .u8 193] 47)
  have HC1 := lit_cels w aws.cs 2 rfl (by decide)
  rw [show (crow aws.cs).toArray = #[.bool true, .bool false, .bool false, .int .i64 0, .bool true, .int .u8 0, .bool false, .bool false, .bool false, .int .i64 0, .bool false, .int .u8 193] from rfl] at HC1
  have HY := al_any (w.alloc (.cells #[.bool true, .bool false, .bool false, .int .i64 0, .bool true, .int .u8 0, .bool false, .bool false, .bool false, .int .i64 0, .bool false, .int .u8 193] 47)) (.cells #[.int .i64 1, .int .i64 2, .slice (some ⟨w.heap.size, 0, none⟩) 2 2, .int .i64 1, .bool true, .bool false] 24)
  have B1 := heap_alloc_new (w.alloc (.cells #[.bool true, .bool false, .bool false, .int .i64 0, .bool true, .int .u8 0, .bool false, .bool false, .bool false, .int .i64 0, .bool false, .int .u8 193] 47)) (.cells #[.int .i64 1, .int .i64 2, .slice (some ⟨w.heap.size, 0, none⟩) 2 2, .int .i64 1, .bool true, .bool false] 24)
  rw [World.size_alloc] at B1
  have X3 := Lib.hid B1
  have K3 := Lib.hid (kept_trans HA1 HY)
  have I3 := Lib.hid (HC1.below HY)
  have HG3 := Lib.hid (hand_of hg K3.out)
  clear hg HA1 HC1 HY B1
  go_enter Tryz.func4, Tryz.ntmps4
  go_upto_region 2 with (fail)
  generalize (w.alloc _).alloc _ = w3 at *
  have Q1 := do_ok aws (some ⟨w.heap.size, 0, none⟩) 2 ⟨245, false, false, false, []⟩ none 0 0 w3 I3.out aws_right aws_sound (by decide) (Str.ordsIn_nil _ _) nofun (by decide) (by decide +kernel)
  rw [show hdo aws ⟨245, false, false, false, []⟩ = ⟨1, 2, [noC, noC], 0, true, false⟩ by decide +kernel] at Q1
  have Q2 := fun W (hb : Below w3.heap.size w3 W) => do_ok aws (some ⟨w.heap.size, 0, none⟩) 2 ⟨111, false, false, false, []⟩ none 0 0 W (I3.out.below hb) aws_right aws_sound (by decide) (Str.ordsIn_nil _ _) nofun (by decide) (by decide +kernel)
  rw [show hdo aws ⟨111, false, false, false, []⟩ = ⟨1, 2, [⟨true, false, false, 0, false, 0⟩, noC], 1, false, false⟩ by decide +kernel] at Q2
  have Q3 := fun W (hb : Below w3.heap.size w3 W) => do_no aws (some ⟨w.heap.size, 0, none⟩) 2 ⟨0, false, false, false, []⟩ none 0 0 W (I3.out.below hb) aws_right aws_sound (by decide) (Str.ordsIn_nil _ _) nofun (by decide) (by decide +kernel)
  simp only [show Str.cwrite ⟨0, false, false, false, []⟩ aws.cs.length = ([], 5, -1) by decide +kernel] at Q3
  simp only [aws, GaveS, RefusedS, List.length_cons, List.length_nil, show ((5 : Nat) : Int) = 5 from rfl, Nat.zero_add, Nat.reduceAdd] at Q1 Q2 Q3
  replace Q1 := Lib.hid Q1
  replace Q2 := Lib.hid Q2
  replace Q3 := Lib.hid Q3
  obtain ⟨c0, c1, c2, c3, c4, c5⟩ := cells6 X3.out
  go_wp2_with fail
  with_reducible refine Q1.out.mono ?_
  rintro e w4 ⟨va, vc, rfl, ho, hb⟩
  have HA := al_any w4 (.cells #[.int .i64 1, .int .i64 2, .slice va 2 vc, .int .i64 0, .bool true, .bool false] 24)
  have T5 := Lib.hid (heap_alloc_new w4 (.cells #[.int .i64 1, .int .i64 2, .slice va 2 vc, .int .i64 0, .bool true, .bool false] 24))
  have X5 := Lib.hid (blk X3.out (kept_trans hb HA))
  have K5 := kept_hid K3 (kept_trans hb HA)
  have HQ5 := Lib.hid (kept_trans hb HA)
  have HG5 := Lib.hid (hand_of HG3.out (kept_trans hb HA))
  have O5 := Lib.hid (OwnCels.below ho HA)
  clear HA hb ho X3 K3 I3 HG3 Q1 c0 c1 c2 c3 c4 c5
  go_upto_region 3 with (fail)
  generalize w4.heap.size = B at *
  generalize w4.alloc _ = w5 at *
  obtain ⟨c0, c1, c2, c3, c4, c5⟩ := cells6 X5.out
  go_wp2_with fail
  with_reducible refine (Q2.out _ HQ5.out).mono ?_
  rintro e w6 ⟨va2, vc2, rfl, ho, hb⟩
  have HA := al_any w6 (.cells #[.int .i64 1, .int .i64 2, .slice va2 2 vc2, .int .i64 1, .bool false, .bool false] 24)
  have U7 := Lib.hid (heap_alloc_new w6 (.cells #[.int .i64 1, .int .i64 2, .slice va2 2 vc2, .int .i64 1, .bool false, .bool false] 24))
  have T7 := Lib.hid (blk T5.out (kept_trans hb HA))
  have X7 := Lib.hid (blk X5.out (kept_trans hb HA))
  have K7 := kept_hid K5 (kept_trans hb HA)
  have HQ7 := kept_hid HQ5 (kept_trans hb HA)
  have HG7 := Lib.hid (hand_of HG5.out (kept_trans hb HA))
  have O7 := Lib.hid (OwnCels.below O5.out (kept_trans hb HA))
  have P7 := Lib.hid (OwnCels.below ho HA)
  clear HA hb ho X5 K5 HG5 O5 T5 HQ5 Q2 c0 c1 c2 c3 c4 c5
  go_upto_region 4 with (fail)
  generalize w6.heap.size = B2 at *
  generalize w6.alloc _ = w7 at *
  obtain ⟨c0, c1, c2, c3, c4, c5⟩ := cells6 X7.out
  go_wp2_with fail
  with_reducible refine (Q3.out _ HQ7.out).mono ?_
  rintro e w8 ⟨va3, vc3, ev, rfl, hci, ht, hb⟩
  have HA := al_any w8 (.cells #[.int .i64 1, .int .i64 2, .slice va3 2 vc3, .int .i64 1, .bool true, .bool false] 24)
  have T9 := Lib.hid (blk T7.out (kept_trans hb HA))
  have U9 := Lib.hid (blk U7.out (kept_trans hb HA))
  have K9 := kept_hid K7 (kept_trans hb HA)
  have HG9 := Lib.hid (hand_of HG7.out (kept_trans hb HA))
  have O9 := Lib.hid (OwnCels.below O7.out (kept_trans hb HA))
  have P9 := Lib.hid (OwnCels.below P7.out (kept_trans hb HA))
  have E9 := Lib.hid (Err.Told.below ht HA)
  clear HA hb ht hci X7 K7 HG7 O7 P7 T7 U7 HQ7 Q3 c0 c1 c2 c3 c4 c5
  go_upto_region 5 with (fail)
  generalize w8.alloc _ = w9 at *
  obtain ⟨g, z, ez, _, _, _⟩ := OwnCels.at O9.out (by decide)
  injection ez with e1 e2 e3
  subst e1
  subst e3
  clear e2
  obtain ⟨g2, z2, ez, _, _, _⟩ := OwnCels.at P9.out (by decide)
  injection ez with e1 e2 e3
  subst e1
  subst e3
  clear e2
  obtain ⟨⟨a0, a1, a2, a3, a4, a5⟩, _⟩ := OwnCels.spot O9.out (i := 0) (by decide) (f := false) (p := false) (n' := false) (s := 0) (m' := false) (ch := 0) rfl
  obtain ⟨⟨b0, b1, b2, b3, b4, b5⟩, _⟩ := OwnCels.spot P9.out (i := 0) (by decide) (f := true) (p := false) (n' := false) (s := 0) (m' := false) (ch := 0) rfl
  obtain ⟨⟨_, _, _, _, _, p5⟩, _⟩ := OwnCels.spot P9.out (i := 1) (by decide) (f := false) (p := false) (n' := false) (s := 0) (m' := false) (ch := 0) rfl
  simp only [Nat.zero_mul, Nat.zero_add, show ((0 : Nat) : Int) = 0 from rfl] at a0 a1 a2 a3 a4 a5 b0 b1 b2 b3 b4 b5
  have q5 : w9.cell? ⟨g2, 11, none⟩ = some (.int .u8 0) := p5
  have HE1 := run_eqC noC noC
  have HE2 := run_eqC ⟨true, false, false, 0, false, 0⟩ ⟨true, false, false, 0, false, 0⟩
  rw [decide_eq_true rfl] at HE1 HE2
  simp only [noC, show ((0 : Nat) : Int) = 0 from rfl] at HE1 HE2
  obtain ⟨c0, c1, c2, c3, c4, c5⟩ := cells6 T9.out
  obtain ⟨d0, d1, d2, d3, d4, d5⟩ := cells6 U9.out
  have HCD := Lib.hid (code_told ev 5 (-1) w9 HG9.out E9.out)
  clear O9 P9 p5
  go_upto_region 7 with (fail)
  go_wp2_with fail
  with_reducible refine HCD.out.mono ?_
  rintro e wa ⟨rfl, hb⟩
  have Ka := kept_hid K9 hb
  clear hb
  go_wp2_with fail
  go_ret
  exact ⟨rfl, Ka.out⟩
end Hst
end Go.Proofs.YtkobodoejpioeaaGreatDoor
