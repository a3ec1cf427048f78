/- awake of the laws of paint. -/
import Derived.Test.YtdmieopdgihnkaaDoorBunPnc
import Derived.Test.YtdmieopdgihnkaaDoorBunErr
import Derived.Deep.Cut
import Derived.Deep.RegionHeld3
import Derived.Deep.LoopGhost
import Derived.IntWalk
namespace Go.Proofs.YtdmieopdgihnkaaDoor
open Go.RowKit Sha Six Apd Cut Err Att Grd Fld
set_option linter.unusedVariables false
namespace Pnt
def aws : S := ⟨1, 4, [noC, noC, noC, noC], 0, false, false⟩
theorem aws_sound : Sound aws.cs := by intro o ho; simp [aws] at ho; subst ho; decide
theorem aws_right : sright aws = true := by decide +kernel
set_option maxRecDepth 100000 in
set_option maxHeartbeats 8000000 in
theorem awake_any (w : World) (hg : Handle w) : Calls Tryd.prog 8 #[] w fun e w' => e = .returned (.bool true) ∧ Below w.heap.size w w' := by
  go_enter Tryd.func8, Tryd.ntmps8
  go_wp2_with (at_make; refine wpList_mark ?_)
  refine Lib.hid ?_
  obtain ⟨i0, hi, hz0, hz1, hz2⟩ := info_parts infoC
  refine wpList_make_full _ rfl _ _ 22 rfl w.heap.size 49 i0 _ 6 Tryd.underlying22 hi hz0 hz1 .i64 .i64 _ _ 4 rfl rfl rfl rfl ?_ ?_ ?_ ?_
  · rw [hz2]; decide
  · unfold maxLen; omega
  · exact Nat.le_refl _
  intro w2 hown hgr
  rw [made_cells] at hown
  have K2 := Lib.hid (show Below w.heap.size w w2 from belowg hgr)
  have O2 := Lib.hid (show OwnCels w2 w.heap.size (.slice (some ⟨w.heap.size, 0, none⟩) 4 4) aws.cs from hown)
  clear hown hgr hi hz0 hz1 hz2
  have HA := al_any w2 (.cells #[.int .i64 1, .int .i64 4, .slice (some ⟨w.heap.size, 0, none⟩) 4 4, .int .i64 0, .bool false, .bool false] 24)
  have X3 := Lib.hid (heap_alloc_new w2 (.cells #[.int .i64 1, .int .i64 4, .slice (some ⟨w.heap.size, 0, none⟩) 4 4, .int .i64 0, .bool false, .bool false] 24))
  have K3 := kept_hid K2 HA
  have I3 := Lib.hid (OwnCels.to (OwnCels.below O2.out HA))
  clear HA K2 O2
  have HG3 := Lib.hid (hand_of hg K3.out)
  clear hg
  go_upto_region 2 with (fail)
  generalize w2.heap.size = A at *
  generalize w2.alloc _ = w3 at *
  have Q1 := one_ok aws (some ⟨w.heap.size, 0, none⟩) 4 1 ⟨6, [], false, false, 0, false, 3, 92⟩ none 0 0 w3 I3.out aws_right aws_sound (by decide) (by decide) (bytes_none w3) nofun (by decide) (by decide) (by decide +kernel)
  rw [show pone aws 1 ⟨6, [], false, false, 0, false, 3, 92⟩ = (⟨1, 4, [noC, chr 92, chr 92, noC], 0, false, false⟩, 3) by decide +kernel] at Q1
  have Q2 := fun W (hb : Below w3.heap.size w3 W) => one_no aws (some ⟨w.heap.size, 0, none⟩) 4 0 ⟨0, [], false, false, 0, false, 0, 0⟩ none 0 0 W (I3.out.below hb) aws_right aws_sound (by decide) (by decide) (bytes_none W) nofun (by decide) (by decide) (by decide +kernel)
  simp only [show Go.Proofs.YtdmieopdgihnkaaDoor.Ord.wrong ⟨0, [], false, false, 0, false, 0, 0⟩ aws.cs.length = 5 by decide +kernel] at Q2
  simp only [aws, Gave, Refused, List.length_cons, List.length_nil, show ((3 : Nat) : Int) = 3 from rfl, show ((1 : Nat) : Int) = 1 from rfl, show ((0 : Nat) : Int) = 0 from rfl, show ((92 : Nat) : Int) = 92 from rfl, show ((5 : Nat) : Int) = 5 from rfl, Nat.zero_add, Nat.reduceAdd] at Q1 Q2
  replace Q1 := Lib.hid Q1
  replace Q2 := Lib.hid Q2
  obtain ⟨c0, c1, c2, c3, c4, c5⟩ := cells6 X3.out
  go_wp2_with fail
  with_reducible refine Q1.out.mono ?_
  rintro e w4 ⟨va, vc, rfl, ho, hb⟩
  have HA := al_any w4 (.cells #[.int .i64 1, .int .i64 4, .slice va 4 vc, .int .i64 0, .bool false, .bool false] 24)
  have T5 := Lib.hid (heap_alloc_new w4 (.cells #[.int .i64 1, .int .i64 4, .slice va 4 vc, .int .i64 0, .bool false, .bool false] 24))
  have X5 := Lib.hid (blk X3.out (kept_trans hb HA))
  have K5 := kept_hid K3 (kept_trans hb HA)
  have HQ5 := Lib.hid (kept_trans hb HA)
  have HG5 := Lib.hid (hand_of HG3.out (kept_trans hb HA))
  have O5 := Lib.hid (OwnCels.below ho HA)
  clear HA hb ho X3 K3 I3 HG3 Q1 c0 c1 c2 c3 c4 c5
  go_upto_region 3 with (fail)
  generalize w4.heap.size = B at *
  generalize w4.alloc _ = w5 at *
  obtain ⟨c0, c1, c2, c3, c4, c5⟩ := cells6 X5.out
  go_wp2_with fail
  with_reducible refine (Q2.out _ HQ5.out).mono ?_
  rintro e w6 ⟨wh, va2, vc2, ev, rfl, hci, ht, hb⟩
  have HA := al_any w6 (.cells #[.int .i64 1, .int .i64 4, .slice va2 4 vc2, .int .i64 0, .bool false, .bool false] 24)
  have T7 := Lib.hid (blk T5.out (kept_trans hb HA))
  have K7 := kept_hid K5 (kept_trans hb HA)
  have HG7 := Lib.hid (hand_of HG5.out (kept_trans hb HA))
  have O7 := Lib.hid (OwnCels.below O5.out (kept_trans hb HA))
  have E7 := Lib.hid (Err.Told.below ht HA)
  clear HA hb ht hci X5 K5 HG5 O5 T5 Q2 c0 c1 c2 c3 c4 c5
  go_upto_region 4 with (fail)
  generalize w6.alloc _ = w7 at *
  obtain ⟨g, z, ez, _, _, _⟩ := OwnCels.at O7.out (by decide)
  injection ez with e1 e2 e3
  subst e1
  subst e3
  clear e2
  obtain ⟨⟨_, _, _, _, _, p1⟩, _⟩ := OwnCels.spot O7.out (i := 1) (by decide) (f := false) (p := false) (n' := false) (s := 0) (m' := false) (ch := 92) rfl
  obtain ⟨⟨_, _, _, _, _, p2⟩, _⟩ := OwnCels.spot O7.out (i := 2) (by decide) (f := false) (p := false) (n' := false) (s := 0) (m' := false) (ch := 92) rfl
  obtain ⟨⟨_, _, _, _, _, p3⟩, _⟩ := OwnCels.spot O7.out (i := 3) (by decide) (f := false) (p := false) (n' := false) (s := 0) (m' := false) (ch := 0) rfl
  have q1 : w7.cell? ⟨g, 11, none⟩ = some (.int .u8 92) := p1
  have q2 : w7.cell? ⟨g, 17, none⟩ = some (.int .u8 92) := p2
  have q3 : w7.cell? ⟨g, 23, none⟩ = some (.int .u8 0) := p3
  obtain ⟨c0, c1, c2, c3, c4, c5⟩ := cells6 T7.out
  have HCD := Lib.hid (code_told ev 5 wh w7 HG7.out E7.out)
  clear O7 p1 p2 p3
  go_wp2_with fail
  with_reducible refine HCD.out.mono ?_
  rintro e w8 ⟨rfl, hb⟩
  have K8 := kept_hid K7 hb
  clear hb
  go_wp2_with fail
  go_ret
  exact ⟨rfl, K8.out⟩
end Pnt
end Go.Proofs.YtdmieopdgihnkaaDoor
