/- withCell, by the code. Written by tools/gen_red_landed.py. -/
import Derived.Test.YtpdlpmbjhopnnaaDoorRedLast
import Derived.Test.YtpdlpmbjhopnnaaDoorRedLay
import Derived.Test.YtpdlpmbjhopnnaaDoorBunScr
import Derived.Test.YtpdlpmbjhopnnaaDoorInpStep
import Derived.Deep.Cut
import Derived.Deep.LoopGhost
import Derived.Deep.RegionLaw
import Derived.Deep.RegionHeld3
import Derived.IntWalk
namespace Go.Proofs.YtpdlpmbjhopnnaaDoor
open Go.RowKit Sha Six Apd Cut Err Att Grd Fld
set_option linter.unusedVariables false
namespace Red
/-- A row of orders whose last one may grow. -/
def GaveL (base : Nat) (w w' : World) (os : List Go.Proofs.YtpdlpmbjhopnnaaDoor.Ord.O) (q : Go.Proofs.YtpdlpmbjhopnnaaDoor.Ord.O) (e : Ending) : Prop := ∃ g vc M ta tn tc, e = .returned (.slice (some ⟨g, 0, none⟩) (os.length + 1) vc) ∧ Last w' base M (.slice (some ⟨g, 0, none⟩) (os.length + 1) vc) os q ta tn tc ∧ Below base w w'
set_option maxRecDepth 100000 in
set_option maxHeartbeats 8000000 in
theorem cell_field (os : List Go.Proofs.YtpdlpmbjhopnnaaDoor.Ord.O) (q : Go.Proofs.YtpdlpmbjhopnnaaDoor.Ord.O) (p n : Bool) (sh : Int) (m : Bool) (c g vc base M : Nat) (ta : Option Addr) (tn tc : Nat) (w : World) (hL : Last w base M (.slice (some ⟨g, 0, none⟩) (os.length + 1) vc) os q ta tn tc) (hn : os.length < 1000000) :
    Calls Tryd.prog 34 #[.slice (some ⟨g, 0, none⟩) (os.length + 1) vc, .agg #[.bool true, .bool p, .bool n, .int .i64 sh, .bool m, .int .u8 (c : Int)]] w fun e w' => GaveL base w w' (os ++ [q]) (startO ⟨true, p, n, sh, m, c⟩) e := by
  obtain ⟨hM1, hM2, hTB, hTX⟩ := hL.room
  obtain ⟨p0, p1, p2, p3, p4⟩ := hL.spot
  have HB := Lib.hid (al_any w (.cells #[.bool true, .bool p, .bool n, .int .i64 sh, .bool m, .int .u8 (c : Int)] 57))
  have HX := Lib.hid (heap_alloc_new w (.cells #[.bool true, .bool p, .bool n, .int .i64 sh, .bool m, .int .u8 (c : Int)] 57))
  have L1 := Lib.hid (hL.below HB.out)
  have HM2 := Lib.hid hM2
  have HM1 := Lib.hid hM1
  have HTB := Lib.hid hTB
  have HNN := Lib.hid hn
  have ew : wrap64 (os.length : Int) = (os.length : Int) := by rw [IntWalk.wrap64_in] <;> omega
  have hi0 : (0 : Int) ≤ (os.length : Int) := by omega
  have hi1 : (os.length : Int) < (os.length : Int) + 1 := by omega
  clear p0 p1 p2 p3 p4 hTX hM1 hM2 hTB hn hL
  have HA := Lib.hid fun W => al_any W (.cells #[.int .i64 2, .slice none 0 0, .bool p, .bool n, .int .i64 sh, .bool m, .int .i64 0, .int .u8 0] 51)
  go_enter Tryd.func34, Tryd.ntmps34
  go_upto_region 1 with (fail)
  generalize w.alloc _ = w1 at *
  obtain ⟨c0, c1, c2, c3, c4, c5⟩ := cells6 HX.out
  obtain ⟨p0, p1, p2, p3, p4⟩ := L1.out.spot
  have LB := Lib.hid (heap_alloc_new w1 (.cells #[.int .i64 2, .slice none 0 0, .bool p, .bool n, .int .i64 sh, .bool m, .int .i64 0, .int .u8 0] 51))
  have L2 := Lib.hid (L1.out.below (HA.out w1))
  have K2 := Lib.hid (kept_trans HB.out (HA.out w1))
  have S1 := Lib.hid (show w.heap.size ≤ (w1.alloc (.cells #[.int .i64 2, .slice none 0 0, .bool p, .bool n, .int .i64 sh, .bool m, .int .i64 0, .int .u8 0] 51)).heap.size from K2.out.size)
  clear HA
  go_wp2_with (at_builtin; refine wpList_mark ?_)
  refine Lib.hid ?_
  refine append_last rfl (.tmp 14) (.tmp 18) rfl base M w.heap.size (.slice (some ⟨g, 0, none⟩) (os.length + 1) vc) os q ta tn tc rfl L2.out HM2.out HTB.out S1.out w1.heap.size (startO ⟨true, p, n, sh, m, c⟩) none 0 0 rfl LB.out (own_no _ _) HNN.out (Nat.le_trans (Nat.le_trans HM1.out HM2.out) S1.out) ?_
  intro v' wA hown hgr
  obtain ⟨g7, k7, rfl, hg7, hg8⟩ := hown.form
  have LA := Lib.hid hown
  have KA := Lib.hid ((K2.out.mono (Nat.le_trans HM1.out HM2.out)).grown hgr (Nat.le_trans (Nat.le_trans HM1.out HM2.out) S1.out) (fun k hk => L2.out.ge k hk))
  clear hown hgr c0 c1 c2 c3 c4 c5 p0 p1 p2 p3 p4 ew
  go_wp2_with fail
  go_ret
  exact ⟨g7, k7, _, none, 0, 0, by first | rfl | simp, LA.out, KA.out⟩
set_option maxRecDepth 100000 in
set_option maxHeartbeats 8000000 in
theorem cell_new (os : List Go.Proofs.YtpdlpmbjhopnnaaDoor.Ord.O) (q : Go.Proofs.YtpdlpmbjhopnnaaDoor.Ord.O) (p n : Bool) (sh : Int) (m : Bool) (c g vc base M : Nat) (ta : Option Addr) (tn tc : Nat) (w : World) (hL : Last w base M (.slice (some ⟨g, 0, none⟩) (os.length + 1) vc) os q ta tn tc) (hn : os.length < 1000000) (hk : q.k ≠ 1) :
    Calls Tryd.prog 34 #[.slice (some ⟨g, 0, none⟩) (os.length + 1) vc, .agg #[.bool false, .bool p, .bool n, .int .i64 sh, .bool m, .int .u8 (c : Int)]] w fun e w' => GaveL base w w' (os ++ [q]) (textO [c]) e := by
  have hk1 : (q.k == 1) = false := by simpa using hk
  obtain ⟨hM1, hM2, hTB, hTX⟩ := hL.room
  obtain ⟨p0, p1, p2, p3, p4⟩ := hL.spot
  have HB := Lib.hid (al_any w (.cells #[.bool false, .bool p, .bool n, .int .i64 sh, .bool m, .int .u8 (c : Int)] 57))
  have HX := Lib.hid (heap_alloc_new w (.cells #[.bool false, .bool p, .bool n, .int .i64 sh, .bool m, .int .u8 (c : Int)] 57))
  have L1 := Lib.hid (hL.below HB.out)
  have HM2 := Lib.hid hM2
  have HM1 := Lib.hid hM1
  have HTB := Lib.hid hTB
  have HNN := Lib.hid hn
  have ew : wrap64 (os.length : Int) = (os.length : Int) := by rw [IntWalk.wrap64_in] <;> omega
  have hi0 : (0 : Int) ≤ (os.length : Int) := by omega
  have hi1 : (os.length : Int) < (os.length : Int) + 1 := by omega
  clear p0 p1 p2 p3 p4 hTX hM1 hM2 hTB hn hL
  have HA := Lib.hid fun W => al_any W (.cells (u8s [c]).toArray 5)
  clear hk
  go_enter Tryd.func34, Tryd.ntmps34
  go_upto_region 1 with (fail)
  generalize w.alloc _ = w1 at *
  obtain ⟨c0, c1, c2, c3, c4, c5⟩ := cells6 HX.out
  obtain ⟨p0, p1, p2, p3, p4⟩ := L1.out.spot
  have HA2 := Lib.hid (kept_trans (al_any w1 (.cells (u8s [c]).toArray 5)) (al_any (w1.alloc (.cells (u8s [c]).toArray 5)) (.cells (Str.ocells (textO [c]) (.slice (some ⟨w1.heap.size, 0, none⟩) 1 1)).toArray 51)))
  have LB := Lib.hid (heap_alloc2_new w1 (.cells (u8s [c]).toArray 5) (.cells (Str.ocells (textO [c]) (.slice (some ⟨w1.heap.size, 0, none⟩) 1 1)).toArray 51))
  have OT := Lib.hid (own_below (own_lit w1 w.heap.size [c] HB.out.size (by simp)) (al_any (w1.alloc (.cells (u8s [c]).toArray 5)) (.cells (Str.ocells (textO [c]) (.slice (some ⟨w1.heap.size, 0, none⟩) 1 1)).toArray 51)))
  have L2 := Lib.hid (L1.out.below HA2.out)
  have K2 := Lib.hid (kept_trans HB.out HA2.out)
  have S1 := Lib.hid (show w.heap.size ≤ ((w1.alloc (.cells (u8s [c]).toArray 5)).alloc (.cells (Str.ocells (textO [c]) (.slice (some ⟨w1.heap.size, 0, none⟩) 1 1)).toArray 51)).heap.size from K2.out.size)
  clear HA HA2
  go_wp2_with (at_builtin; refine wpList_mark ?_)
  refine Lib.hid ?_
  refine append_last rfl (.tmp 38) (.tmp 43) rfl base M w.heap.size (.slice (some ⟨g, 0, none⟩) (os.length + 1) vc) os q ta tn tc rfl L2.out HM2.out HTB.out S1.out (w1.heap.size + 1) (textO [c]) (some ⟨w1.heap.size, 0, none⟩) 1 1 rfl LB.out OT.out HNN.out (Nat.le_trans (Nat.le_trans HM1.out HM2.out) S1.out) ?_
  intro v' wA hown hgr
  obtain ⟨g7, k7, rfl, hg7, hg8⟩ := hown.form
  have LA := Lib.hid hown
  have KA := Lib.hid ((K2.out.mono (Nat.le_trans HM1.out HM2.out)).grown hgr (Nat.le_trans (Nat.le_trans HM1.out HM2.out) S1.out) (fun k hk => L2.out.ge k hk))
  clear hown hgr c0 c1 c2 c3 c4 c5 p0 p1 p2 p3 p4 ew hk1
  go_wp2_with fail
  go_ret
  exact ⟨g7, k7, _, _, 1, 1, by first | rfl | simp, LA.out, KA.out⟩
set_option maxRecDepth 100000 in
set_option maxHeartbeats 8000000 in
theorem cell_more (os : List Go.Proofs.YtpdlpmbjhopnnaaDoor.Ord.O) (q : Go.Proofs.YtpdlpmbjhopnnaaDoor.Ord.O) (p n : Bool) (sh : Int) (m : Bool) (c g vc base M : Nat) (ta : Option Addr) (tn tc : Nat) (w : World) (hL : Last w base M (.slice (some ⟨g, 0, none⟩) (os.length + 1) vc) os q ta tn tc) (hn : os.length < 1000000) (t : List Nat) (hq : q = textO t) (ht : t.length < 100000) :
    Calls Tryd.prog 34 #[.slice (some ⟨g, 0, none⟩) (os.length + 1) vc, .agg #[.bool false, .bool p, .bool n, .int .i64 sh, .bool m, .int .u8 (c : Int)]] w fun e w' => GaveL base w w' (os) (textO (t ++ [c])) e := by
  subst hq
  have HTT := Lib.hid ht
  clear ht
  obtain ⟨hM1, hM2, hTB, hTX⟩ := hL.room
  obtain ⟨p0, p1, p2, p3, p4⟩ := hL.spot
  have HB := Lib.hid (al_any w (.cells #[.bool false, .bool p, .bool n, .int .i64 sh, .bool m, .int .u8 (c : Int)] 57))
  have HX := Lib.hid (heap_alloc_new w (.cells #[.bool false, .bool p, .bool n, .int .i64 sh, .bool m, .int .u8 (c : Int)] 57))
  have L1 := Lib.hid (hL.below HB.out)
  have HM2 := Lib.hid hM2
  have HM1 := Lib.hid hM1
  have HTB := Lib.hid hTB
  have HNN := Lib.hid hn
  have ew : wrap64 (os.length : Int) = (os.length : Int) := by rw [IntWalk.wrap64_in] <;> omega
  have hi0 : (0 : Int) ≤ (os.length : Int) := by omega
  have hi1 : (os.length : Int) < (os.length : Int) + 1 := by omega
  clear p0 p1 p2 p3 p4 hTX hM1 hM2 hTB hn hL
  go_enter Tryd.func34, Tryd.ntmps34
  go_upto_region 1 with (fail)
  generalize w.alloc _ = w1 at *
  obtain ⟨c0, c1, c2, c3, c4, c5⟩ := cells6 HX.out
  obtain ⟨p0, p1, p2, p3, p4⟩ := L1.out.spot
  have hkk : ((textO t).k == 1) = true := rfl
  go_upto_region 5 with (fail)
  have HW : Below w1.heap.size w1 (w1.alloc (.cells (u8s [c]).toArray 5)).drew := (al_any w1 (.cells (u8s [c]).toArray 5)).drew
  have LW := Lib.hid (L1.out.below HW)
  have OW := Lib.hid LW.out.room.2.2.2
  have BW := Lib.hid (show BytesIn (w1.alloc (.cells (u8s [c]).toArray 5)).drew (.slice (some ⟨w1.heap.size, 0, none⟩) 1 1) [c] from bytes_below (lit_in w1 [c]) (Below.refl _ _).drew)
  have SW := Lib.hid (show M ≤ (w1.alloc (.cells (u8s [c]).toArray 5)).drew.heap.size from LW.out.room.2.1)
  have KW := Lib.hid (kept_trans HB.out HW)
  have etn : tn = t.length := by have := OW.out.1; rw [u8s_length] at this; simp only [textO] at this; omega
  have h63 : tn + 1 < 1000000 := by have := HTT.out; omega
  have tw : (w1.alloc (.cells (u8s [c]).toArray 5)).cell? ⟨g, os.length * 8 + 1, none⟩ = some (.slice ta tn tc) := (L1.out.below (al_any w1 (.cells (u8s [c]).toArray 5))).spot.2.1
  have hps : ∀ sa sn sc j u, j ≠ 1 → (Str.ocells (textO (t ++ [c])) (.slice sa sn sc))[j]? = some u → (Str.ocells (textO t) (.slice ta tn tc))[j]? = some u := by
    intro sa sn sc j u h1 h2
    rw [show Str.ocells (textO (t ++ [c])) (.slice sa sn sc) = (Str.ocells (textO t) (.slice ta tn tc)).set 1 (.slice sa sn sc) from rfl, List.getElem?_set_ne (Ne.symm h1)] at h2
    exact h2
  replace hps := Lib.hid hps
  have HGT := Lib.hid (own_ge OW.out)
  have HSP := Lib.hid LW.out.spot
  clear HW etn hkk
  have HXT := Lib.hid fun (v7 : Option Addr) (k7 : Nat) (w5 : World) (hg : World.grownBy (w1.alloc (.cells (u8s [c]).toArray 5)).drew w5 (Value.slice ta tn tc).ownBlock) (ho : w5.ownsRow M 5 1 (.slice v7 (tn + 1) k7) (tn + 1) (u8s (textO t).t ++ u8s [c])) => LW.out.text hg (p := textO (t ++ [c])) (sa := v7) (sn := tn + 1) (sc := k7) (by
    have e : u8s (textO (t ++ [c])).t = u8s (textO t).t ++ u8s [c] := by simp [u8s, textO]
    rw [e]; exact ho) (hps.out _ _ _)
  go_region_law (refine Inp.step_app8 rfl (.tmp 30) (.tmp 33) rfl M tn (u8s (textO t).t) (.slice ta tn tc) rfl OW.out ⟨_, 0, none⟩ 1 1 [c] rfl rfl BW.out h63 SW.out ?_; intro v5 w5 hown5 hgr5; obtain ⟨v7, k7, rfl⟩ := own_form hown5; have tt1 := (HXT.out _ _ _ hgr5 hown5).2.2.2.2.1; have tt2 := (HXT.out _ _ _ hgr5 hown5).2.2.2.2.2)
  all_goals
    have HF := HXT.out _ _ _ hgr5 hown5
    have LF := Lib.hid HF.1
    have KF := Lib.hid ((KW.out.mono (Nat.le_trans HM1.out HM2.out)).trans HF.2.1)
    clear HF HXT hown5 hgr5 tt1 tt2 tw LW OW BW SW KW hps HGT HSP c0 c1 c2 c3 c4 c5 p0 p1 p2 p3 p4 ew
    generalize World.setCell w5 _ _ = w6 at *
    go_wp2_with fail
    go_ret
    exact ⟨g, vc, M, v7, tn + 1, k7, by first | rfl | simp, LF.out, KF.out⟩
end Red
end Go.Proofs.YtpdlpmbjhopnnaaDoor
