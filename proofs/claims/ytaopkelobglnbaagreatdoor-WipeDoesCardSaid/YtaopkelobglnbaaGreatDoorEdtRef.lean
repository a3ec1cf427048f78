/- The document's Digit, Line, Modify, Deny of layer 14. Written by tools/gen_edt_ref.py. -/
import Derived.Test.YtaopkelobglnbaaGreatDoorEdtMore
import Derived.Test.YtaopkelobglnbaaGreatDoorScrGave
import Derived.Test.YtaopkelobglnbaaGreatDoorBunGrd
import Derived.Test.YtaopkelobglnbaaGreatDoorBunGrd
import Derived.Test.YtaopkelobglnbaaGreatDoorBunGrd
import Derived.Test.YtaopkelobglnbaaGreatDoorBunFld
import Derived.Test.YtaopkelobglnbaaGreatDoorBunFld
import Derived.Deep.Cut
import Derived.Deep.LoopGhost
import Derived.IntWalk
namespace Go.Proofs.YtaopkelobglnbaaGreatDoor
open Go.RowKit Sha Six Apd Cut Err Att Grd Fld Scr
set_option linter.unusedVariables false
namespace Edt
theorem drop_succ {l : List Nat} (a : Nat) {q : Nat} (h : q < l.length) :
    (¬ (((l.take q).dropWhile (fun x => x != a)).isEmpty = true ∧ l.getD q 0 ≠ a) → (l.take (q + 1)).dropWhile (fun x => x != a) = (l.take q).dropWhile (fun x => x != a) ++ [l.getD q 0]) ∧
    ((((l.take q).dropWhile (fun x => x != a)).isEmpty = true ∧ l.getD q 0 ≠ a) → (l.take (q + 1)).dropWhile (fun x => x != a) = (l.take q).dropWhile (fun x => x != a)) := by
  have e : l.take (q + 1) = l.take q ++ [l.getD q 0] := by
    rw [List.take_add_one, List.getElem?_eq_getElem h, List.getD_eq_getElem?_getD, List.getElem?_eq_getElem h]; rfl
  rw [e, List.dropWhile_append]
  generalize (l.take q).dropWhile (fun x => x != a) = D
  generalize l.getD q 0 = x
  cases D with
  | nil =>
    refine ⟨fun h => ?_, fun h => ?_⟩
    · have : x = a := Classical.not_not.1 fun hx => h ⟨rfl, hx⟩
      subst this; simp
    · simp [h.2]
  | cons y ys => simp
set_option maxRecDepth 100000 in
set_option maxHeartbeats 8000000 in
theorem rdeny_any (s : S) (ad : Option Addr) (k : Nat) (w : World) (h : CelsIn w (.slice ad s.cs.length k) s.cs) (hl : s.cs.length < 10000) (hz : 0 < s.cs.length) :
    Calls Tryz.prog 19 #[.agg #[.int .i64 s.rows, .int .i64 s.cols, .slice ad s.cs.length k, .int .i64 s.cur, .bool s.lk, .bool s.ins]] w fun e w' => GaveA w w' (deny s) e := by
  obtain ⟨r, c, cs, cur, lk, ins⟩ := s
  simp only at *
  have HB := Lib.hid (kept_trans (al_any w (.cells #[.int .i64 r, .int .i64 c, .slice ad cs.length k, .int .i64 cur, .bool lk, .bool ins] 24)) (al_any _ (.cells #[.int .i64 0, .int .i64 0, .slice none 0 0, .int .i64 0, .bool false, .bool false] 24)))
  have HX := Lib.hid (heap_alloc2_old w (.cells #[.int .i64 r, .int .i64 c, .slice ad cs.length k, .int .i64 cur, .bool lk, .bool ins] 24) (.cells #[.int .i64 0, .int .i64 0, .slice none 0 0, .int .i64 0, .bool false, .bool false] 24))
  have HZ := Lib.hid (heap_alloc2_new w (.cells #[.int .i64 r, .int .i64 c, .slice ad cs.length k, .int .i64 cur, .bool lk, .bool ins] 24) (.cells #[.int .i64 0, .int .i64 0, .slice none 0 0, .int .i64 0, .bool false, .bool false] 24))
  have HI := Lib.hid (h.below HB.out)
  have HC := Lib.hid fun W hb => rcopy_any ⟨r, c, cs, cur, lk, ins⟩ ad k W (HI.out.below hb) (by simp only; omega)
  simp only at HC
  have HL := Lib.hid hl
  have HP := Lib.hid hz
  have HM := Lib.hid (show deny ⟨r, c, cs, cur, lk, ins⟩ = ⟨r, c, cs, cur, true, ins⟩ from rfl)
  clear h hl hz
  go_enter Tryz.func19, Tryz.ntmps19
  go_upto_region 1 with (fail)
  generalize (w.alloc _).alloc _ = w1 at *
  obtain ⟨c0, c1, c2, c3, c4, c5⟩ := cells6 HX.out
  go_wp2_with fail
  with_reducible refine (HC.out _ (Below.refl _ _)).mono ?_
  rintro e w2 ⟨va, vc, rfl, ho, hb⟩
  clear c0 c1 c2 c3 c4 c5
  obtain ⟨g, vd, e1, hg1, hg2, _⟩ := OwnCels.at ho HP.out
  injection e1 with e1 e2 e3
  subst e1
  subst e3
  clear e2
  have hz0 := there_lt HZ.out
  have HA2 := al_any w2 (.cells #[.int .i64 r, .int .i64 c, .slice (some ⟨g, 0, none⟩) cs.length vc, .int .i64 cur, .bool lk, .bool ins] 24)
  have L3 := Lib.hid (heap_alloc_new w2 (.cells #[.int .i64 r, .int .i64 c, .slice (some ⟨g, 0, none⟩) cs.length vc, .int .i64 cur, .bool lk, .bool ins] 24))
  have X3 := Lib.hid (blk HX.out (kept_trans hb HA2))
  have Z3 := Lib.hid (blk HZ.out (kept_trans hb HA2))
  have O3 := Lib.hid ((OwnCels.below ho HA2).mono HB.out.size)
  have K3 := Lib.hid (kept_trans HB.out (kept_trans hb HA2))
  have I3 := Lib.hid (HI.out.below (kept_trans hb HA2))
  have hsz := hb.size
  clear HA2 ho hb HX HZ HC HB HI
  go_upto_region 2 with (fail)
  generalize w2.alloc _ = w3 at *
  have HG1 := Lib.hid (show w.heap.size + 1 < g from by omega)
  have HG2 := Lib.hid hg2
  have HG3 := Lib.hid (show w.heap.size + 1 < w2.heap.size from by omega)
  clear hg1 hg2 hz0 hsz
  generalize w2.heap.size = G at *
  obtain ⟨l0, l1, l2, l3, l4, l5⟩ := cells6 L3.out
  obtain ⟨m0, m1, m2, m3, m4, m5⟩ := free6 L3.out
  have SO := gsetCell w3 G 4 (.bool true)
  have L4 := Lib.hid (heap_setCell_same w3 G 4 _ 24 (.bool true) L3.out)
  have Z4 := Lib.hid (blk_g Z3.out SO (by intro e; injection e with e; have := HG3.out; omega))
  have O4 := Lib.hid (OwnCels.away O3.out SO (by intro e; have h3 : g = G := Option.some.inj e; have := HG2.out; omega))
  have K4 := Lib.hid (below_grown K3.out SO (by have := HG3.out; omega))
  clear SO Z3 O3 K3 X3 I3
  go_upto_region 3 with (fail)
  clear l0 l1 l2 l3 l4 l5 m0 m1 m2 m3 m4 m5 L3
  generalize w3.setCell _ _ = w4 at *
  replace L4 : Hid (w4.heap[G]? = some (.cells #[.int .i64 r, .int .i64 c, .slice (some ⟨g, 0, none⟩) cs.length vc, .int .i64 cur, .bool true, .bool ins] 24 (0, 0))) := L4
  obtain ⟨a0, a1, a2, a3, a4, a5⟩ := cells6 L4.out
  obtain ⟨f0, f1, f2, f3, f4, f5⟩ := free6 Z4.out
  obtain ⟨z0, z1, z2, z3, z4, z5⟩ := cells6 Z4.out
  have SF := Lib.hid (over6 w4 (w.heap.size + 1) _ _ _ _ _ _ _ (.int .i64 r) (.int .i64 c) (.slice (some ⟨g, 0, none⟩) cs.length vc) (.int .i64 cur) (.bool true) (.bool ins) Z4.out)
  go_wp2_with fail
  clear z0 z1 z2 z3 z4 z5 a0 a1 a2 a3 a4 a5 f0 f1 f2 f3 f4 f5
  generalize (((((w4.setCell _ _).setCell _ _).setCell _ _).setCell _ _).setCell _ _).setCell _ _ = w9 at *
  exact bodyPost_ret (v := .agg #[.int .i64 r, .int .i64 c, .slice (some ⟨g, 0, none⟩) cs.length vc, .int .i64 cur, .bool true, .bool ins]) (results_cell_row rfl _ _ (w.heap.size + 1) 24 _ (0, 0) _ rfl SF.out.1 Tryz.underlying24 rfl (by kernel_rfl)) rfl ⟨some ⟨g, 0, none⟩, vc, by rw [HM.out]; try simp, by rw [HM.out]; simpa using OwnCels.away O4.out SF.out.2 (by have := HG1.out; simp [Value.ownBlock]; omega), below_grown K4.out SF.out.2 (by omega)⟩
set_option maxRecDepth 100000 in
set_option maxHeartbeats 8000000 in
theorem rmodify_any (s : S) (ad : Option Addr) (k : Nat) (a : Nat) (w : World) (h : CelsIn w (.slice ad s.cs.length k) s.cs) (hl : s.cs.length < 10000) (hz : 0 < s.cs.length) (ha : a < s.cs.length) :
    Calls Tryz.prog 21 #[.agg #[.int .i64 s.rows, .int .i64 s.cols, .slice ad s.cs.length k, .int .i64 s.cur, .bool s.lk, .bool s.ins], .int .i64 (a : Int)] w fun e w' => GaveA w w' (modif s a) e := by
  obtain ⟨r, c, cs, cur, lk, ins⟩ := s
  simp only at *
  have HB := Lib.hid (kept_trans (al_any w (.cells #[.int .i64 r, .int .i64 c, .slice ad cs.length k, .int .i64 cur, .bool lk, .bool ins] 24)) (al_any _ (.cells #[.int .i64 0, .int .i64 0, .slice none 0 0, .int .i64 0, .bool false, .bool false] 24)))
  have HX := Lib.hid (heap_alloc2_old w (.cells #[.int .i64 r, .int .i64 c, .slice ad cs.length k, .int .i64 cur, .bool lk, .bool ins] 24) (.cells #[.int .i64 0, .int .i64 0, .slice none 0 0, .int .i64 0, .bool false, .bool false] 24))
  have HZ := Lib.hid (heap_alloc2_new w (.cells #[.int .i64 r, .int .i64 c, .slice ad cs.length k, .int .i64 cur, .bool lk, .bool ins] 24) (.cells #[.int .i64 0, .int .i64 0, .slice none 0 0, .int .i64 0, .bool false, .bool false] 24))
  have HI := Lib.hid (h.below HB.out)
  have HC := Lib.hid fun W hb => rcopy_any ⟨r, c, cs, cur, lk, ins⟩ ad k W (HI.out.below hb) (by simp only; omega)
  simp only at HC
  have HL := Lib.hid hl
  have HP := Lib.hid hz
  have HBG := Lib.hid fun W hb => rbegin_any ⟨r, c, cs, cur, lk, ins⟩ ad k a W (HI.out.below hb) (by simp only; omega) (by simp only; omega) (by simp only; omega)
  simp only at HBG
  have HA := Lib.hid ha
  have HK := Lib.hid (begin_fat ha)
  clear h hl hz ha
  go_enter Tryz.func21, Tryz.ntmps21
  go_upto_region 1 with (fail)
  generalize (w.alloc _).alloc _ = w1 at *
  obtain ⟨c0, c1, c2, c3, c4, c5⟩ := cells6 HX.out
  go_wp2_with fail
  with_reducible refine (HC.out _ (Below.refl _ _)).mono ?_
  rintro e w2 ⟨va, vc, rfl, ho, hb⟩
  clear c0 c1 c2 c3 c4 c5
  obtain ⟨g, vd, e1, hg1, hg2, _⟩ := OwnCels.at ho HP.out
  injection e1 with e1 e2 e3
  subst e1
  subst e3
  clear e2
  have hz0 := there_lt HZ.out
  have HA2 := al_any w2 (.cells #[.int .i64 r, .int .i64 c, .slice (some ⟨g, 0, none⟩) cs.length vc, .int .i64 cur, .bool lk, .bool ins] 24)
  have L3 := Lib.hid (heap_alloc_new w2 (.cells #[.int .i64 r, .int .i64 c, .slice (some ⟨g, 0, none⟩) cs.length vc, .int .i64 cur, .bool lk, .bool ins] 24))
  have X3 := Lib.hid (blk HX.out (kept_trans hb HA2))
  have Z3 := Lib.hid (blk HZ.out (kept_trans hb HA2))
  have O3 := Lib.hid ((OwnCels.below ho HA2).mono HB.out.size)
  have K3 := Lib.hid (kept_trans HB.out (kept_trans hb HA2))
  have I3 := Lib.hid (HI.out.below (kept_trans hb HA2))
  have hsz := hb.size
  have HKK := Lib.hid (kept_trans hb HA2)
  clear HA2 ho hb HX HZ HC HB HI
  go_upto_region 2 with (fail)
  generalize w2.alloc _ = w3 at *
  have HG1 := Lib.hid (show w.heap.size + 1 < g from by omega)
  have HG2 := Lib.hid hg2
  have HG3 := Lib.hid (show w.heap.size + 1 < w2.heap.size from by omega)
  clear hg1 hg2 hz0 hsz
  generalize w2.heap.size = G at *
  obtain ⟨c0, c1, c2, c3, c4, c5⟩ := cells6 X3.out
  go_wp2_with fail
  with_reducible refine (HBG.out _ HKK.out).mono ?_
  rintro e w4 ⟨rfl, hb⟩
  clear c0 c1 c2 c3 c4 c5 HBG HKK I3
  have L4 := Lib.hid (blk L3.out hb)
  have Z4 := Lib.hid (blk Z3.out hb)
  have O4 := Lib.hid (O3.out.below hb)
  have K4 := kept_hid K3 hb
  clear hb L3 Z3 O3 K3 X3
  by_cases hneg : begin_ cs a < 0
  · have HN := Lib.hid hneg
    have hge : ¬ (0 : Int) ≤ begin_ cs a := by omega
    have HM := Lib.hid (show modif ⟨r, c, cs, cur, lk, ins⟩ a = ⟨r, c, cs, cur, lk, ins⟩ from if_pos hneg)
    generalize begin_ cs a = bv at *
    clear HK
    obtain ⟨a0, a1, a2, a3, a4, a5⟩ := cells6 L4.out
    obtain ⟨f0, f1, f2, f3, f4, f5⟩ := free6 Z4.out
    obtain ⟨z0, z1, z2, z3, z4, z5⟩ := cells6 Z4.out
    have SF := Lib.hid (over6 w4 (w.heap.size + 1) _ _ _ _ _ _ _ (.int .i64 r) (.int .i64 c) (.slice (some ⟨g, 0, none⟩) cs.length vc) (.int .i64 cur) (.bool lk) (.bool ins) Z4.out)
    go_wp2_with fail
    clear z0 z1 z2 z3 z4 z5 a0 a1 a2 a3 a4 a5 f0 f1 f2 f3 f4 f5
    generalize (((((w4.setCell _ _).setCell _ _).setCell _ _).setCell _ _).setCell _ _).setCell _ _ = w9 at *
    exact bodyPost_ret (v := .agg #[.int .i64 r, .int .i64 c, .slice (some ⟨g, 0, none⟩) cs.length vc, .int .i64 cur, .bool lk, .bool ins]) (results_cell_row rfl _ _ (w.heap.size + 1) 24 _ (0, 0) _ rfl SF.out.1 Tryz.underlying24 rfl (by kernel_rfl)) rfl ⟨some ⟨g, 0, none⟩, vc, by rw [HM.out]; try simp, by rw [HM.out]; simpa using OwnCels.away O4.out SF.out.2 (by have := HG1.out; simp [Value.ownBlock]; omega), below_grown K4.out SF.out.2 (by omega)⟩
  · obtain ⟨b, hb, hbl, hbf⟩ := HK.out (by omega)
    have HBL := Lib.hid hbl
    have HBE := Lib.hid hb
    have HM := Lib.hid (show modif ⟨r, c, cs, cur, lk, ins⟩ a = ⟨r, c, cs.set b { cs.getD b noC with m := true }, cur, lk, ins⟩ by unfold modif; simp only; rw [if_neg hneg, hb]; rfl)
    rw [hb] at hneg ⊢
    have hge : (0 : Int) ≤ (b : Int) := by omega
    have hi1 : (b : Int) < (cs.length : Int) := by omega
    clear HK hb hneg hbf hbl
    obtain ⟨yf, yp, yn, ys, ym, yc, ey⟩ := c_eta (cs.getD b noC)
    obtain ⟨⟨_, _, _, _, p4, _⟩, fz⟩ := OwnCels.spot O4.out HBL.out ey
    have q4 := fz (b * 6 + 4)
    have p4' : w4.cell? ⟨g, b * 6 + 1 + 3, none⟩ = some (.bool ym) := p4
    have q4' : w4.frozen? ⟨g, b * 6 + 1 + 3, none⟩ = false := q4
    have SO := setm O4.out HBL.out true
    have O5 := Lib.hid SO.1
    have L5 := Lib.hid (blk_g L4.out SO.2 (by intro e; injection e with e; have := HG2.out; omega))
    have Z5 := Lib.hid (blk_g Z4.out SO.2 (by intro e; injection e with e; have := HG1.out; omega))
    have K5 := Lib.hid (below_grown K4.out SO.2 (by have := HG1.out; omega))
    obtain ⟨l0, l1, l2, l3, l4, l5⟩ := cells6 L4.out
    clear SO fz ey O4 L4 Z4 K4
    go_upto_region 5 with (fail)
    clear l0 l1 l2 l3 l4 l5 p4 q4 p4' q4'
    generalize w4.setCell _ _ = w5 at *
    obtain ⟨a0, a1, a2, a3, a4, a5⟩ := cells6 L5.out
    obtain ⟨f0, f1, f2, f3, f4, f5⟩ := free6 Z5.out
    obtain ⟨z0, z1, z2, z3, z4, z5⟩ := cells6 Z5.out
    have SF := Lib.hid (over6 w5 (w.heap.size + 1) _ _ _ _ _ _ _ (.int .i64 r) (.int .i64 c) (.slice (some ⟨g, 0, none⟩) cs.length vc) (.int .i64 cur) (.bool lk) (.bool ins) Z5.out)
    go_wp2_with fail
    clear z0 z1 z2 z3 z4 z5 a0 a1 a2 a3 a4 a5 f0 f1 f2 f3 f4 f5
    generalize (((((w5.setCell _ _).setCell _ _).setCell _ _).setCell _ _).setCell _ _).setCell _ _ = w9 at *
    exact bodyPost_ret (v := .agg #[.int .i64 r, .int .i64 c, .slice (some ⟨g, 0, none⟩) cs.length vc, .int .i64 cur, .bool lk, .bool ins]) (results_cell_row rfl _ _ (w.heap.size + 1) 24 _ (0, 0) _ rfl SF.out.1 Tryz.underlying24 rfl (by kernel_rfl)) rfl ⟨some ⟨g, 0, none⟩, vc, by rw [HM.out]; try simp, by rw [HM.out]; simpa using OwnCels.away O5.out SF.out.2 (by have := HG1.out; simp [Value.ownBlock]; omega), below_grown K5.out SF.out.2 (by omega)⟩
set_option maxRecDepth 100000 in
set_option maxHeartbeats 8000000 in
theorem rline_any (s : S) (ad : Option Addr) (k : Nat) (a : Nat) (w : World) (h : CelsIn w (.slice ad s.cs.length k) s.cs) (hl : s.cs.length < 10000) (hz : 0 < s.cs.length) (ha : a < s.cs.length) :
    Calls Tryz.prog 22 #[.agg #[.int .i64 s.rows, .int .i64 s.cols, .slice ad s.cs.length k, .int .i64 s.cur, .bool s.lk, .bool s.ins], .int .i64 (a : Int)] w fun e w' => ∃ v, e = .returned v ∧ OwnInts w' w.heap.size v (line s.cs a) ∧ Below w.heap.size w w' := by
  have HB := Lib.hid (al_any w (.cells #[.int .i64 s.rows, .int .i64 s.cols, .slice ad s.cs.length k, .int .i64 s.cur, .bool s.lk, .bool s.ins] 24))
  have HX := Lib.hid (heap_alloc_new w (.cells #[.int .i64 s.rows, .int .i64 s.cols, .slice ad s.cs.length k, .int .i64 s.cur, .bool s.lk, .bool s.ins] 24))
  have HI := Lib.hid (h.below HB.out)
  have HOP := Lib.hid fun W hb => ropen_any s ad k a W (HI.out.below hb) hz (by omega) ha
  have HCE := Lib.hid fun W hb => rcells_any s ad k a W (HI.out.below hb) hz (by omega) ha
  have HL := Lib.hid hl
  have HA := Lib.hid ha
  have HLD := Lib.hid (line_drop ha)
  have HLN := Lib.hid (show open_ s.cs a = false → line s.cs a = [] from fun h => by unfold line lineLen; rw [if_neg (by rw [h]; decide)]; rfl)
  have HCL := Lib.hid (show (cells s.cs a).length ≤ s.cs.length by unfold cells; rw [cells_len]; exact (clen_spec s.cs (begin_ s.cs a)).1)
  clear h hl hz ha
  go_enter Tryz.func22, Tryz.ntmps22
  go_upto_region 2 with (fail)
  generalize w.alloc _ = w1 at *
  obtain ⟨c0, c1, c2, c3, c4, c5⟩ := cells6 HX.out
  go_wp2_with fail
  with_reducible refine (HOP.out _ (Below.refl _ _)).mono ?_
  rintro e w2 ⟨rfl, hb⟩
  clear c0 c1 c2 c3 c4 c5
  have HK2 := Lib.hid hb
  have K2 := kept_hid HB hb
  have X2 := Lib.hid (blk HX.out hb)
  clear hb HOP HB HX
  cases hop : open_ s.cs a with
  | false =>
    have HE := Lib.hid (HLN.out hop)
    clear HLN HLD hop
    go_wp2_with fail
    go_ret
    exact ⟨_, rfl, by rw [HE.out]; exact World.ownsRow_nil _ _ _ _, K2.out⟩
  | true =>
    have HE := Lib.hid (HLD.out hop)
    clear HLN HLD hop
    obtain ⟨c0, c1, c2, c3, c4, c5⟩ := cells6 X2.out
    go_wp2_with fail
    with_reducible refine (HCE.out _ HK2.out).mono ?_
    rintro e w3 ⟨v, rfl, ho, hb⟩
    clear c0 c1 c2 c3 c4 c5
    have R3 := Lib.hid ho
    have K3 := kept_hid K2 hb
    clear ho hb HCE X2 HK2 K2
    generalize cells s.cs a = l at *
    generalize hres : line s.cs a = res at *
    replace hres := Lib.hid hres
    obtain ⟨va, kk, rfl⟩ := R3.out.form
    have HVB := Lib.hid (own_blocks R3.out)
    have HWL := Lib.hid K3.out.size
    have O0 := Lib.hid (show OwnInts w3 w3.heap.size (.slice none 0 0) ((l.take 0).dropWhile (fun x => x != a)) from World.ownsRow_nil _ _ _ _)
    go_wp2_with fail
    go_loopg [5, 7, 8] (l.length + 1) (fun mm v on i wr => ∃ q : Nat, q ≤ l.length ∧ mm = l.length + 1 - q ∧ i = .int .i64 q ∧ on = .bool (!((l.take q).dropWhile (fun x => x != a)).isEmpty) ∧ Hid (OwnInts wr w3.heap.size v ((l.take q).dropWhile (fun x => x != a))) ∧ Hid (OwnInts wr w2.heap.size (.slice va l.length kk) l) ∧ Hid (Below w.heap.size w wr) ∧ Hid (w3.heap.size ≤ wr.heap.size))
    case atStart => exact ⟨0, Nat.zero_le _, rfl, rfl, rfl, O0, R3, K3, Nat.le_refl _⟩
    case round =>
      obtain ⟨q, hq, rfl, rfl, rfl, O4, R4, K4, L4⟩ := hrel
      clear O0 R3 K3
      have ew : IntKind.i64.wrap ((q : Int) + 1) = (q : Int) + 1 := by
        have := HCL.out
        have := HL.out
        rw [IntWalk.i64_in] <;> omega
      obtain ⟨vo, ko, rfl⟩ := O4.out.form
      by_cases hlt : q < l.length
      · have HS := Lib.hid (drop_succ a hlt)
        have hi0 : (0 : Int) ≤ (q : Int) := by omega
        have hi1 : (q : Int) < (l.length : Int) := by omega
        obtain ⟨g', hg', _, hgl, hcell, _⟩ := R4.out.cell hlt
        rw [Nat.zero_add] at hcell
        subst hg'
        have HDL := Lib.hid (show ((l.take q).dropWhile (fun x => x != a)).length ≤ 10000 by
          have h1 := (List.dropWhile_sublist (l := l.take q) (fun x => x != a)).length_le
          rw [List.length_take] at h1
          have := HCL.out
          have := HL.out
          omega)
        generalize l.getD q 0 = x at *
        generalize hD : (l.take q).dropWhile (fun x => x != a) = D at *
        replace hD := Lib.hid hD
        generalize hD1 : (l.take (q + 1)).dropWhile (fun x => x != a) = D1 at *
        replace hD1 := Lib.hid hD1
        have HOG := Lib.hid (show ∀ g, (Value.slice vo D.length ko).ownBlock = some g → w3.heap.size ≤ g from own_ge O4.out)
        by_cases hon : (D.isEmpty = true ∧ x ≠ a)
        · have HN := Lib.hid (HS.out.2 hon)
          have e0 : ((x : Int) == (a : Int)) = false := by simp; omega
          obtain ⟨hon1, _⟩ := hon
          have HEM := Lib.hid hon1
          rw [hon1]
          clear hon1 HS
          go_wp2_with fail
          go_roundg (l.length + 1 - (q + 1))
          case measure => omega
          case rel => exact ⟨q + 1, by omega, rfl, rfl, by rw [hD1.out, HN.out, HEM.out], by rw [hD1.out, HN.out]; exact O4, R4, K4, L4⟩
        · have HN := Lib.hid (HS.out.1 hon)
          have HAL := al_any wr (.cells #[.int .i64 (x : Int)] 3)
          have O5 := Lib.hid (O4.out.below HAL)
          have R5 := Lib.hid (R4.out.below HAL)
          have K5 := kept_hid K4 HAL
          have L5 := Lib.hid (Nat.le_trans L4.out HAL.size)
          have X5 := Lib.hid (heap_alloc_new wr (.cells #[.int .i64 (x : Int)] 3))
          clear HAL O4 R4 K4 L4 HS
          by_cases hx : x = a
          · have e0 : ((x : Int) == (a : Int)) = true := by simp; omega
            clear hon hx
            cases hem : D.isEmpty <;>
            (replace hem := Lib.hid hem
             go_wp2_with (at_builtin; refine wpList_mark ?_)
             refine Lib.hid ?_
             refine append_int rfl (.tmp 30) (.tmp 35) rfl w3.heap.size (.slice vo D.length ko) D rfl O5.out wr.heap.size x rfl X5.out (by have := HDL.out; omega) L5.out ?_
             intro v' w7 hown hgr
             rw [← HN.out] at hown
             have O7 := Lib.hid hown
             have R7 := Lib.hid (show OwnInts w7 w2.heap.size (.slice (some ⟨g', 0, none⟩) l.length kk) l from World.ownsRow.kept R5.out hgr (.inr (fun e => by have h1 : w3.heap.size ≤ g' := HOG.out _ e.symm; have h2 : g' < w3.heap.size := (HVB.out _ rfl).2; omega)))
             have K7 := Lib.hid (K5.out.grown hgr K5.out.size (fun g hg => by have h1 := HOG.out _ hg; have h3 := HWL.out; omega))
             have L7 := Lib.hid (Nat.le_trans L5.out hgr.size)
             obtain ⟨v7, k7, rfl⟩ := O7.out.form
             clear hown hgr O5 R5 K5 L5 X5 HOG
             go_wp2_with fail
             go_roundg (l.length + 1 - (q + 1))
             case measure => omega
             case rel => exact ⟨q + 1, by omega, rfl, rfl, by rw [hD1.out, HN.out]; simp, by rw [hD1.out]; exact O7, R7, K7, L7⟩)
          · have e0 : ((x : Int) == (a : Int)) = false := by simp; omega
            have hem : D.isEmpty = false := by
              cases h : D.isEmpty with
              | false => rfl
              | true => exact absurd ⟨h, hx⟩ hon
            rw [hem]
            clear hon hx
            (clear hem
             go_wp2_with (at_builtin; refine wpList_mark ?_)
             refine Lib.hid ?_
             refine append_int rfl (.tmp 30) (.tmp 35) rfl w3.heap.size (.slice vo D.length ko) D rfl O5.out wr.heap.size x rfl X5.out (by have := HDL.out; omega) L5.out ?_
             intro v' w7 hown hgr
             rw [← HN.out] at hown
             have O7 := Lib.hid hown
             have R7 := Lib.hid (show OwnInts w7 w2.heap.size (.slice (some ⟨g', 0, none⟩) l.length kk) l from World.ownsRow.kept R5.out hgr (.inr (fun e => by have h1 : w3.heap.size ≤ g' := HOG.out _ e.symm; have h2 : g' < w3.heap.size := (HVB.out _ rfl).2; omega)))
             have K7 := Lib.hid (K5.out.grown hgr K5.out.size (fun g hg => by have h1 := HOG.out _ hg; have h3 := HWL.out; omega))
             have L7 := Lib.hid (Nat.le_trans L5.out hgr.size)
             obtain ⟨v7, k7, rfl⟩ := O7.out.form
             clear hown hgr O5 R5 K5 L5 X5 HOG
             go_wp2_with fail
             go_roundg (l.length + 1 - (q + 1))
             case measure => omega
             case rel => exact ⟨q + 1, by omega, rfl, rfl, by rw [hD1.out, HN.out]; simp, by rw [hD1.out]; exact O7, R7, K7, L7⟩)
      · obtain rfl : q = l.length := by omega
        have hn0 : ¬ (l.length : Int) < (l.length : Int) := by omega
        have W6 := Lib.hid (show OwnInts wr w.heap.size (.slice vo (l.dropWhile (fun x => x != a)).length ko) res by
          have := O4.out.mono HWL.out
          rw [HE.out]
          rwa [List.take_length] at this)
        clear hlt O4
        go_wp2_with fail
        go_ret
        exact ⟨_, rfl, by rw [hres.out]; exact W6.out, K4.out⟩
end Edt
end Go.Proofs.YtaopkelobglnbaaGreatDoor
