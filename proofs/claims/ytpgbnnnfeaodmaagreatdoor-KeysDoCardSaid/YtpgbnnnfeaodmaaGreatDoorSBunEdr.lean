/- EdtRef, EdtRdg, EdtRtype, EdtRtyp2, EdtRtyp3 in one text (by tools/bundle.py). -/
import Derived.Test.YtpgbnnnfeaodmaaGreatDoorSBunEdp
import Derived.Test.YtpgbnnnfeaodmaaGreatDoorSBunSce
import Derived.Test.YtpgbnnnfeaodmaaGreatDoorSBunGrd
import Derived.Test.YtpgbnnnfeaodmaaGreatDoorSBunFld
import Derived.Deep.Cut
import Derived.Deep.LoopGhost
import Derived.IntWalk
import Derived.Test.YtpgbnnnfeaodmaaGreatDoorSBunRlp
import Derived.Deep.CutRange
import Derived.Deep.RegionHeld3
/- The document's Digit, Line, Modify, Deny of layer 14. Written by tools/gen_edt_ref.py. -/
namespace Go.Proofs.YtpgbnnnfeaodmaaGreatDoor
open Go.RowKit Sha Six Apd Cut Err Att Grd Fld Scr
set_option linter.unusedVariables false
namespace Edt
theorem drop_succ {l : List Nat} (a : Nat) {q : Nat} (h : q < l.length) :
    (¬ (((l.take q).dropWhile (fun x => x != a)).isEmpty = true ∧ l.getD q 0 ≠ a) → (l.take (q + 1)).dropWhile (fun x => x != a) = (l.take q).dropWhile (fun x => x != a) ++ [l.getD q 0]) ∧
    ((((l.take q).dropWhile (fun x => x != a)).isEmpty = true ∧ l.getD q 0 ≠ a) → (l.take (q + 1)).dropWhile (fun x => x != a) = (l.take q).dropWhile (fun x => x != a)) := by
  have e : l.take (q + 1) = l.take q ++ [l.getD q 0] := by
    rw [List.take_add_one, List.getElem?_eq_getElem h, List.getD_eq_getElem?_getD, List.getElem?_eq_getElem h]; rfl
  rw [e, List.dropWhile_append]
  generalize (l.take q).dropWhile (fun x => x != a) = D
  generalize l.getD q 0 = x
  cases D with
  | nil =>
    refine ⟨fun h => ?_, fun h => ?_⟩
    · have : x = a := Classical.not_not.1 fun hx => h ⟨rfl, hx⟩
      subst this; simp
    · simp [h.2]
  | cons y ys => simp
set_option maxRecDepth 100000 in
set_option maxHeartbeats 8000000 in
theorem rdeny_any (s : S) (ad : Option Addr) (k : Nat) (w : World) (h : CelsIn w (.slice ad s.cs.length k) s.cs) (hl : s.cs.length < 10000) (hz : 0 < s.cs.length) :
    Calls Tryz.prog 43 #[.agg #[.int .i64 s.rows, .int .i64 s.cols, .slice ad s.cs.length k, .int .i64 s.cur, .bool s.lk, .bool s.ins]] w fun e w' => GaveA w w' (deny s) e := by
  obtain ⟨r, c, cs, cur, lk, ins⟩ := s
  simp only at *
  have HB := Lib.hid (kept_trans (al_any w (.cells #[.int .i64 r, .int .i64 c, .slice ad cs.length k, .int .i64 cur, .bool lk, .bool ins] 24)) (al_any _ (.cells #[.int .i64 0, .int .i64 0, .slice none 0 0, .int .i64 0, .bool false, .bool false] 24)))
  have HX := Lib.hid (heap_alloc2_old w (.cells #[.int .i64 r, .int .i64 c, .slice ad cs.length k, .int .i64 cur, .bool lk, .bool ins] 24) (.cells #[.int .i64 0, .int .i64 0, .slice none 0 0, .int .i64 0, .bool false, .bool false] 24))
  have HZ := Lib.hid (heap_alloc2_new w (.cells #[.int .i64 r, .int .i64 c, .slice ad cs.length k, .int .i64 cur, .bool lk, .bool ins] 24) (.cells #[.int .i64 0, .int .i64 0, .slice none 0 0, .int .i64 0, .bool false, .bool false] 24))
  have HI := Lib.hid (h.below HB.out)
  have HC := Lib.hid fun W hb => rcopy_any ⟨r, c, cs, cur, lk, ins⟩ ad k W (HI.out.below hb) (by simp only; omega)
  simp only at HC
  have HL := Lib.hid hl
  have HP := Lib.hid hz
  have HM := Lib.hid (show deny ⟨r, c, cs, cur, lk, ins⟩ = ⟨r, c, cs, cur, true, ins⟩ from rfl)
  clear h hl hz
  go_enter Tryz.func43, Tryz.ntmps43
  go_upto_region 1 with (fail)
  generalize (w.alloc _).alloc _ = w1 at *
  obtain ⟨c0, c1, c2, c3, c4, c5⟩ := cells6 HX.out
  go_wp2_with fail
  with_reducible refine (HC.out _ (Below.refl _ _)).mono ?_
  rintro e w2 ⟨va, vc, rfl, ho, hb⟩
  clear c0 c1 c2 c3 c4 c5
  obtain ⟨g, vd, e1, hg1, hg2, _⟩ := OwnCels.at ho HP.out
  injection e1 with e1 e2 e3
  subst e1
  subst e3
  clear e2
  have hz0 := there_lt HZ.out
  have HA2 := al_any w2 (.cells #[.int .i64 r, .int .i64 c, .slice (some ⟨g, 0, none⟩) cs.length vc, .int .i64 cur, .bool lk, .bool ins] 24)
  have L3 := Lib.hid (heap_alloc_new w2 (.cells #[.int .i64 r, .int .i64 c, .slice (some ⟨g, 0, none⟩) cs.length vc, .int .i64 cur, .bool lk, .bool ins] 24))
  have X3 := Lib.hid (blk HX.out (kept_trans hb HA2))
  have Z3 := Lib.hid (blk HZ.out (kept_trans hb HA2))
  have O3 := Lib.hid ((OwnCels.below ho HA2).mono HB.out.size)
  have K3 := Lib.hid (kept_trans HB.out (kept_trans hb HA2))
  have I3 := Lib.hid (HI.out.below (kept_trans hb HA2))
  have hsz := hb.size
  clear HA2 ho hb HX HZ HC HB HI
  go_upto_region 2 with (fail)
  generalize w2.alloc _ = w3 at *
  have HG1 := Lib.hid (show w.heap.size + 1 < g from by omega)
  have HG2 := Lib.hid hg2
  have HG3 := Lib.hid (show w.heap.size + 1 < w2.heap.size from by omega)
  clear hg1 hg2 hz0 hsz
  generalize w2.heap.size = G at *
  obtain ⟨l0, l1, l2, l3, l4, l5⟩ := cells6 L3.out
  obtain ⟨m0, m1, m2, m3, m4, m5⟩ := free6 L3.out
  have SO := gsetCell w3 G 4 (.bool true)
  have L4 := Lib.hid (heap_setCell_same w3 G 4 _ 24 (.bool true) L3.out)
  have Z4 := Lib.hid (blk_g Z3.out SO (by intro e; injection e with e; have := HG3.out; omega))
  have O4 := Lib.hid (OwnCels.away O3.out SO (by intro e; have h3 : g = G := Option.some.inj e; have := HG2.out; omega))
  have K4 := Lib.hid (below_grown K3.out SO (by have := HG3.out; omega))
  clear SO Z3 O3 K3 X3 I3
  go_upto_region 3 with (fail)
  clear l0 l1 l2 l3 l4 l5 m0 m1 m2 m3 m4 m5 L3
  generalize w3.setCell _ _ = w4 at *
  replace L4 : Hid (w4.heap[G]? = some (.cells #[.int .i64 r, .int .i64 c, .slice (some ⟨g, 0, none⟩) cs.length vc, .int .i64 cur, .bool true, .bool ins] 24 (0, 0))) := L4
  obtain ⟨a0, a1, a2, a3, a4, a5⟩ := cells6 L4.out
  obtain ⟨f0, f1, f2, f3, f4, f5⟩ := free6 Z4.out
  obtain ⟨z0, z1, z2, z3, z4, z5⟩ := cells6 Z4.out
  have SF := Lib.hid (over6 w4 (w.heap.size + 1) _ _ _ _ _ _ _ (.int .i64 r) (.int .i64 c) (.slice (some ⟨g, 0, none⟩) cs.length vc) (.int .i64 cur) (.bool true) (.bool ins) Z4.out)
  go_wp2_with fail
  clear z0 z1 z2 z3 z4 z5 a0 a1 a2 a3 a4 a5 f0 f1 f2 f3 f4 f5
  generalize (((((w4.setCell _ _).setCell _ _).setCell _ _).setCell _ _).setCell _ _).setCell _ _ = w9 at *
  exact bodyPost_ret (v := .agg #[.int .i64 r, .int .i64 c, .slice (some ⟨g, 0, none⟩) cs.length vc, .int .i64 cur, .bool true, .bool ins]) (results_cell_row rfl _ _ (w.heap.size + 1) 24 _ (0, 0) _ rfl SF.out.1 Tryz.underlying24 rfl (by kernel_rfl)) rfl ⟨some ⟨g, 0, none⟩, vc, by rw [HM.out]; try simp, by rw [HM.out]; simpa using OwnCels.away O4.out SF.out.2 (by have := HG1.out; simp [Value.ownBlock]; omega), below_grown K4.out SF.out.2 (by omega)⟩
set_option maxRecDepth 100000 in
set_option maxHeartbeats 8000000 in
theorem rmodify_any (s : S) (ad : Option Addr) (k : Nat) (a : Nat) (w : World) (h : CelsIn w (.slice ad s.cs.length k) s.cs) (hl : s.cs.length < 10000) (hz : 0 < s.cs.length) (ha : a < s.cs.length) :
    Calls Tryz.prog 45 #[.agg #[.int .i64 s.rows, .int .i64 s.cols, .slice ad s.cs.length k, .int .i64 s.cur, .bool s.lk, .bool s.ins], .int .i64 (a : Int)] w fun e w' => GaveA w w' (modif s a) e := by
  obtain ⟨r, c, cs, cur, lk, ins⟩ := s
  simp only at *
  have HB := Lib.hid (kept_trans (al_any w (.cells #[.int .i64 r, .int .i64 c, .slice ad cs.length k, .int .i64 cur, .bool lk, .bool ins] 24)) (al_any _ (.cells #[.int .i64 0, .int .i64 0, .slice none 0 0, .int .i64 0, .bool false, .bool false] 24)))
  have HX := Lib.hid (heap_alloc2_old w (.cells #[.int .i64 r, .int .i64 c, .slice ad cs.length k, .int .i64 cur, .bool lk, .bool ins] 24) (.cells #[.int .i64 0, .int .i64 0, .slice none 0 0, .int .i64 0, .bool false, .bool false] 24))
  have HZ := Lib.hid (heap_alloc2_new w (.cells #[.int .i64 r, .int .i64 c, .slice ad cs.length k, .int .i64 cur, .bool lk, .bool ins] 24) (.cells #[.int .i64 0, .int .i64 0, .slice none 0 0, .int .i64 0, .bool false, .bool false] 24))
  have HI := Lib.hid (h.below HB.out)
  have HC := Lib.hid fun W hb => rcopy_any ⟨r, c, cs, cur, lk, ins⟩ ad k W (HI.out.below hb) (by simp only; omega)
  simp only at HC
  have HL := Lib.hid hl
  have HP := Lib.hid hz
  have HBG := Lib.hid fun W hb => rbegin_any ⟨r, c, cs, cur, lk, ins⟩ ad k a W (HI.out.below hb) (by simp only; omega) (by simp only; omega) (by simp only; omega)
  simp only at HBG
  have HA := Lib.hid ha
  have HK := Lib.hid (begin_fat ha)
  clear h hl hz ha
  go_enter Tryz.func45, Tryz.ntmps45
  go_upto_region 1 with (fail)
  generalize (w.alloc _).alloc _ = w1 at *
  obtain ⟨c0, c1, c2, c3, c4, c5⟩ := cells6 HX.out
  go_wp2_with fail
  with_reducible refine (HC.out _ (Below.refl _ _)).mono ?_
  rintro e w2 ⟨va, vc, rfl, ho, hb⟩
  clear c0 c1 c2 c3 c4 c5
  obtain ⟨g, vd, e1, hg1, hg2, _⟩ := OwnCels.at ho HP.out
  injection e1 with e1 e2 e3
  subst e1
  subst e3
  clear e2
  have hz0 := there_lt HZ.out
  have HA2 := al_any w2 (.cells #[.int .i64 r, .int .i64 c, .slice (some ⟨g, 0, none⟩) cs.length vc, .int .i64 cur, .bool lk, .bool ins] 24)
  have L3 := Lib.hid (heap_alloc_new w2 (.cells #[.int .i64 r, .int .i64 c, .slice (some ⟨g, 0, none⟩) cs.length vc, .int .i64 cur, .bool lk, .bool ins] 24))
  have X3 := Lib.hid (blk HX.out (kept_trans hb HA2))
  have Z3 := Lib.hid (blk HZ.out (kept_trans hb HA2))
  have O3 := Lib.hid ((OwnCels.below ho HA2).mono HB.out.size)
  have K3 := Lib.hid (kept_trans HB.out (kept_trans hb HA2))
  have I3 := Lib.hid (HI.out.below (kept_trans hb HA2))
  have hsz := hb.size
  have HKK := Lib.hid (kept_trans hb HA2)
  clear HA2 ho hb HX HZ HC HB HI
  go_upto_region 2 with (fail)
  generalize w2.alloc _ = w3 at *
  have HG1 := Lib.hid (show w.heap.size + 1 < g from by omega)
  have HG2 := Lib.hid hg2
  have HG3 := Lib.hid (show w.heap.size + 1 < w2.heap.size from by omega)
  clear hg1 hg2 hz0 hsz
  generalize w2.heap.size = G at *
  obtain ⟨c0, c1, c2, c3, c4, c5⟩ := cells6 X3.out
  go_wp2_with fail
  with_reducible refine (HBG.out _ HKK.out).mono ?_
  rintro e w4 ⟨rfl, hb⟩
  clear c0 c1 c2 c3 c4 c5 HBG HKK I3
  have L4 := Lib.hid (blk L3.out hb)
  have Z4 := Lib.hid (blk Z3.out hb)
  have O4 := Lib.hid (O3.out.below hb)
  have K4 := kept_hid K3 hb
  clear hb L3 Z3 O3 K3 X3
  by_cases hneg : begin_ cs a < 0
  · have HN := Lib.hid hneg
    have hge : ¬ (0 : Int) ≤ begin_ cs a := by omega
    have HM := Lib.hid (show modif ⟨r, c, cs, cur, lk, ins⟩ a = ⟨r, c, cs, cur, lk, ins⟩ from if_pos hneg)
    generalize begin_ cs a = bv at *
    clear HK
    obtain ⟨a0, a1, a2, a3, a4, a5⟩ := cells6 L4.out
    obtain ⟨f0, f1, f2, f3, f4, f5⟩ := free6 Z4.out
    obtain ⟨z0, z1, z2, z3, z4, z5⟩ := cells6 Z4.out
    have SF := Lib.hid (over6 w4 (w.heap.size + 1) _ _ _ _ _ _ _ (.int .i64 r) (.int .i64 c) (.slice (some ⟨g, 0, none⟩) cs.length vc) (.int .i64 cur) (.bool lk) (.bool ins) Z4.out)
    go_wp2_with fail
    clear z0 z1 z2 z3 z4 z5 a0 a1 a2 a3 a4 a5 f0 f1 f2 f3 f4 f5
    generalize (((((w4.setCell _ _).setCell _ _).setCell _ _).setCell _ _).setCell _ _).setCell _ _ = w9 at *
    exact bodyPost_ret (v := .agg #[.int .i64 r, .int .i64 c, .slice (some ⟨g, 0, none⟩) cs.length vc, .int .i64 cur, .bool lk, .bool ins]) (results_cell_row rfl _ _ (w.heap.size + 1) 24 _ (0, 0) _ rfl SF.out.1 Tryz.underlying24 rfl (by kernel_rfl)) rfl ⟨some ⟨g, 0, none⟩, vc, by rw [HM.out]; try simp, by rw [HM.out]; simpa using OwnCels.away O4.out SF.out.2 (by have := HG1.out; simp [Value.ownBlock]; omega), below_grown K4.out SF.out.2 (by omega)⟩
  · obtain ⟨b, hb, hbl, hbf⟩ := HK.out (by omega)
    have HBL := Lib.hid hbl
    have HBE := Lib.hid hb
    have HM := Lib.hid (show modif ⟨r, c, cs, cur, lk, ins⟩ a = ⟨r, c, cs.set b { cs.getD b noC with m := true }, cur, lk, ins⟩ by unfold modif; simp only; rw [if_neg hneg, hb]; rfl)
    rw [hb] at hneg ⊢
    have hge : (0 : Int) ≤ (b : Int) := by omega
    have hi1 : (b : Int) < (cs.length : Int) := by omega
    clear HK hb hneg hbf hbl
    obtain ⟨yf, yp, yn, ys, ym, yc, ey⟩ := c_eta (cs.getD b noC)
    obtain ⟨⟨_, _, _, _, p4, _⟩, fz⟩ := OwnCels.spot O4.out HBL.out ey
    have q4 := fz (b * 6 + 4)
    have p4' : w4.cell? ⟨g, b * 6 + 1 + 3, none⟩ = some (.bool ym) := p4
    have q4' : w4.frozen? ⟨g, b * 6 + 1 + 3, none⟩ = false := q4
    have SO := setm O4.out HBL.out true
    have O5 := Lib.hid SO.1
    have L5 := Lib.hid (blk_g L4.out SO.2 (by intro e; injection e with e; have := HG2.out; omega))
    have Z5 := Lib.hid (blk_g Z4.out SO.2 (by intro e; injection e with e; have := HG1.out; omega))
    have K5 := Lib.hid (below_grown K4.out SO.2 (by have := HG1.out; omega))
    obtain ⟨l0, l1, l2, l3, l4, l5⟩ := cells6 L4.out
    clear SO fz ey O4 L4 Z4 K4
    go_upto_region 5 with (fail)
    clear l0 l1 l2 l3 l4 l5 p4 q4 p4' q4'
    generalize w4.setCell _ _ = w5 at *
    obtain ⟨a0, a1, a2, a3, a4, a5⟩ := cells6 L5.out
    obtain ⟨f0, f1, f2, f3, f4, f5⟩ := free6 Z5.out
    obtain ⟨z0, z1, z2, z3, z4, z5⟩ := cells6 Z5.out
    have SF := Lib.hid (over6 w5 (w.heap.size + 1) _ _ _ _ _ _ _ (.int .i64 r) (.int .i64 c) (.slice (some ⟨g, 0, none⟩) cs.length vc) (.int .i64 cur) (.bool lk) (.bool ins) Z5.out)
    go_wp2_with fail
    clear z0 z1 z2 z3 z4 z5 a0 a1 a2 a3 a4 a5 f0 f1 f2 f3 f4 f5
    generalize (((((w5.setCell _ _).setCell _ _).setCell _ _).setCell _ _).setCell _ _).setCell _ _ = w9 at *
    exact bodyPost_ret (v := .agg #[.int .i64 r, .int .i64 c, .slice (some ⟨g, 0, none⟩) cs.length vc, .int .i64 cur, .bool lk, .bool ins]) (results_cell_row rfl _ _ (w.heap.size + 1) 24 _ (0, 0) _ rfl SF.out.1 Tryz.underlying24 rfl (by kernel_rfl)) rfl ⟨some ⟨g, 0, none⟩, vc, by rw [HM.out]; try simp, by rw [HM.out]; simpa using OwnCels.away O5.out SF.out.2 (by have := HG1.out; simp [Value.ownBlock]; omega), below_grown K5.out SF.out.2 (by omega)⟩
set_option maxRecDepth 100000 in
set_option maxHeartbeats 8000000 in
theorem rline_any (s : S) (ad : Option Addr) (k : Nat) (a : Nat) (w : World) (h : CelsIn w (.slice ad s.cs.length k) s.cs) (hl : s.cs.length < 10000) (hz : 0 < s.cs.length) (ha : a < s.cs.length) :
    Calls Tryz.prog 46 #[.agg #[.int .i64 s.rows, .int .i64 s.cols, .slice ad s.cs.length k, .int .i64 s.cur, .bool s.lk, .bool s.ins], .int .i64 (a : Int)] w fun e w' => ∃ v, e = .returned v ∧ OwnInts w' w.heap.size v (line s.cs a) ∧ Below w.heap.size w w' := by
  have HB := Lib.hid (al_any w (.cells #[.int .i64 s.rows, .int .i64 s.cols, .slice ad s.cs.length k, .int .i64 s.cur, .bool s.lk, .bool s.ins] 24))
  have HX := Lib.hid (heap_alloc_new w (.cells #[.int .i64 s.rows, .int .i64 s.cols, .slice ad s.cs.length k, .int .i64 s.cur, .bool s.lk, .bool s.ins] 24))
  have HI := Lib.hid (h.below HB.out)
  have HOP := Lib.hid fun W hb => ropen_any s ad k a W (HI.out.below hb) hz (by omega) ha
  have HCE := Lib.hid fun W hb => rcells_any s ad k a W (HI.out.below hb) hz (by omega) ha
  have HL := Lib.hid hl
  have HA := Lib.hid ha
  have HLD := Lib.hid (line_drop ha)
  have HLN := Lib.hid (show open_ s.cs a = false → line s.cs a = [] from fun h => by unfold line lineLen; rw [if_neg (by rw [h]; decide)]; rfl)
  have HCL := Lib.hid (show (cells s.cs a).length ≤ s.cs.length by unfold cells; rw [Fld.cells_len]; exact (clen_spec s.cs (begin_ s.cs a)).1)
  clear h hl hz ha
  go_enter Tryz.func46, Tryz.ntmps46
  go_upto_region 2 with (fail)
  generalize w.alloc _ = w1 at *
  obtain ⟨c0, c1, c2, c3, c4, c5⟩ := cells6 HX.out
  go_wp2_with fail
  with_reducible refine (HOP.out _ (Below.refl _ _)).mono ?_
  rintro e w2 ⟨rfl, hb⟩
  clear c0 c1 c2 c3 c4 c5
  have HK2 := Lib.hid hb
  have K2 := kept_hid HB hb
  have X2 := Lib.hid (blk HX.out hb)
  clear hb HOP HB HX
  cases hop : open_ s.cs a with
  | false =>
    have HE := Lib.hid (HLN.out hop)
    clear HLN HLD hop
    go_wp2_with fail
    go_ret
    exact ⟨_, rfl, by rw [HE.out]; exact World.ownsRow_nil _ _ _ _, K2.out⟩
  | true =>
    have HE := Lib.hid (HLD.out hop)
    clear HLN HLD hop
    obtain ⟨c0, c1, c2, c3, c4, c5⟩ := cells6 X2.out
    go_wp2_with fail
    with_reducible refine (HCE.out _ HK2.out).mono ?_
    rintro e w3 ⟨v, rfl, ho, hb⟩
    clear c0 c1 c2 c3 c4 c5
    have R3 := Lib.hid ho
    have K3 := kept_hid K2 hb
    clear ho hb HCE X2 HK2 K2
    generalize cells s.cs a = l at *
    generalize hres : line s.cs a = res at *
    replace hres := Lib.hid hres
    obtain ⟨va, kk, rfl⟩ := R3.out.form
    have HVB := Lib.hid (own_blocks R3.out)
    have HWL := Lib.hid K3.out.size
    have O0 := Lib.hid (show OwnInts w3 w3.heap.size (.slice none 0 0) ((l.take 0).dropWhile (fun x => x != a)) from World.ownsRow_nil _ _ _ _)
    go_wp2_with fail
    go_loopg [5, 7, 8] (l.length + 1) (fun mm v on i wr => ∃ q : Nat, q ≤ l.length ∧ mm = l.length + 1 - q ∧ i = .int .i64 q ∧ on = .bool (!((l.take q).dropWhile (fun x => x != a)).isEmpty) ∧ Hid (OwnInts wr w3.heap.size v ((l.take q).dropWhile (fun x => x != a))) ∧ Hid (OwnInts wr w2.heap.size (.slice va l.length kk) l) ∧ Hid (Below w.heap.size w wr) ∧ Hid (w3.heap.size ≤ wr.heap.size))
    case atStart => exact ⟨0, Nat.zero_le _, rfl, rfl, rfl, O0, R3, K3, Nat.le_refl _⟩
    case round =>
      obtain ⟨q, hq, rfl, rfl, rfl, O4, R4, K4, L4⟩ := hrel
      clear O0 R3 K3
      have ew : IntKind.i64.wrap ((q : Int) + 1) = (q : Int) + 1 := by
        have := HCL.out
        have := HL.out
        rw [IntWalk.i64_in] <;> omega
      obtain ⟨vo, ko, rfl⟩ := O4.out.form
      by_cases hlt : q < l.length
      · have HS := Lib.hid (drop_succ a hlt)
        have hi0 : (0 : Int) ≤ (q : Int) := by omega
        have hi1 : (q : Int) < (l.length : Int) := by omega
        obtain ⟨g', hg', _, hgl, hcell, _⟩ := R4.out.cell hlt
        rw [Nat.zero_add] at hcell
        subst hg'
        have HDL := Lib.hid (show ((l.take q).dropWhile (fun x => x != a)).length ≤ 10000 by
          have h1 := (List.dropWhile_sublist (l := l.take q) (fun x => x != a)).length_le
          rw [List.length_take] at h1
          have := HCL.out
          have := HL.out
          omega)
        generalize l.getD q 0 = x at *
        generalize hD : (l.take q).dropWhile (fun x => x != a) = D at *
        replace hD := Lib.hid hD
        generalize hD1 : (l.take (q + 1)).dropWhile (fun x => x != a) = D1 at *
        replace hD1 := Lib.hid hD1
        have HOG := Lib.hid (show ∀ g, (Value.slice vo D.length ko).ownBlock = some g → w3.heap.size ≤ g from own_ge O4.out)
        by_cases hon : (D.isEmpty = true ∧ x ≠ a)
        · have HN := Lib.hid (HS.out.2 hon)
          have e0 : ((x : Int) == (a : Int)) = false := by simp; omega
          obtain ⟨hon1, _⟩ := hon
          have HEM := Lib.hid hon1
          rw [hon1]
          clear hon1 HS
          go_wp2_with fail
          go_roundg (l.length + 1 - (q + 1))
          case measure => omega
          case rel => exact ⟨q + 1, by omega, rfl, rfl, by rw [hD1.out, HN.out, HEM.out], by rw [hD1.out, HN.out]; exact O4, R4, K4, L4⟩
        · have HN := Lib.hid (HS.out.1 hon)
          have HAL := al_any wr (.cells #[.int .i64 (x : Int)] 3)
          have O5 := Lib.hid (O4.out.below HAL)
          have R5 := Lib.hid (R4.out.below HAL)
          have K5 := kept_hid K4 HAL
          have L5 := Lib.hid (Nat.le_trans L4.out HAL.size)
          have X5 := Lib.hid (heap_alloc_new wr (.cells #[.int .i64 (x : Int)] 3))
          clear HAL O4 R4 K4 L4 HS
          by_cases hx : x = a
          · have e0 : ((x : Int) == (a : Int)) = true := by simp; omega
            clear hon hx
            cases hem : D.isEmpty <;>
            (replace hem := Lib.hid hem
             go_wp2_with (at_builtin; refine wpList_mark ?_)
             refine Lib.hid ?_
             refine append_int rfl (.tmp 30) (.tmp 35) rfl w3.heap.size (.slice vo D.length ko) D rfl O5.out wr.heap.size x rfl X5.out (by have := HDL.out; omega) L5.out ?_
             intro v' w7 hown hgr
             rw [← HN.out] at hown
             have O7 := Lib.hid hown
             have R7 := Lib.hid (show OwnInts w7 w2.heap.size (.slice (some ⟨g', 0, none⟩) l.length kk) l from World.ownsRow.kept R5.out hgr (.inr (fun e => by have h1 : w3.heap.size ≤ g' := HOG.out _ e.symm; have h2 : g' < w3.heap.size := (HVB.out _ rfl).2; omega)))
             have K7 := Lib.hid (K5.out.grown hgr K5.out.size (fun g hg => by have h1 := HOG.out _ hg; have h3 := HWL.out; omega))
             have L7 := Lib.hid (Nat.le_trans L5.out hgr.size)
             obtain ⟨v7, k7, rfl⟩ := O7.out.form
             clear hown hgr O5 R5 K5 L5 X5 HOG
             go_wp2_with fail
             go_roundg (l.length + 1 - (q + 1))
             case measure => omega
             case rel => exact ⟨q + 1, by omega, rfl, rfl, by rw [hD1.out, HN.out]; simp, by rw [hD1.out]; exact O7, R7, K7, L7⟩)
          · have e0 : ((x : Int) == (a : Int)) = false := by simp; omega
            have hem : D.isEmpty = false := by
              cases h : D.isEmpty with
              | false => rfl
              | true => exact absurd ⟨h, hx⟩ hon
            rw [hem]
            clear hon hx
            (clear hem
             go_wp2_with (at_builtin; refine wpList_mark ?_)
             refine Lib.hid ?_
             refine append_int rfl (.tmp 30) (.tmp 35) rfl w3.heap.size (.slice vo D.length ko) D rfl O5.out wr.heap.size x rfl X5.out (by have := HDL.out; omega) L5.out ?_
             intro v' w7 hown hgr
             rw [← HN.out] at hown
             have O7 := Lib.hid hown
             have R7 := Lib.hid (show OwnInts w7 w2.heap.size (.slice (some ⟨g', 0, none⟩) l.length kk) l from World.ownsRow.kept R5.out hgr (.inr (fun e => by have h1 : w3.heap.size ≤ g' := HOG.out _ e.symm; have h2 : g' < w3.heap.size := (HVB.out _ rfl).2; omega)))
             have K7 := Lib.hid (K5.out.grown hgr K5.out.size (fun g hg => by have h1 := HOG.out _ hg; have h3 := HWL.out; omega))
             have L7 := Lib.hid (Nat.le_trans L5.out hgr.size)
             obtain ⟨v7, k7, rfl⟩ := O7.out.form
             clear hown hgr O5 R5 K5 L5 X5 HOG
             go_wp2_with fail
             go_roundg (l.length + 1 - (q + 1))
             case measure => omega
             case rel => exact ⟨q + 1, by omega, rfl, rfl, by rw [hD1.out, HN.out]; simp, by rw [hD1.out]; exact O7, R7, K7, L7⟩)
      · obtain rfl : q = l.length := by omega
        have hn0 : ¬ (l.length : Int) < (l.length : Int) := by omega
        have W6 := Lib.hid (show OwnInts wr w.heap.size (.slice vo (l.dropWhile (fun x => x != a)).length ko) res by
          have := O4.out.mono HWL.out
          rw [HE.out]
          rwa [List.take_length] at this)
        clear hlt O4
        go_wp2_with fail
        go_ret
        exact ⟨_, rfl, by rw [hres.out]; exact W6.out, K4.out⟩
end Edt
end Go.Proofs.YtpgbnnnfeaodmaaGreatDoor
/- The document's Digit of layer 14 (split off EdtRef). Written by tools/gen_edt_ref.py. -/
namespace Go.Proofs.YtpgbnnnfeaodmaaGreatDoor
open Go.RowKit Sha Six Apd Cut Err Att Grd Fld Scr
set_option linter.unusedVariables false
namespace Edt
theorem rdigit_any (c : Nat) (w : World) (hc : c < 256) : Calls Tryz.prog 44 #[.int .u8 (c : Int)] w fun e w' => e = .returned (.bool (digit c)) ∧ w = w' := by
  have HD := Lib.hid (show digit c = ((decide (240 ≤ c) && decide (c ≤ 249)) || (c == 96 || c == 75)) from rfl)
  generalize digit c = r at *
  by_cases h1 : 240 ≤ c
  · have i1 : (240 : Int) ≤ (c : Int) := by omega
    by_cases h2 : c ≤ 249
    · have i2 : (c : Int) ≤ 249 := by omega
      have HR := Lib.hid (show r = true by rw [HD.out]; simp [h1, h2])
      clear HD h1 h2 hc
      go_enter Tryz.func44, Tryz.ntmps44
      go_wp2_with fail
      go_ret
      exact ⟨by rw [HR.out]; rfl, rfl⟩
    · have i2 : ¬ (c : Int) ≤ 249 := by omega
      have e1 : ((c : Int) == 96) = false := by simp; omega
      have e2 : ((c : Int) == 75) = false := by simp; omega
      have HR := Lib.hid (show r = false by rw [HD.out]; simp; omega)
      clear HD h1 h2 hc
      go_enter Tryz.func44, Tryz.ntmps44
      go_wp2_with fail
      go_ret
      exact ⟨by rw [HR.out]; rfl, rfl⟩
  · have i1 : ¬ (240 : Int) ≤ (c : Int) := by omega
    by_cases h3 : c = 96
    · have e1 : ((c : Int) == 96) = true := by simp; omega
      have HR := Lib.hid (show r = true by rw [HD.out]; simp [h3])
      clear HD h1 h3 hc
      go_enter Tryz.func44, Tryz.ntmps44
      go_wp2_with fail
      go_ret
      exact ⟨by rw [HR.out]; rfl, rfl⟩
    · have e1 : ((c : Int) == 96) = false := by simp; omega
      have HR := Lib.hid (show r = ((c : Int) == 75) by
        rw [HD.out, show decide (240 ≤ c) = false by simpa using h1, show (c == 96) = false by simpa using h3, Bool.false_and, Bool.false_or, Bool.false_or, Bool.eq_iff_iff, beq_iff_eq, beq_iff_eq]
        omega)
      clear HD h1 h3 hc
      go_enter Tryz.func44, Tryz.ntmps44
      go_wp2_with fail
      go_ret
      exact ⟨by rw [HR.out]; rfl, rfl⟩
end Edt
end Go.Proofs.YtpgbnnnfeaodmaaGreatDoor
/- The document's Type of layer 14. Written by tools/gen_edt_rtype.py. -/
namespace Go.Proofs.YtpgbnnnfeaodmaaGreatDoor
open Go.RowKit Sha Six Apd Cut Err Att Grd Fld Scr
set_option linter.unusedVariables false
set_option linter.unusedSimpArgs false
namespace Edt
theorem rltr_any (b : Nat) (w : World) (hb : b < 256) :
    Calls Tryz.prog 42 #[.int .u8 (b : Int)] w fun e w' => e = .returned (.bool (ltr b)) ∧ w = w' := by
  have HC := Lib.hid fun W => rchar_any b W hb
  have HL := Lib.hid (show ltr b = (b != 0 && char b) from rfl)
  generalize ltr b = res at HL ⊢
  by_cases h0 : b = 0
  · subst h0
    clear hb HC
    go_enter Tryz.func42, Tryz.ntmps42
    go_wp2_with fail
    go_ret
    exact ⟨by rw [HL.out]; rfl, rfl⟩
  · have e1 : ((b : Int) != 0) = true := by simpa using h0
    have HL := Lib.hid (show res = char b by rw [HL.out]; simp [h0])
    generalize char b = r at *
    clear h0 hb
    go_enter Tryz.func42, Tryz.ntmps42
    go_wp2_with fail
    with_reducible refine (HC.out _).mono ?_
    rintro e w1 ⟨rfl, rfl⟩
    go_wp2_with fail
    go_ret
    exact ⟨by rw [HL.out]; rfl, rfl⟩
theorem field_n (p n : Bool) (s : Int) (m : Bool) (w : World) : (Instr.field 40 (.agg #[.bool p, .bool n, .int .i64 s, .bool m]) 1).run Tryz.prog w = .ok (.bool n) w := by kernel_rfl
set_option maxRecDepth 100000 in
set_option maxHeartbeats 8000000 in
theorem rt_3 (s : S) (ad : Option Addr) (k c kc : Nat) (w : World) (h : CelsIn w (.slice ad s.cs.length k) s.cs) (hl : s.cs.length < 10000) (hc : c < 256) (hk : kc < s.cs.length) (hcur : s.cur = (kc : Int)) (hlt : ltr c = false) :
    Calls Tryz.prog 23 #[.agg #[.int .i64 s.rows, .int .i64 s.cols, .slice ad s.cs.length k, .int .i64 s.cur, .bool s.lk, .bool s.ins], .int .u8 (c : Int)] w fun e w' => ShownE w w' s 3 (-1) e := by
  obtain ⟨r, q, cs, cur, lk, ins⟩ := s
  simp only at *
  subst hcur
  have HB := Lib.hid (kept_trans (al_any w (.cells #[.int .i64 r, .int .i64 q, .slice ad cs.length k, .int .i64 (kc : Int), .bool lk, .bool ins] 24)) (al_any _ (.cells #[.int .i64 0, .int .i64 0, .slice none 0 0, .int .i64 0, .bool false, .bool false] 24)))
  have HX := Lib.hid (heap_alloc2_old w (.cells #[.int .i64 r, .int .i64 q, .slice ad cs.length k, .int .i64 (kc : Int), .bool lk, .bool ins] 24) (.cells #[.int .i64 0, .int .i64 0, .slice none 0 0, .int .i64 0, .bool false, .bool false] 24))
  have HZ := Lib.hid (heap_alloc2_new w (.cells #[.int .i64 r, .int .i64 q, .slice ad cs.length k, .int .i64 (kc : Int), .bool lk, .bool ins] 24) (.cells #[.int .i64 0, .int .i64 0, .slice none 0 0, .int .i64 0, .bool false, .bool false] 24))
  have HI := Lib.hid (h.below HB.out)
  have HLT := Lib.hid fun W => rltr_any c W hc
  have HL := Lib.hid hl
  have HK := Lib.hid hk
  have HNE := Lib.hid (celsIn_lt h (Nat.lt_of_le_of_lt (Nat.zero_le _) hk))
  clear h hl hc hk 
  go_enter Tryz.func23, Tryz.ntmps23
  go_upto_region 1 with (fail)
  generalize (w.alloc _).alloc _ = w1 at *
  go_wp2_with fail
  with_reducible refine (HLT.out _).mono ?_
  rintro e wx ⟨rfl, rfl⟩
  rw [hlt]
  clear hlt HLT
  obtain ⟨a0, a1, a2, a3, a4, a5⟩ := cells6 HX.out
  obtain ⟨f0, f1, f2, f3, f4, f5⟩ := free6 HZ.out
  obtain ⟨z0, z1, z2, z3, z4, z5⟩ := cells6 HZ.out
  have SF := Lib.hid (over6 w1 (w.heap.size + 1) _ _ _ _ _ _ _ (.int .i64 r) (.int .i64 q) (.slice ad cs.length k) (.int .i64 (kc : Int)) (.bool lk) (.bool ins) HZ.out)
  go_wp2_with fail
  clear z0 z1 z2 z3 z4 z5 a0 a1 a2 a3 a4 a5 f0 f1 f2 f3 f4 f5
  generalize (((((w1.setCell _ _).setCell _ _).setCell _ _).setCell _ _).setCell _ _).setCell _ _ = w9 at *
  exact bodyPost_ret (v := .tuple #[.agg #[.int .i64 r, .int .i64 q, .slice ad cs.length k, .int .i64 (kc : Int), .bool lk, .bool ins], .int .i64 3, .int .i64 (-1)]) (results_cell_2 rfl _ _ _ (w.heap.size + 1) _ rfl (run_loadVar_row _ (w.heap.size + 1) 24 24 _ (0, 0) _ SF.out.1 Tryz.underlying24 rfl (by kernel_rfl)) (.int .i64 3) (.int .i64 (-1)) rfl rfl) rfl ⟨_, _, rfl, celsIn_away HI.out SF.out.2 (fun x hx => by have := HNE.out x hx; omega), below_grown HB.out SF.out.2 (by omega)⟩
set_option maxRecDepth 100000 in
set_option maxHeartbeats 8000000 in
theorem rt_7 (s : S) (ad : Option Addr) (k c kc : Nat) (w : World) (h : CelsIn w (.slice ad s.cs.length k) s.cs) (hl : s.cs.length < 10000) (hc : c < 256) (hk : kc < s.cs.length) (hcur : s.cur = (kc : Int)) (hlt : ltr c = true) (hlk : s.lk = true) :
    Calls Tryz.prog 23 #[.agg #[.int .i64 s.rows, .int .i64 s.cols, .slice ad s.cs.length k, .int .i64 s.cur, .bool s.lk, .bool s.ins], .int .u8 (c : Int)] w fun e w' => ShownE w w' s 7 (-1) e := by
  obtain ⟨r, q, cs, cur, lk, ins⟩ := s
  simp only at *
  subst hcur
  subst hlk
  have HB := Lib.hid (kept_trans (al_any w (.cells #[.int .i64 r, .int .i64 q, .slice ad cs.length k, .int .i64 (kc : Int), .bool true, .bool ins] 24)) (al_any _ (.cells #[.int .i64 0, .int .i64 0, .slice none 0 0, .int .i64 0, .bool false, .bool false] 24)))
  have HX := Lib.hid (heap_alloc2_old w (.cells #[.int .i64 r, .int .i64 q, .slice ad cs.length k, .int .i64 (kc : Int), .bool true, .bool ins] 24) (.cells #[.int .i64 0, .int .i64 0, .slice none 0 0, .int .i64 0, .bool false, .bool false] 24))
  have HZ := Lib.hid (heap_alloc2_new w (.cells #[.int .i64 r, .int .i64 q, .slice ad cs.length k, .int .i64 (kc : Int), .bool true, .bool ins] 24) (.cells #[.int .i64 0, .int .i64 0, .slice none 0 0, .int .i64 0, .bool false, .bool false] 24))
  have HI := Lib.hid (h.below HB.out)
  have HLT := Lib.hid fun W => rltr_any c W hc
  have HL := Lib.hid hl
  have HK := Lib.hid hk
  have HNE := Lib.hid (celsIn_lt h (Nat.lt_of_le_of_lt (Nat.zero_le _) hk))
  clear h hl hc hk 
  go_enter Tryz.func23, Tryz.ntmps23
  go_upto_region 1 with (fail)
  generalize (w.alloc _).alloc _ = w1 at *
  go_wp2_with fail
  with_reducible refine (HLT.out _).mono ?_
  rintro e wx ⟨rfl, rfl⟩
  rw [hlt]
  clear hlt HLT
  obtain ⟨a0, a1, a2, a3, a4, a5⟩ := cells6 HX.out
  obtain ⟨f0, f1, f2, f3, f4, f5⟩ := free6 HZ.out
  obtain ⟨z0, z1, z2, z3, z4, z5⟩ := cells6 HZ.out
  have SF := Lib.hid (over6 w1 (w.heap.size + 1) _ _ _ _ _ _ _ (.int .i64 r) (.int .i64 q) (.slice ad cs.length k) (.int .i64 (kc : Int)) (.bool true) (.bool ins) HZ.out)
  go_wp2_with fail
  clear z0 z1 z2 z3 z4 z5 a0 a1 a2 a3 a4 a5 f0 f1 f2 f3 f4 f5
  generalize (((((w1.setCell _ _).setCell _ _).setCell _ _).setCell _ _).setCell _ _).setCell _ _ = w9 at *
  exact bodyPost_ret (v := .tuple #[.agg #[.int .i64 r, .int .i64 q, .slice ad cs.length k, .int .i64 (kc : Int), .bool true, .bool ins], .int .i64 7, .int .i64 (-1)]) (results_cell_2 rfl _ _ _ (w.heap.size + 1) _ rfl (run_loadVar_row _ (w.heap.size + 1) 24 24 _ (0, 0) _ SF.out.1 Tryz.underlying24 rfl (by kernel_rfl)) (.int .i64 7) (.int .i64 (-1)) rfl rfl) rfl ⟨_, _, rfl, celsIn_away HI.out SF.out.2 (fun x hx => by have := HNE.out x hx; omega), below_grown HB.out SF.out.2 (by omega)⟩
set_option maxRecDepth 100000 in
set_option maxHeartbeats 8000000 in
theorem rt_8 (s : S) (ad : Option Addr) (k c kc : Nat) (w : World) (h : CelsIn w (.slice ad s.cs.length k) s.cs) (hl : s.cs.length < 10000) (hc : c < 256) (hk : kc < s.cs.length) (hcur : s.cur = (kc : Int)) (hlt : ltr c = true) (hlk : s.lk = false) (hop : open_ s.cs kc = false) :
    Calls Tryz.prog 23 #[.agg #[.int .i64 s.rows, .int .i64 s.cols, .slice ad s.cs.length k, .int .i64 s.cur, .bool s.lk, .bool s.ins], .int .u8 (c : Int)] w fun e w' => ShownE w w' (deny s) 8 (kc : Int) e := by
  obtain ⟨r, q, cs, cur, lk, ins⟩ := s
  simp only at *
  subst hcur
  subst hlk
  have HB := Lib.hid (kept_trans (al_any w (.cells #[.int .i64 r, .int .i64 q, .slice ad cs.length k, .int .i64 (kc : Int), .bool false, .bool ins] 24)) (al_any _ (.cells #[.int .i64 0, .int .i64 0, .slice none 0 0, .int .i64 0, .bool false, .bool false] 24)))
  have HX := Lib.hid (heap_alloc2_old w (.cells #[.int .i64 r, .int .i64 q, .slice ad cs.length k, .int .i64 (kc : Int), .bool false, .bool ins] 24) (.cells #[.int .i64 0, .int .i64 0, .slice none 0 0, .int .i64 0, .bool false, .bool false] 24))
  have HZ := Lib.hid (heap_alloc2_new w (.cells #[.int .i64 r, .int .i64 q, .slice ad cs.length k, .int .i64 (kc : Int), .bool false, .bool ins] 24) (.cells #[.int .i64 0, .int .i64 0, .slice none 0 0, .int .i64 0, .bool false, .bool false] 24))
  have HI := Lib.hid (h.below HB.out)
  have HLT := Lib.hid fun W => rltr_any c W hc
  have HL := Lib.hid hl
  have HK := Lib.hid hk
  have HNE := Lib.hid (celsIn_lt h (Nat.lt_of_le_of_lt (Nat.zero_le _) hk))
  have HOP := Lib.hid fun W hb => ropen_any ⟨r, q, cs, (kc : Int), false, ins⟩ ad k kc W (HI.out.below hb) (by simp only; omega) (by simp only; omega) (by simp only; omega)
  have HDN := Lib.hid fun W (hb : Below w.heap.size w W) => rdeny_any ⟨r, q, cs, (kc : Int), false, ins⟩ ad k W (h.below hb) (by simp only; omega) (by simp only; omega)
  simp only [GaveA, deny] at HOP HDN
  rw [hop] at HOP
  clear h hl hc hk hop
  go_enter Tryz.func23, Tryz.ntmps23
  go_upto_region 1 with (fail)
  generalize (w.alloc _).alloc _ = w1 at *
  go_wp2_with fail
  with_reducible refine (HLT.out _).mono ?_
  rintro e wx ⟨rfl, rfl⟩
  rw [hlt]
  clear hlt HLT
  obtain ⟨c0, c1, c2, c3, c4, c5⟩ := cells6 HX.out
  go_wp2_with fail
  with_reducible refine (HOP.out _ (Below.refl _ _)).mono ?_
  rintro e w2 ⟨rfl, hb⟩
  clear c0 c1 c2 c3 c4 c5 HOP
  have HK2 := Lib.hid hb
  have X2 := Lib.hid (blk HX.out hb)
  have Z2 := Lib.hid (blk HZ.out hb)
  have K2 := kept_hid HB hb
  have I2 := Lib.hid (HI.out.below hb)
  clear hb HX HZ HB HI
  obtain ⟨c0, c1, c2, c3, c4, c5⟩ := cells6 X2.out
  have hzw := there_lt Z2.out
  go_wp2_with fail
  with_reducible refine (HDN.out _ K2.out).mono ?_
  rintro e wd ⟨va, vc, rfl, ho, hb⟩
  have Zd := Lib.hid (blk Z2.out hb)
  have Kd := kept_hid K2 hb
  have HOd := Lib.hid (own_ge ho)
  have Od := Lib.hid (OwnCels.to ho)
  have HKZ := Lib.hid (show w.heap.size + 1 < w2.heap.size from hzw)
  clear c0 c1 c2 c3 c4 c5 hb ho
  obtain ⟨f0, f1, f2, f3, f4, f5⟩ := free6 Zd.out
  obtain ⟨z0, z1, z2, z3, z4, z5⟩ := cells6 Zd.out
  have SF := Lib.hid (over6 wd (w.heap.size + 1) _ _ _ _ _ _ _ (.int .i64 r) (.int .i64 q) (.slice va cs.length vc) (.int .i64 (kc : Int)) (.bool true) (.bool ins) Zd.out)
  go_wp2_with fail
  clear z0 z1 z2 z3 z4 z5 f0 f1 f2 f3 f4 f5
  generalize (((((wd.setCell _ _).setCell _ _).setCell _ _).setCell _ _).setCell _ _).setCell _ _ = w9 at *
  exact bodyPost_ret (v := .tuple #[.agg #[.int .i64 r, .int .i64 q, .slice va cs.length vc, .int .i64 (kc : Int), .bool true, .bool ins], .int .i64 8, .int .i64 (kc : Int)]) (results_cell_2 rfl _ _ _ (w.heap.size + 1) _ rfl (run_loadVar_row _ (w.heap.size + 1) 24 24 _ (0, 0) _ SF.out.1 Tryz.underlying24 rfl (by kernel_rfl)) (.int .i64 8) (.int .i64 (kc : Int)) rfl rfl) rfl ⟨va, vc, rfl, celsIn_away Od.out SF.out.2 (fun x hx => by have h1 := HOd.out x.block (by rw [hx]; rfl); have := HKZ.out; omega), below_grown Kd.out SF.out.2 (by omega)⟩
set_option maxRecDepth 100000 in
set_option maxHeartbeats 8000000 in
theorem rt_9 (s : S) (ad : Option Addr) (k c kc : Nat) (w : World) (h : CelsIn w (.slice ad s.cs.length k) s.cs) (hl : s.cs.length < 10000) (hc : c < 256) (hk : kc < s.cs.length) (hcur : s.cur = (kc : Int)) (hlt : ltr c = true) (hlk : s.lk = false) (hop : open_ s.cs kc = true) (hcd : (((attrOf s.cs kc).n && !digit c) && (c != 28 && c != 30)) = true) :
    Calls Tryz.prog 23 #[.agg #[.int .i64 s.rows, .int .i64 s.cols, .slice ad s.cs.length k, .int .i64 s.cur, .bool s.lk, .bool s.ins], .int .u8 (c : Int)] w fun e w' => ShownE w w' (deny s) 9 (kc : Int) e := by
  obtain ⟨r, q, cs, cur, lk, ins⟩ := s
  simp only at *
  subst hcur
  subst hlk
  have HB := Lib.hid (kept_trans (al_any w (.cells #[.int .i64 r, .int .i64 q, .slice ad cs.length k, .int .i64 (kc : Int), .bool false, .bool ins] 24)) (al_any _ (.cells #[.int .i64 0, .int .i64 0, .slice none 0 0, .int .i64 0, .bool false, .bool false] 24)))
  have HX := Lib.hid (heap_alloc2_old w (.cells #[.int .i64 r, .int .i64 q, .slice ad cs.length k, .int .i64 (kc : Int), .bool false, .bool ins] 24) (.cells #[.int .i64 0, .int .i64 0, .slice none 0 0, .int .i64 0, .bool false, .bool false] 24))
  have HZ := Lib.hid (heap_alloc2_new w (.cells #[.int .i64 r, .int .i64 q, .slice ad cs.length k, .int .i64 (kc : Int), .bool false, .bool ins] 24) (.cells #[.int .i64 0, .int .i64 0, .slice none 0 0, .int .i64 0, .bool false, .bool false] 24))
  have HI := Lib.hid (h.below HB.out)
  have HLT := Lib.hid fun W => rltr_any c W hc
  have HL := Lib.hid hl
  have HK := Lib.hid hk
  have HNE := Lib.hid (celsIn_lt h (Nat.lt_of_le_of_lt (Nat.zero_le _) hk))
  have HOP := Lib.hid fun W hb => ropen_any ⟨r, q, cs, (kc : Int), false, ins⟩ ad k kc W (HI.out.below hb) (by simp only; omega) (by simp only; omega) (by simp only; omega)
  have HDN := Lib.hid fun W (hb : Below w.heap.size w W) => rdeny_any ⟨r, q, cs, (kc : Int), false, ins⟩ ad k W (h.below hb) (by simp only; omega) (by simp only; omega)
  simp only [GaveA, deny] at HOP HDN
  have HOF := Lib.hid fun W hb => rof_any ⟨r, q, cs, (kc : Int), false, ins⟩ ad k kc W (HI.out.below hb) (by simp only; omega) (by simp only; omega) (by simp only; omega)
  have HDG := Lib.hid fun W => rdigit_any c W hc
  simp only at HOF
  rw [hop] at HOP
  have HCD := Lib.hid hcd
  clear h hl hc hk hop hcd
  go_enter Tryz.func23, Tryz.ntmps23
  go_upto_region 1 with (fail)
  generalize (w.alloc _).alloc _ = w1 at *
  go_wp2_with fail
  with_reducible refine (HLT.out _).mono ?_
  rintro e wx ⟨rfl, rfl⟩
  rw [hlt]
  clear hlt HLT
  obtain ⟨c0, c1, c2, c3, c4, c5⟩ := cells6 HX.out
  go_wp2_with fail
  with_reducible refine (HOP.out _ (Below.refl _ _)).mono ?_
  rintro e w2 ⟨rfl, hb⟩
  clear c0 c1 c2 c3 c4 c5 HOP
  have HK2 := Lib.hid hb
  have X2 := Lib.hid (blk HX.out hb)
  have Z2 := Lib.hid (blk HZ.out hb)
  have K2 := kept_hid HB hb
  have I2 := Lib.hid (HI.out.below hb)
  clear hb HX HZ HB HI
  have hfn := field_n (attrOf cs kc).p (attrOf cs kc).n (attrOf cs kc).s (attrOf cs kc).m
  go_upto_region 8 with (fail)
  go_cut [48] from 32 to 47 (fun v wx => v = .bool (((attrOf cs kc).n && !digit c) && (c != 28 && c != 30)) ∧ Hid (Below w2.heap.size w2 wx))
  case first =>
    obtain ⟨c0, c1, c2, c3, c4, c5⟩ := cells6 X2.out
    go_wp2_with fail
    with_reducible refine (HOF.out _ HK2.out).mono ?_
    rintro e w3 ⟨rfl, hb⟩
    replace hb := Lib.hid hb
    clear c0 c1 c2 c3 c4 c5 HOF HCD
    generalize (attrOf cs kc).n = nn at *
    generalize (attrOf cs kc).p = pp at *
    generalize (attrOf cs kc).s = qq at *
    generalize (attrOf cs kc).m = mm at *
    cases nn with
    | false =>
      go_wp2_with fail
      go_meet
      exact ⟨rfl, hb⟩
    | true =>
      go_wp2_with fail
      with_reducible refine (HDG.out _).mono ?_
      rintro e w4 ⟨rfl, rfl⟩
      cases hd : digit c with
      | true =>
        go_wp2_with fail
        go_meet
        exact ⟨by simp [hd], hb⟩
      | false =>
        by_cases h28 : c = 28
        · have e1 : ((c : Int) != 28) = false := by simp; omega
          replace h28 := Lib.hid h28
          go_wp2_with fail
          go_meet
          exact ⟨by simp [hd, h28.out], hb⟩
        · have e1 : ((c : Int) != 28) = true := by simp; omega
          by_cases h30 : c = 30
          · have e2 : ((c : Int) != 30) = false := by simp; omega
            replace h30 := Lib.hid h30
            go_wp2_with fail
            go_meet
            exact ⟨by simp [hd, h28, h30.out], hb⟩
          · have e2 : ((c : Int) != 30) = true := by simp; omega
            go_wp2_with fail
            go_meet
            exact ⟨by simp [hd, h28, h30], hb⟩
  case rest =>
    obtain ⟨rfl, hb⟩ := hcut
    rw [HCD.out]
    have HK3 := kept_hid HK2 hb.out
    have X3 := Lib.hid (blk X2.out hb.out)
    have Z3 := Lib.hid (blk Z2.out hb.out)
    have K3 := kept_hid K2 hb.out
    have I3 := Lib.hid (I2.out.below hb.out)
    clear hb HK2 X2 Z2 K2 I2 HDG HOF HCD hfn
    obtain ⟨c0, c1, c2, c3, c4, c5⟩ := cells6 X3.out
    have hzw := there_lt Z3.out
    go_wp2_with fail
    with_reducible refine (HDN.out _ K3.out).mono ?_
    rintro e wd ⟨va, vc, rfl, ho, hb⟩
    have Zd := Lib.hid (blk Z3.out hb)
    have Kd := kept_hid K3 hb
    have HOd := Lib.hid (own_ge ho)
    have Od := Lib.hid (OwnCels.to ho)
    have HKZ := Lib.hid (show w.heap.size + 1 < wc.heap.size from hzw)
    clear c0 c1 c2 c3 c4 c5 hb ho
    obtain ⟨f0, f1, f2, f3, f4, f5⟩ := free6 Zd.out
    obtain ⟨z0, z1, z2, z3, z4, z5⟩ := cells6 Zd.out
    have SF := Lib.hid (over6 wd (w.heap.size + 1) _ _ _ _ _ _ _ (.int .i64 r) (.int .i64 q) (.slice va cs.length vc) (.int .i64 (kc : Int)) (.bool true) (.bool ins) Zd.out)
    go_wp2_with fail
    clear z0 z1 z2 z3 z4 z5 f0 f1 f2 f3 f4 f5
    generalize (((((wd.setCell _ _).setCell _ _).setCell _ _).setCell _ _).setCell _ _).setCell _ _ = w9 at *
    exact bodyPost_ret (v := .tuple #[.agg #[.int .i64 r, .int .i64 q, .slice va cs.length vc, .int .i64 (kc : Int), .bool true, .bool ins], .int .i64 9, .int .i64 (kc : Int)]) (results_cell_2 rfl _ _ _ (w.heap.size + 1) _ rfl (run_loadVar_row _ (w.heap.size + 1) 24 24 _ (0, 0) _ SF.out.1 Tryz.underlying24 rfl (by kernel_rfl)) (.int .i64 9) (.int .i64 (kc : Int)) rfl rfl) rfl ⟨va, vc, rfl, celsIn_away Od.out SF.out.2 (fun x hx => by have h1 := HOd.out x.block (by rw [hx]; rfl); have := HKZ.out; omega), below_grown Kd.out SF.out.2 (by omega)⟩
theorem modif_eta (s : S) (a : Nat) : modif s a = ⟨s.rows, s.cols, (modif s a).cs, s.cur, s.lk, s.ins⟩ := by
  obtain ⟨h1, h2, h3, h4, h5⟩ := modif_rest s a
  generalize modif s a = t at *
  obtain ⟨r, c, cs, cur, lk, ins⟩ := t
  simp only at h1 h2 h3 h4 h5
  subst h1 h2 h3 h4 h5
  rfl
def fv (cs : List C) (l : List Nat) (q : Nat) : Int := match firstK (fun i => (cs.getD (l.getD i 0) noC).c == 0) q (l.length - q) with
  | some j => (j : Int)
  | none => -1
theorem fv_end (cs : List C) (l : List Nat) : fv cs l l.length = -1 := by unfold fv; rw [Nat.sub_self]; rfl
theorem fv_zero (cs : List C) (l : List Nat) : fv cs l 0 = match free cs l with | some j => (j : Int) | none => -1 := rfl
theorem fv_succ (cs : List C) (l : List Nat) {q : Nat} (h : q < l.length) : fv cs l q = if (cs.getD (l.getD q 0) noC).c = 0 then (q : Int) else fv cs l (q + 1) := by
  unfold fv
  rw [show l.length - q = (l.length - (q + 1)) + 1 by omega]
  show (match (if ((cs.getD (l.getD q 0) noC).c == 0) = true then some q else firstK _ (q + 1) (l.length - (q + 1))) with | some j => (j : Int) | none => -1) = _
  by_cases hc : (cs.getD (l.getD q 0) noC).c = 0
  · rw [if_pos (by simpa using hc), if_pos hc]
  · rw [if_neg (by simpa using hc), if_neg hc]
set_option maxRecDepth 100000 in
set_option maxHeartbeats 8000000 in
theorem rt_10 (s : S) (ad : Option Addr) (k c kc : Nat) (w : World) (h : CelsIn w (.slice ad s.cs.length k) s.cs) (hl : s.cs.length < 10000) (hc : c < 256) (hk : kc < s.cs.length) (hcur : s.cur = (kc : Int)) (hlt : ltr c = true) (hlk : s.lk = false) (hop : open_ s.cs kc = true) (hcd : (((attrOf s.cs kc).n && !digit c) && (c != 28 && c != 30)) = false) (hin : s.ins = true) (hfr : free s.cs (line s.cs kc) = none) :
    Calls Tryz.prog 23 #[.agg #[.int .i64 s.rows, .int .i64 s.cols, .slice ad s.cs.length k, .int .i64 s.cur, .bool s.lk, .bool s.ins], .int .u8 (c : Int)] w fun e w' => ShownE w w' (deny s) 10 (kc : Int) e := by
  obtain ⟨r, q, cs, cur, lk, ins⟩ := s
  simp only at *
  subst hcur
  obtain ⟨_, _, _, _, _, _, ec⟩ := c_eta (cs.getD kc noC)
  obtain ⟨bA, oA, rfl, _⟩ := h.cells hk ec
  clear ec
  subst hlk
  subst hin
  have HB := Lib.hid (kept_trans (al_any w (.cells #[.int .i64 r, .int .i64 q, .slice (some ⟨bA, oA, none⟩) cs.length k, .int .i64 (kc : Int), .bool false, .bool true] 24)) (al_any _ (.cells #[.int .i64 0, .int .i64 0, .slice none 0 0, .int .i64 0, .bool false, .bool false] 24)))
  have HX := Lib.hid (heap_alloc2_old w (.cells #[.int .i64 r, .int .i64 q, .slice (some ⟨bA, oA, none⟩) cs.length k, .int .i64 (kc : Int), .bool false, .bool true] 24) (.cells #[.int .i64 0, .int .i64 0, .slice none 0 0, .int .i64 0, .bool false, .bool false] 24))
  have HZ := Lib.hid (heap_alloc2_new w (.cells #[.int .i64 r, .int .i64 q, .slice (some ⟨bA, oA, none⟩) cs.length k, .int .i64 (kc : Int), .bool false, .bool true] 24) (.cells #[.int .i64 0, .int .i64 0, .slice none 0 0, .int .i64 0, .bool false, .bool false] 24))
  have HI := Lib.hid (h.below HB.out)
  have HLT := Lib.hid fun W => rltr_any c W hc
  have HL := Lib.hid hl
  have HK := Lib.hid hk
  have HNE := Lib.hid (celsIn_lt h (Nat.lt_of_le_of_lt (Nat.zero_le _) hk))
  have HOP := Lib.hid fun W hb => ropen_any ⟨r, q, cs, (kc : Int), false, true⟩ (some ⟨bA, oA, none⟩) k kc W (HI.out.below hb) (by simp only; omega) (by simp only; omega) (by simp only; omega)
  have HDN := Lib.hid fun W (hb : Below w.heap.size w W) => rdeny_any ⟨r, q, cs, (kc : Int), false, true⟩ (some ⟨bA, oA, none⟩) k W (h.below hb) (by simp only; omega) (by simp only; omega)
  simp only [GaveA, deny] at HOP HDN
  have HOF := Lib.hid fun W hb => rof_any ⟨r, q, cs, (kc : Int), false, true⟩ (some ⟨bA, oA, none⟩) k kc W (HI.out.below hb) (by simp only; omega) (by simp only; omega) (by simp only; omega)
  have HDG := Lib.hid fun W => rdigit_any c W hc
  simp only at HOF
  rw [hop] at HOP
  have HCD := Lib.hid hcd
  have HMD := Lib.hid fun W (hb : Below w.heap.size w W) => rmodify_any ⟨r, q, cs, (kc : Int), false, true⟩ (some ⟨bA, oA, none⟩) k kc W (h.below hb) (by simp only; omega) (by simp only; omega) (by simp only; omega)
  rw [modif_eta] at HMD
  have HML := Lib.hid (modif_length ⟨r, q, cs, (kc : Int), false, true⟩ kc)
  simp only [GaveA] at HMD HML
  rw [HML.out] at HMD
  have HLI := Lib.hid fun W (hb : Below w.heap.size w W) => rline_any ⟨r, q, cs, (kc : Int), false, true⟩ (some ⟨bA, oA, none⟩) k kc W (h.below hb) (by simp only; omega) (by simp only; omega) (by simp only; omega)
  simp only at HLI
  have HLN := Lib.hid (lineLen_pos hk hop)
  have HLL := Lib.hid (line_length cs kc)
  have HLX := Lib.hid (fun x (hx : x ∈ line cs kc) => line_lt (cs := cs) (by omega) hx)
  have HFR := Lib.hid hfr
  clear h hl hc hk hop hcd hfr
  go_enter Tryz.func23, Tryz.ntmps23
  go_upto_region 1 with (fail)
  generalize (w.alloc _).alloc _ = w1 at *
  go_wp2_with fail
  with_reducible refine (HLT.out _).mono ?_
  rintro e wx ⟨rfl, rfl⟩
  rw [hlt]
  clear hlt HLT
  obtain ⟨c0, c1, c2, c3, c4, c5⟩ := cells6 HX.out
  go_wp2_with fail
  with_reducible refine (HOP.out _ (Below.refl _ _)).mono ?_
  rintro e w2 ⟨rfl, hb⟩
  clear c0 c1 c2 c3 c4 c5 HOP
  have HK2 := Lib.hid hb
  have X2 := Lib.hid (blk HX.out hb)
  have Z2 := Lib.hid (blk HZ.out hb)
  have K2 := kept_hid HB hb
  have I2 := Lib.hid (HI.out.below hb)
  clear hb HX HZ HB HI
  have hfn := field_n (attrOf cs kc).p (attrOf cs kc).n (attrOf cs kc).s (attrOf cs kc).m
  go_upto_region 8 with (fail)
  go_cut [48] from 32 to 47 (fun v wx => v = .bool (((attrOf cs kc).n && !digit c) && (c != 28 && c != 30)) ∧ Hid (Below w2.heap.size w2 wx))
  case first =>
    obtain ⟨c0, c1, c2, c3, c4, c5⟩ := cells6 X2.out
    go_wp2_with fail
    with_reducible refine (HOF.out _ HK2.out).mono ?_
    rintro e w3 ⟨rfl, hb⟩
    replace hb := Lib.hid hb
    clear c0 c1 c2 c3 c4 c5 HOF HCD
    generalize (attrOf cs kc).n = nn at *
    generalize (attrOf cs kc).p = pp at *
    generalize (attrOf cs kc).s = qq at *
    generalize (attrOf cs kc).m = mm at *
    cases nn with
    | false =>
      go_wp2_with fail
      go_meet
      exact ⟨rfl, hb⟩
    | true =>
      go_wp2_with fail
      with_reducible refine (HDG.out _).mono ?_
      rintro e w4 ⟨rfl, rfl⟩
      cases hd : digit c with
      | true =>
        go_wp2_with fail
        go_meet
        exact ⟨by simp [hd], hb⟩
      | false =>
        by_cases h28 : c = 28
        · have e1 : ((c : Int) != 28) = false := by simp; omega
          replace h28 := Lib.hid h28
          go_wp2_with fail
          go_meet
          exact ⟨by simp [hd, h28.out], hb⟩
        · have e1 : ((c : Int) != 28) = true := by simp; omega
          by_cases h30 : c = 30
          · have e2 : ((c : Int) != 30) = false := by simp; omega
            replace h30 := Lib.hid h30
            go_wp2_with fail
            go_meet
            exact ⟨by simp [hd, h28, h30.out], hb⟩
          · have e2 : ((c : Int) != 30) = true := by simp; omega
            go_wp2_with fail
            go_meet
            exact ⟨by simp [hd, h28, h30], hb⟩
  case rest =>
    obtain ⟨rfl, hb⟩ := hcut
    rw [HCD.out]
    have HK3 := kept_hid HK2 hb.out
    have X3 := Lib.hid (blk X2.out hb.out)
    have Z3 := Lib.hid (blk Z2.out hb.out)
    have K3 := kept_hid K2 hb.out
    have I3 := Lib.hid (I2.out.below hb.out)
    clear hb HK2 X2 Z2 K2 I2 HDG HOF HCD hfn
    obtain ⟨c0, c1, c2, c3, c4, c5⟩ := cells6 X3.out
    go_wp2_with fail
    with_reducible refine (HMD.out _ K3.out).mono ?_
    rintro e w4 ⟨va, vc, rfl, ho, hb⟩
    clear c0 c1 c2 c3 c4 c5 HMD
    generalize hmc : (modif ⟨r, q, cs, (kc : Int), false, true⟩ kc).cs = mc at ho HML
    replace hmc := Lib.hid hmc
    obtain ⟨g, vd, e1, hg1, hg2, _⟩ := OwnCels.at ho (by rw [HML.out]; have := HK.out; omega)
    injection e1 with e1 e2 e3
    subst e1
    clear e2 e3
    have hz0 := there_lt Z3.out
    have HA2 := al_any w4 (.cells #[.int .i64 r, .int .i64 q, .slice (some ⟨g, 0, none⟩) cs.length vc, .int .i64 (kc : Int), .bool false, .bool true] 24)
    have L5 := Lib.hid (heap_alloc_new w4 (.cells #[.int .i64 r, .int .i64 q, .slice (some ⟨g, 0, none⟩) cs.length vc, .int .i64 (kc : Int), .bool false, .bool true] 24))
    have X5 := Lib.hid (blk X3.out (kept_trans hb HA2))
    have Z5 := Lib.hid (blk Z3.out (kept_trans hb HA2))
    have O5 := Lib.hid ((OwnCels.below ho HA2).mono K3.out.size)
    have K5 := kept_hid K3 (kept_trans hb HA2)
    have I5 := Lib.hid (I3.out.below (kept_trans hb HA2))
    have hsz := hb.size
    clear HA2 ho hb X3 Z3 K3 I3 HK3
    go_upto_region 11 with (fail)
    have HG1 := Lib.hid (show w.heap.size + 1 < g from by omega)
    have HG2 := Lib.hid hg2
    have HG3 := Lib.hid (show w.heap.size + 1 < w4.heap.size from by omega)
    clear hg1 hg2 hz0 hsz
    generalize w4.alloc _ = w5 at *
    generalize w4.heap.size = G at *
    obtain ⟨c0, c1, c2, c3, c4, c5⟩ := cells6 X5.out
    go_wp2_with fail
    with_reducible refine (HLI.out _ K5.out).mono ?_
    rintro e w6 ⟨vl, rfl, hl6, hb⟩
    obtain ⟨al, kl, rfl⟩ := hl6.form
    have L6 := Lib.hid (blk L5.out hb)
    have X6 := Lib.hid (blk X5.out hb)
    have Z6 := Lib.hid (blk Z5.out hb)
    have O6 := Lib.hid (O5.out.below hb)
    have K6 := kept_hid K5 hb
    have I6 := Lib.hid (I5.out.below hb)
    obtain ⟨gl, hgl0, _⟩ := hl6.cell (i := 0) (by rw [HLL.out]; exact HLN.out.1)
    subst hgl0
    have R6 := Lib.hid hl6
    have HVB := Lib.hid (show w5.heap.size ≤ gl from (own_blocks hl6 _ rfl).1)
    have HG5 := Lib.hid (show G < w5.heap.size from there_lt L5.out)
    clear c0 c1 c2 c3 c4 c5 hl6 hb HLI L5 X5 Z5 O5 K5 I5
    generalize hl : line cs kc = l at *
    replace hl := Lib.hid hl
    have hn1 : IntKind.i64.wrap ((l.length : Int) - 1) = (l.length : Int) - 1 := by
      have := HLL.out
      have := HLN.out
      have := HL.out
      rw [IntWalk.i64_in] <;> omega
    go_wp2_with fail
    go_loopg [10, 11] (l.length + 1) (fun mm fr ii wr => ∃ p : Nat, p ≤ l.length ∧ mm = p + 1 ∧ ii = .int .i64 ((p : Int) - 1) ∧ fr = .int .i64 (fv cs l p) ∧ Hid (wr.heap[G]? = some (.cells #[.int .i64 r, .int .i64 q, .slice (some ⟨g, 0, none⟩) cs.length vc, .int .i64 (kc : Int), .bool false, .bool true] 24 (0, 0))) ∧ Hid (OwnCels wr w.heap.size (.slice (some ⟨g, 0, none⟩) cs.length vc) mc) ∧ Hid (wr.heap[w.heap.size]? = some (.cells #[.int .i64 r, .int .i64 q, .slice (some ⟨bA, oA, none⟩) cs.length k, .int .i64 (kc : Int), .bool false, .bool true] 24 (0, 0))) ∧ Hid (wr.heap[w.heap.size + 1]? = some (.cells #[.int .i64 0, .int .i64 0, .slice none 0 0, .int .i64 0, .bool false, .bool false] 24 (0, 0))) ∧ Hid (Below w.heap.size w wr) ∧ Hid (CelsIn wr (.slice (some ⟨bA, oA, none⟩) cs.length k) cs) ∧ Hid (OwnInts wr w5.heap.size (.slice (some ⟨gl, 0, none⟩) l.length kl) l))
    case atStart => exact ⟨l.length, Nat.le_refl _, rfl, rfl, by rw [fv_end], L6, O6, X6, Z6, K6, I6, R6⟩
    case round =>
      obtain ⟨p, hp, rfl, rfl, rfl, L7, O7, X7, Z7, K7, I7, R7⟩ := hrel
      clear L6 O6 X6 Z6 K6 I6 R6
      cases p with
      | succ p =>
        have FV := Lib.hid (fv_succ cs l (q := p) (by omega))
        have hpl : p < l.length := by omega
        have HXL := Lib.hid (HLX.out _ (show l.getD p 0 ∈ l by rw [List.getD_eq_getElem?_getD, List.getElem?_eq_getElem hpl]; exact List.getElem_mem hpl))
        obtain ⟨g', hg', _, hgl, hcell, _⟩ := R7.out.cell hpl
        rw [Nat.zero_add] at hcell
        injection hg' with hg'
        injection hg' with hg' _ _
        subst hg'
        generalize l.getD p 0 = x at *
        obtain ⟨yf, yp, yn, ys, ym, yc, ey⟩ := c_eta (cs.getD x noC)
        obtain ⟨b1, o1, eo, g0, g1, g2, g3, g4, g5⟩ := I7.out.cells HXL.out ey
        injection eo with eo
        injection eo with eo1 eo2
        subst eo1 eo2
        rw [ey] at FV
        rw [show (((p + 1 : Nat) : Int) - 1) = (p : Int) by omega]
        have ed : IntKind.i64.wrap ((p : Int) - 1) = (p : Int) - 1 := by
          have := HLL.out
          have := HLN.out
          have := HL.out
          rw [IntWalk.i64_in] <;> omega
        have hi0 : (0 : Int) ≤ (p : Int) := by omega
        have hi1 : (p : Int) < (l.length : Int) := by omega
        have hj0 : (0 : Int) ≤ (x : Int) := by omega
        have hj1 : (x : Int) < (cs.length : Int) := by have := HXL.out; omega
        obtain ⟨c0, c1, c2, c3, c4, c5⟩ := cells6 X7.out
        have HD := (Below.refl wr.heap.size wr).drew
        have L8 := Lib.hid (blk L7.out HD)
        have X8 := Lib.hid (blk X7.out HD)
        have Z8 := Lib.hid (blk Z7.out HD)
        have O8 := Lib.hid (O7.out.below HD)
        have K8 := kept_hid K7 HD
        have I8 := Lib.hid (I7.out.below HD)
        have R8 := Lib.hid (R7.out.below HD)
        clear HD L7 X7 Z7 O7 K7 I7 R7 ey
        by_cases hy0 : yc = 0
        · have FW := Lib.hid (show fv cs l p = (p : Int) by rw [FV.out, if_pos hy0])
          have e0 : ((yc : Int) == 0) = true := by simp; omega
          clear FV hy0
          go_upto_region 17 with (fail)
          go_region
          clear c0 c1 c2 c3 c4 c5 g0 g1 g2 g3 g4 g5 hcell
          generalize wr.drew = wd at *
          go_wp2_with fail
          go_roundg (p + 1)
          case measure => omega
          case rel => exact ⟨p, by omega, rfl, rfl, by rw [FW.out], L8, O8, X8, Z8, K8, I8, R8⟩
        · have FW := Lib.hid (show fv cs l p = fv cs l (p + 1) by rw [FV.out, if_neg hy0])
          have e0 : ((yc : Int) == 0) = false := by simp; omega
          clear FV hy0
          go_upto_region 17 with (fail)
          go_region
          clear c0 c1 c2 c3 c4 c5 g0 g1 g2 g3 g4 g5 hcell
          generalize wr.drew = wd at *
          go_wp2_with fail
          go_roundg (p + 1)
          case measure => omega
          case rel => exact ⟨p, by omega, rfl, rfl, by rw [FW.out], L8, O8, X8, Z8, K8, I8, R8⟩
      | zero =>
        rw [show (((0 : Nat) : Int) - 1) = -1 from rfl]
        have FV := Lib.hid (show fv cs l 0 = -1 by rw [fv_zero, HFR.out])
        rw [FV.out]
        obtain ⟨c0, c1, c2, c3, c4, c5⟩ := cells6 X7.out
        have hzw := there_lt Z7.out
        go_wp2_with fail
        with_reducible refine (HDN.out _ K7.out).mono ?_
        rintro e wd ⟨va, vc, rfl, ho, hb⟩
        have Zd := Lib.hid (blk Z7.out hb)
        have Kd := kept_hid K7 hb
        have HOd := Lib.hid (own_ge ho)
        have Od := Lib.hid (OwnCels.to ho)
        have HKZ := Lib.hid (show w.heap.size + 1 < wr.heap.size from hzw)
        clear c0 c1 c2 c3 c4 c5 hb ho
        obtain ⟨f0, f1, f2, f3, f4, f5⟩ := free6 Zd.out
        obtain ⟨z0, z1, z2, z3, z4, z5⟩ := cells6 Zd.out
        have SF := Lib.hid (over6 wd (w.heap.size + 1) _ _ _ _ _ _ _ (.int .i64 r) (.int .i64 q) (.slice va cs.length vc) (.int .i64 (kc : Int)) (.bool true) (.bool true) Zd.out)
        go_wp2_with fail
        clear z0 z1 z2 z3 z4 z5 f0 f1 f2 f3 f4 f5
        generalize (((((wd.setCell _ _).setCell _ _).setCell _ _).setCell _ _).setCell _ _).setCell _ _ = w9 at *
        exact bodyPost_ret (v := .tuple #[.agg #[.int .i64 r, .int .i64 q, .slice va cs.length vc, .int .i64 (kc : Int), .bool true, .bool true], .int .i64 10, .int .i64 (kc : Int)]) (results_cell_2 rfl _ _ _ (w.heap.size + 1) _ rfl (run_loadVar_row _ (w.heap.size + 1) 24 24 _ (0, 0) _ SF.out.1 Tryz.underlying24 rfl (by kernel_rfl)) (.int .i64 10) (.int .i64 (kc : Int)) rfl rfl) rfl ⟨va, vc, rfl, celsIn_away Od.out SF.out.2 (fun x hx => by have h1 := HOd.out x.block (by rw [hx]; rfl); have := HKZ.out; omega), below_grown Kd.out SF.out.2 (by omega)⟩
end Edt
end Go.Proofs.YtpgbnnnfeaodmaaGreatDoor
/- The document's Type of layer 14. Written by tools/gen_edt_rtype.py. -/
namespace Go.Proofs.YtpgbnnnfeaodmaaGreatDoor
open Go.RowKit Sha Six Apd Cut Err Att Grd Fld Scr
set_option linter.unusedVariables false
set_option linter.unusedSimpArgs false
namespace Edt
set_option maxRecDepth 100000 in
set_option maxHeartbeats 8000000 in
theorem rt_ok (s : S) (ad : Option Addr) (k c kc : Nat) (w : World) (h : CelsIn w (.slice ad s.cs.length k) s.cs) (hl : s.cs.length < 10000) (hc : c < 256) (hk : kc < s.cs.length) (hcur : s.cur = (kc : Int)) (hlt : ltr c = true) (hlk : s.lk = false) (hop : open_ s.cs kc = true) (hcd : (((attrOf s.cs kc).n && !digit c) && (c != 28 && c != 30)) = false) (hfr : s.ins = true → ∃ j, free s.cs (line s.cs kc) = some j) :
    Calls Tryz.prog 23 #[.agg #[.int .i64 s.rows, .int .i64 s.cols, .slice ad s.cs.length k, .int .i64 s.cur, .bool s.lk, .bool s.ins], .int .u8 (c : Int)] w fun e w' => ShownE w w' (typed s kc c) 0 (-1) e := by
  obtain ⟨r, q, cs, cur, lk, ins⟩ := s
  simp only at *
  subst hcur
  obtain ⟨_, _, _, _, _, _, ec⟩ := c_eta (cs.getD kc noC)
  obtain ⟨bA, oA, rfl, _⟩ := h.cells hk ec
  clear ec
  subst hlk
  have HB := Lib.hid (kept_trans (al_any w (.cells #[.int .i64 r, .int .i64 q, .slice (some ⟨bA, oA, none⟩) cs.length k, .int .i64 (kc : Int), .bool false, .bool ins] 24)) (al_any _ (.cells #[.int .i64 0, .int .i64 0, .slice none 0 0, .int .i64 0, .bool false, .bool false] 24)))
  have HX := Lib.hid (heap_alloc2_old w (.cells #[.int .i64 r, .int .i64 q, .slice (some ⟨bA, oA, none⟩) cs.length k, .int .i64 (kc : Int), .bool false, .bool ins] 24) (.cells #[.int .i64 0, .int .i64 0, .slice none 0 0, .int .i64 0, .bool false, .bool false] 24))
  have HZ := Lib.hid (heap_alloc2_new w (.cells #[.int .i64 r, .int .i64 q, .slice (some ⟨bA, oA, none⟩) cs.length k, .int .i64 (kc : Int), .bool false, .bool ins] 24) (.cells #[.int .i64 0, .int .i64 0, .slice none 0 0, .int .i64 0, .bool false, .bool false] 24))
  have HI := Lib.hid (h.below HB.out)
  have HLT := Lib.hid fun W => rltr_any c W hc
  have HL := Lib.hid hl
  have HK := Lib.hid hk
  have HNE := Lib.hid (celsIn_lt h (Nat.lt_of_le_of_lt (Nat.zero_le _) hk))
  have HOP := Lib.hid fun W hb => ropen_any ⟨r, q, cs, (kc : Int), false, ins⟩ (some ⟨bA, oA, none⟩) k kc W (HI.out.below hb) (by simp only; omega) (by simp only; omega) (by simp only; omega)
  have HDN := Lib.hid fun W (hb : Below w.heap.size w W) => rdeny_any ⟨r, q, cs, (kc : Int), false, ins⟩ (some ⟨bA, oA, none⟩) k W (h.below hb) (by simp only; omega) (by simp only; omega)
  simp only [GaveA, deny] at HOP HDN
  have HOF := Lib.hid fun W hb => rof_any ⟨r, q, cs, (kc : Int), false, ins⟩ (some ⟨bA, oA, none⟩) k kc W (HI.out.below hb) (by simp only; omega) (by simp only; omega) (by simp only; omega)
  have HDG := Lib.hid fun W => rdigit_any c W hc
  simp only at HOF
  rw [hop] at HOP
  have HCD := Lib.hid hcd
  have HMD := Lib.hid fun W (hb : Below w.heap.size w W) => rmodify_any ⟨r, q, cs, (kc : Int), false, ins⟩ (some ⟨bA, oA, none⟩) k kc W (h.below hb) (by simp only; omega) (by simp only; omega) (by simp only; omega)
  rw [modif_eta] at HMD
  have HML := Lib.hid (modif_length ⟨r, q, cs, (kc : Int), false, ins⟩ kc)
  simp only [GaveA] at HMD HML
  rw [HML.out] at HMD
  have HLI := Lib.hid fun W (hb : Below w.heap.size w W) => rline_any ⟨r, q, cs, (kc : Int), false, ins⟩ (some ⟨bA, oA, none⟩) k kc W (h.below hb) (by simp only; omega) (by simp only; omega) (by simp only; omega)
  simp only at HLI
  have HLN := Lib.hid (lineLen_pos hk hop)
  have HLL := Lib.hid (line_length cs kc)
  have HLX := Lib.hid (fun x (hx : x ∈ line cs kc) => line_lt (cs := cs) (by omega) hx)
  have HFR := Lib.hid hfr
  have HLD := Lib.hid (show laid ⟨r, q, cs, (kc : Int), false, ins⟩ kc c = ((if ins = true then shifted cs (line cs kc) ((free cs (line cs kc)).getD 0) (modif ⟨r, q, cs, (kc : Int), false, ins⟩ kc).cs else (modif ⟨r, q, cs, (kc : Int), false, ins⟩ kc).cs)).set kc { ((if ins = true then shifted cs (line cs kc) ((free cs (line cs kc)).getD 0) (modif ⟨r, q, cs, (kc : Int), false, ins⟩ kc).cs else (modif ⟨r, q, cs, (kc : Int), false, ins⟩ kc).cs)).getD kc noC with c := c } from rfl)
  clear h hl hc hk hop hcd hfr
  go_enter Tryz.func23, Tryz.ntmps23
  go_upto_region 1 with (fail)
  generalize (w.alloc _).alloc _ = w1 at *
  go_wp2_with fail
  with_reducible refine (HLT.out _).mono ?_
  rintro e wx ⟨rfl, rfl⟩
  rw [hlt]
  clear hlt HLT
  obtain ⟨c0, c1, c2, c3, c4, c5⟩ := cells6 HX.out
  go_wp2_with fail
  with_reducible refine (HOP.out _ (Below.refl _ _)).mono ?_
  rintro e w2 ⟨rfl, hb⟩
  clear c0 c1 c2 c3 c4 c5 HOP
  have HK2 := Lib.hid hb
  have X2 := Lib.hid (blk HX.out hb)
  have Z2 := Lib.hid (blk HZ.out hb)
  have K2 := kept_hid HB hb
  have I2 := Lib.hid (HI.out.below hb)
  clear hb HX HZ HB HI
  have hfn := field_n (attrOf cs kc).p (attrOf cs kc).n (attrOf cs kc).s (attrOf cs kc).m
  go_upto_region 8 with (fail)
  go_cut [48] from 32 to 47 (fun v wx => v = .bool (((attrOf cs kc).n && !digit c) && (c != 28 && c != 30)) ∧ Hid (Below w2.heap.size w2 wx))
  case first =>
    obtain ⟨c0, c1, c2, c3, c4, c5⟩ := cells6 X2.out
    go_wp2_with fail
    with_reducible refine (HOF.out _ HK2.out).mono ?_
    rintro e w3 ⟨rfl, hb⟩
    replace hb := Lib.hid hb
    clear c0 c1 c2 c3 c4 c5 HOF HCD
    generalize (attrOf cs kc).n = nn at *
    generalize (attrOf cs kc).p = pp at *
    generalize (attrOf cs kc).s = qq at *
    generalize (attrOf cs kc).m = mm at *
    cases nn with
    | false =>
      go_wp2_with fail
      go_meet
      exact ⟨rfl, hb⟩
    | true =>
      go_wp2_with fail
      with_reducible refine (HDG.out _).mono ?_
      rintro e w4 ⟨rfl, rfl⟩
      cases hd : digit c with
      | true =>
        go_wp2_with fail
        go_meet
        exact ⟨by simp [hd], hb⟩
      | false =>
        by_cases h28 : c = 28
        · have e1 : ((c : Int) != 28) = false := by simp; omega
          replace h28 := Lib.hid h28
          go_wp2_with fail
          go_meet
          exact ⟨by simp [hd, h28.out], hb⟩
        · have e1 : ((c : Int) != 28) = true := by simp; omega
          by_cases h30 : c = 30
          · have e2 : ((c : Int) != 30) = false := by simp; omega
            replace h30 := Lib.hid h30
            go_wp2_with fail
            go_meet
            exact ⟨by simp [hd, h28, h30.out], hb⟩
          · have e2 : ((c : Int) != 30) = true := by simp; omega
            go_wp2_with fail
            go_meet
            exact ⟨by simp [hd, h28, h30], hb⟩
  case rest =>
    obtain ⟨rfl, hb⟩ := hcut
    rw [HCD.out]
    have HK3 := kept_hid HK2 hb.out
    have X3 := Lib.hid (blk X2.out hb.out)
    have Z3 := Lib.hid (blk Z2.out hb.out)
    have K3 := kept_hid K2 hb.out
    have I3 := Lib.hid (I2.out.below hb.out)
    clear hb HK2 X2 Z2 K2 I2 HDG HOF HCD hfn
    obtain ⟨c0, c1, c2, c3, c4, c5⟩ := cells6 X3.out
    go_wp2_with fail
    with_reducible refine (HMD.out _ K3.out).mono ?_
    rintro e w4 ⟨va, vc, rfl, ho, hb⟩
    clear c0 c1 c2 c3 c4 c5 HMD
    generalize hmc : (modif ⟨r, q, cs, (kc : Int), false, ins⟩ kc).cs = mc at ho HML
    replace hmc := Lib.hid hmc
    obtain ⟨g, vd, e1, hg1, hg2, _⟩ := OwnCels.at ho (by rw [HML.out]; have := HK.out; omega)
    injection e1 with e1 e2 e3
    subst e1
    clear e2 e3
    have hz0 := there_lt Z3.out
    have HA2 := al_any w4 (.cells #[.int .i64 r, .int .i64 q, .slice (some ⟨g, 0, none⟩) cs.length vc, .int .i64 (kc : Int), .bool false, .bool ins] 24)
    have L5 := Lib.hid (heap_alloc_new w4 (.cells #[.int .i64 r, .int .i64 q, .slice (some ⟨g, 0, none⟩) cs.length vc, .int .i64 (kc : Int), .bool false, .bool ins] 24))
    have X5 := Lib.hid (blk X3.out (kept_trans hb HA2))
    have Z5 := Lib.hid (blk Z3.out (kept_trans hb HA2))
    have O5 := Lib.hid ((OwnCels.below ho HA2).mono K3.out.size)
    have K5 := kept_hid K3 (kept_trans hb HA2)
    have I5 := Lib.hid (I3.out.below (kept_trans hb HA2))
    have hsz := hb.size
    clear HA2 ho hb X3 Z3 K3 I3 HK3
    go_upto_region 11 with (fail)
    have HG1 := Lib.hid (show w.heap.size + 1 < g from by omega)
    have HG2 := Lib.hid hg2
    have HG3 := Lib.hid (show w.heap.size + 1 < w4.heap.size from by omega)
    clear hg1 hg2 hz0 hsz
    generalize w4.alloc _ = w5 at *
    generalize w4.heap.size = G at *
    obtain ⟨c0, c1, c2, c3, c4, c5⟩ := cells6 X5.out
    go_upto_if 56 with (fail)
    clear c0 c1 c2 c3 c4 c5
    go_cut [9, 10, 11, 12] from 57 to 105 (fun va vb vd ve wx => Hid (wx.heap[G]? = some (.cells #[.int .i64 r, .int .i64 q, .slice (some ⟨g, 0, none⟩) cs.length vc, .int .i64 (kc : Int), .bool false, .bool ins] 24 (0, 0))) ∧ Hid (OwnCels wx w.heap.size (.slice (some ⟨g, 0, none⟩) cs.length vc) (if ins = true then shifted cs (line cs kc) ((free cs (line cs kc)).getD 0) mc else mc)) ∧ Hid (wx.heap[w.heap.size]? = some (.cells #[.int .i64 r, .int .i64 q, .slice (some ⟨bA, oA, none⟩) cs.length k, .int .i64 (kc : Int), .bool false, .bool ins] 24 (0, 0))) ∧ Hid (wx.heap[w.heap.size + 1]? = some (.cells #[.int .i64 0, .int .i64 0, .slice none 0 0, .int .i64 0, .bool false, .bool false] 24 (0, 0))) ∧ Hid (Below w.heap.size w wx) ∧ Hid (CelsIn wx (.slice (some ⟨bA, oA, none⟩) cs.length k) cs))
    case first =>
      cases ins with
      | false =>
        go_wp2_with fail
        go_meet
        exact ⟨L5, O5, X5, Z5, K5, I5⟩
      | true =>
        obtain ⟨j, hj⟩ := HFR.out rfl
        have HJ := Lib.hid hj
        clear hj HFR HLD
        obtain ⟨c0, c1, c2, c3, c4, c5⟩ := cells6 X5.out
        go_wp2_with fail
        with_reducible refine (HLI.out _ K5.out).mono ?_
        rintro e w6 ⟨vl, rfl, hl6, hb⟩
        obtain ⟨al, kl, rfl⟩ := hl6.form
        have L6 := Lib.hid (blk L5.out hb)
        have X6 := Lib.hid (blk X5.out hb)
        have Z6 := Lib.hid (blk Z5.out hb)
        have O6 := Lib.hid (O5.out.below hb)
        have K6 := kept_hid K5 hb
        have I6 := Lib.hid (I5.out.below hb)
        obtain ⟨gl, hgl0, _⟩ := hl6.cell (i := 0) (by rw [HLL.out]; exact HLN.out.1)
        subst hgl0
        have R6 := Lib.hid hl6
        have HVB := Lib.hid (show w5.heap.size ≤ gl from (own_blocks hl6 _ rfl).1)
        have HG5 := Lib.hid (show G < w5.heap.size from there_lt L5.out)
        clear c0 c1 c2 c3 c4 c5 hl6 hb HLI L5 X5 Z5 O5 K5 I5
        generalize hl : line cs kc = l at *
        replace hl := Lib.hid hl
        have hn1 : IntKind.i64.wrap ((l.length : Int) - 1) = (l.length : Int) - 1 := by
          have := HLL.out
          have := HLN.out
          have := HL.out
          rw [IntWalk.i64_in] <;> omega
        go_wp2_with fail
        go_loopg [10, 11] (l.length + 1) (fun mm fr ii wr => ∃ p : Nat, p ≤ l.length ∧ mm = p + 1 ∧ ii = .int .i64 ((p : Int) - 1) ∧ fr = .int .i64 (fv cs l p) ∧ Hid (wr.heap[G]? = some (.cells #[.int .i64 r, .int .i64 q, .slice (some ⟨g, 0, none⟩) cs.length vc, .int .i64 (kc : Int), .bool false, .bool true] 24 (0, 0))) ∧ Hid (OwnCels wr w.heap.size (.slice (some ⟨g, 0, none⟩) cs.length vc) mc) ∧ Hid (wr.heap[w.heap.size]? = some (.cells #[.int .i64 r, .int .i64 q, .slice (some ⟨bA, oA, none⟩) cs.length k, .int .i64 (kc : Int), .bool false, .bool true] 24 (0, 0))) ∧ Hid (wr.heap[w.heap.size + 1]? = some (.cells #[.int .i64 0, .int .i64 0, .slice none 0 0, .int .i64 0, .bool false, .bool false] 24 (0, 0))) ∧ Hid (Below w.heap.size w wr) ∧ Hid (CelsIn wr (.slice (some ⟨bA, oA, none⟩) cs.length k) cs) ∧ Hid (OwnInts wr w5.heap.size (.slice (some ⟨gl, 0, none⟩) l.length kl) l))
        case atStart => exact ⟨l.length, Nat.le_refl _, rfl, rfl, by rw [fv_end], L6, O6, X6, Z6, K6, I6, R6⟩
        case round =>
          obtain ⟨p, hp, rfl, rfl, rfl, L7, O7, X7, Z7, K7, I7, R7⟩ := hrel
          clear L6 O6 X6 Z6 K6 I6 R6
          cases p with
          | succ p =>
            have FV := Lib.hid (fv_succ cs l (q := p) (by omega))
            have hpl : p < l.length := by omega
            have HXL := Lib.hid (HLX.out _ (show l.getD p 0 ∈ l by rw [List.getD_eq_getElem?_getD, List.getElem?_eq_getElem hpl]; exact List.getElem_mem hpl))
            obtain ⟨g', hg', _, hgl, hcell, _⟩ := R7.out.cell hpl
            rw [Nat.zero_add] at hcell
            injection hg' with hg'
            injection hg' with hg' _ _
            subst hg'
            generalize l.getD p 0 = x at *
            obtain ⟨yf, yp, yn, ys, ym, yc, ey⟩ := c_eta (cs.getD x noC)
            obtain ⟨b1, o1, eo, g0, g1, g2, g3, g4, g5⟩ := I7.out.cells HXL.out ey
            injection eo with eo
            injection eo with eo1 eo2
            subst eo1 eo2
            rw [ey] at FV
            rw [show (((p + 1 : Nat) : Int) - 1) = (p : Int) by omega]
            have ed : IntKind.i64.wrap ((p : Int) - 1) = (p : Int) - 1 := by
              have := HLL.out
              have := HLN.out
              have := HL.out
              rw [IntWalk.i64_in] <;> omega
            have hi0 : (0 : Int) ≤ (p : Int) := by omega
            have hi1 : (p : Int) < (l.length : Int) := by omega
            have hj0 : (0 : Int) ≤ (x : Int) := by omega
            have hj1 : (x : Int) < (cs.length : Int) := by have := HXL.out; omega
            obtain ⟨c0, c1, c2, c3, c4, c5⟩ := cells6 X7.out
            have HD := (Below.refl wr.heap.size wr).drew
            have L8 := Lib.hid (blk L7.out HD)
            have X8 := Lib.hid (blk X7.out HD)
            have Z8 := Lib.hid (blk Z7.out HD)
            have O8 := Lib.hid (O7.out.below HD)
            have K8 := kept_hid K7 HD
            have I8 := Lib.hid (I7.out.below HD)
            have R8 := Lib.hid (R7.out.below HD)
            clear HD L7 X7 Z7 O7 K7 I7 R7 ey
            by_cases hy0 : yc = 0
            · have FW := Lib.hid (show fv cs l p = (p : Int) by rw [FV.out, if_pos hy0])
              have e0 : ((yc : Int) == 0) = true := by simp; omega
              clear FV hy0
              go_upto_region 17 with (fail)
              go_region
              clear c0 c1 c2 c3 c4 c5 g0 g1 g2 g3 g4 g5 hcell
              generalize wr.drew = wd at *
              go_wp2_with fail
              go_roundg (p + 1)
              case measure => omega
              case rel => exact ⟨p, by omega, rfl, rfl, by rw [FW.out], L8, O8, X8, Z8, K8, I8, R8⟩
            · have FW := Lib.hid (show fv cs l p = fv cs l (p + 1) by rw [FV.out, if_neg hy0])
              have e0 : ((yc : Int) == 0) = false := by simp; omega
              clear FV hy0
              go_upto_region 17 with (fail)
              go_region
              clear c0 c1 c2 c3 c4 c5 g0 g1 g2 g3 g4 g5 hcell
              generalize wr.drew = wd at *
              go_wp2_with fail
              go_roundg (p + 1)
              case measure => omega
              case rel => exact ⟨p, by omega, rfl, rfl, by rw [FW.out], L8, O8, X8, Z8, K8, I8, R8⟩
          | zero =>
            rw [show (((0 : Nat) : Int) - 1) = -1 from rfl]
            have FV := Lib.hid (show fv cs l 0 = (j : Int) by rw [fv_zero, HJ.out])
            rw [FV.out]
            have HJL := Lib.hid (free_some HJ.out).1
            have hn0 : ¬ (j : Int) < 0 := by omega
            clear FV
            obtain ⟨wo, rfl⟩ : ∃ wo : World, wo = wr := ⟨_, rfl⟩
            go_wp2_with fail
            go_loopg [12] (j + 1) (fun mm ii wr => ∃ z : Nat, 1 ≤ z ∧ z ≤ j + 1 ∧ mm = j + 2 - z ∧ ii = .int .i64 (z : Int) ∧ Hid (wr.heap[G]? = some (.cells #[.int .i64 r, .int .i64 q, .slice (some ⟨g, 0, none⟩) cs.length vc, .int .i64 (kc : Int), .bool false, .bool true] 24 (0, 0))) ∧ Hid (OwnCels wr w.heap.size (.slice (some ⟨g, 0, none⟩) cs.length vc) (shifted cs l (z - 1) mc)) ∧ Hid (wr.heap[w.heap.size]? = some (.cells #[.int .i64 r, .int .i64 q, .slice (some ⟨bA, oA, none⟩) cs.length k, .int .i64 (kc : Int), .bool false, .bool true] 24 (0, 0))) ∧ Hid (wr.heap[w.heap.size + 1]? = some (.cells #[.int .i64 0, .int .i64 0, .slice none 0 0, .int .i64 0, .bool false, .bool false] 24 (0, 0))) ∧ Hid (Below w.heap.size w wr) ∧ Hid (CelsIn wr (.slice (some ⟨bA, oA, none⟩) cs.length k) cs) ∧ Hid (OwnInts wr w5.heap.size (.slice (some ⟨gl, 0, none⟩) l.length kl) l))
            case atStart => exact ⟨1, Nat.le_refl _, by omega, by omega, rfl, L7, O7, X7, Z7, K7, I7, R7⟩
            case round =>
              obtain ⟨z, hz1, hz2, rfl, rfl, L9, O9, X9, Z9, K9, I9, R9⟩ := hrel
              clear L7 O7 X7 Z7 K7 I7 R7
              by_cases hlt : z ≤ j
              · obtain ⟨p, hzp⟩ : ∃ p, z = p + 1 := ⟨z - 1, by omega⟩
                rw [show z - 1 = p by omega] at O9
                have HSH := Lib.hid (show shifted cs l (p + 1) mc = (shifted cs l p mc).set (l.getD (p + 1) 0) { (shifted cs l p mc).getD (l.getD (p + 1) 0) noC with c := (cs.getD (l.getD p 0) noC).c } from rfl)
                rw [← hzp] at HSH
                have hpa : z < l.length := by have := HJL.out; omega
                have hpb : p < l.length := by omega
                have HXA := Lib.hid (HLX.out _ (show l.getD z 0 ∈ l by rw [List.getD_eq_getElem?_getD, List.getElem?_eq_getElem hpa]; exact List.getElem_mem hpa))
                have HXB := Lib.hid (HLX.out _ (show l.getD p 0 ∈ l by rw [List.getD_eq_getElem?_getD, List.getElem?_eq_getElem hpb]; exact List.getElem_mem hpb))
                have HSL := Lib.hid (show (shifted cs l p mc).length = cs.length by rw [shifted_length, HML.out])
                obtain ⟨g', hg', _, hgl, hca, _⟩ := R9.out.cell hpa
                injection hg' with hg'
                injection hg' with hg' _ _
                subst hg'
                obtain ⟨g', hg', _, _, hcb, _⟩ := R9.out.cell hpb
                injection hg' with hg'
                injection hg' with hg' _ _
                subst hg'
                rw [Nat.zero_add] at hca hcb
                generalize l.getD z 0 = xa at *
                generalize l.getD p 0 = xb at *
                generalize shifted cs l p mc = sh at *
                obtain ⟨yf, yp, yn, ys, ym, yc, ey⟩ := c_eta (cs.getD xb noC)
                obtain ⟨b1, o1, eo, g0, g1, g2, g3, g4, g5⟩ := I9.out.cells HXB.out ey
                injection eo with eo
                injection eo with eo1 eo2
                subst eo1 eo2
                rw [ey] at HSH
                simp only at HSH
                have HXS := Lib.hid (show xa < sh.length by rw [HSL.out]; exact HXA.out)
                obtain ⟨tf, tp, tn, ts, tm, tc, et⟩ := c_eta (sh.getD xa noC)
                obtain ⟨⟨_, _, _, _, _, p5⟩, fz⟩ := OwnCels.spot O9.out HXS.out et
                have q5 := fz (xa * 6 + 5)
                have es : IntKind.i64.wrap ((z : Int) - 1) = (p : Int) := by
                  have := HLL.out
                  have := HLN.out
                  have := HL.out
                  rw [IntWalk.i64_in] <;> omega
                have ew : IntKind.i64.wrap ((z : Int) + 1) = (z : Int) + 1 := by
                  have := HLL.out
                  have := HLN.out
                  have := HL.out
                  rw [IntWalk.i64_in] <;> omega
                have hle : (z : Int) ≤ (j : Int) := by omega
                have hi0 : (0 : Int) ≤ (z : Int) := by omega
                have hi1 : (z : Int) < (l.length : Int) := by omega
                have hk0 : (0 : Int) ≤ (p : Int) := by omega
                have hk1 : (p : Int) < (l.length : Int) := by omega
                have hj0 : (0 : Int) ≤ (xa : Int) := by omega
                have hj1 : (xa : Int) < (cs.length : Int) := by have := HXA.out; omega
                have hm0 : (0 : Int) ≤ (xb : Int) := by omega
                have hm1 : (xb : Int) < (cs.length : Int) := by have := HXB.out; omega
                have SO := OwnCels.setc O9.out HXS.out yc
                rw [← HSH.out] at SO
                have La := Lib.hid (blk_g L9.out SO.2 (by intro e; injection e with e; have := HG2.out; omega))
                have Xa := Lib.hid (blk_g X9.out SO.2 (by intro e; injection e with e; have := HG1.out; omega))
                have Za := Lib.hid (blk_g Z9.out SO.2 (by intro e; injection e with e; have := HG1.out; omega))
                have Ka := Lib.hid (below_grown K9.out SO.2 (by have := HG1.out; omega))
                have Ia := Lib.hid (celsIn_away I9.out SO.2 (fun x hx => by have h1 := HNE.out x hx; have := HG1.out; omega))
                have Ra := Lib.hid (show OwnInts _ w5.heap.size (.slice (some ⟨gl, 0, none⟩) l.length kl) l from World.ownsRow.kept R9.out SO.2 (.inr (fun e => by have h2 : gl = g := Option.some.inj e; have h1 := HVB.out; have := HG2.out; have := HG5.out; omega)))
                have Oa := Lib.hid SO.1
                obtain ⟨c0, c1, c2, c3, c4, c5⟩ := cells6 X9.out
                obtain ⟨d0, d1, d2, d3, d4, d5⟩ := cells6 L9.out
                have HZP := Lib.hid hzp
                clear hzp SO fz ey et L9 X9 Z9 K9 I9 R9 O9 hlt
                go_upto_region 24 with (fail)
                go_region
                clear c0 c1 c2 c3 c4 c5 d0 d1 d2 d3 d4 d5 g0 g1 g2 g3 g4 g5 hca hcb p5 q5
                generalize wr.setCell _ _ = wt at *
                have HD := (Below.refl wt.heap.size wt).drew
                have Lb := Lib.hid (blk La.out HD)
                have Xb := Lib.hid (blk Xa.out HD)
                have Zb := Lib.hid (blk Za.out HD)
                have Ob := Lib.hid (Oa.out.below HD)
                have Kb := kept_hid Ka HD
                have Ib := Lib.hid (Ia.out.below HD)
                have Rb := Lib.hid (Ra.out.below HD)
                clear HD La Xa Za Oa Ka Ia Ra
                generalize wt.drew = wd at *
                go_wp2_with fail
                go_roundg (j + 2 - (z + 1))
                case measure => omega
                case rel => exact ⟨z + 1, by omega, by omega, rfl, rfl, Lb, by rw [Nat.add_sub_cancel]; exact Ob, Xb, Zb, Kb, Ib, Rb⟩
              · obtain rfl : z = j + 1 := by omega
                rw [Nat.add_sub_cancel] at O9
                have hn1 : ¬ ((j + 1 : Nat) : Int) ≤ (j : Int) := by omega
                clear hlt
                go_wp2_with fail
                go_meet
                exact ⟨L9, by simp only [if_true, HJ.out, Option.getD_some]; exact O9, X9, Z9, K9, I9⟩
    case rest =>
      obtain ⟨L6, O6, X6, Z6, K6, I6⟩ := hcut
      have HOL := Lib.hid (show ((if ins = true then shifted cs (line cs kc) ((free cs (line cs kc)).getD 0) mc else mc)).length = cs.length by split <;> simp [shifted_length, HML.out])
      rw [hmc.out] at HLD
      clear HLI HLN HLL HLX HFR HML hmc L5 O5 X5 Z5 K5 I5
      generalize (if ins = true then shifted cs (line cs kc) ((free cs (line cs kc)).getD 0) mc else mc) = oc at *
      obtain ⟨tf, tp, tn, ts, tm, tc, et⟩ := c_eta (oc.getD kc noC)
      have HKO := Lib.hid (show kc < oc.length by rw [HOL.out]; exact HK.out)
      obtain ⟨⟨_, _, _, _, _, p5⟩, fz⟩ := OwnCels.spot O6.out HKO.out et
      have q5 := fz (kc * 6 + 5)
      have hj0 : (0 : Int) ≤ (kc : Int) := by omega
      have hj1 : (kc : Int) < (cs.length : Int) := by have := HK.out; omega
      have SO := OwnCels.setc O6.out HKO.out c
      rw [← HLD.out] at SO
      have L7 := Lib.hid (blk_g L6.out SO.2 (by intro e; injection e with e; have := HG2.out; omega))
      have X7 := Lib.hid (blk_g X6.out SO.2 (by intro e; injection e with e; have := HG1.out; omega))
      have Z7 := Lib.hid (blk_g Z6.out SO.2 (by intro e; injection e with e; have := HG1.out; omega))
      have K7 := Lib.hid (below_grown K6.out SO.2 (by have := HG1.out; omega))
      have O7 := Lib.hid SO.1
      obtain ⟨d0, d1, d2, d3, d4, d5⟩ := cells6 L6.out
      clear SO fz et L6 X6 Z6 K6 I6 O6
      go_upto_region 26 with (fail)
      clear d0 d1 d2 d3 d4 d5 p5 q5
      generalize wc.setCell _ _ = w7 at *
      have HLC := Lib.hid (laid_length ⟨r, q, cs, (kc : Int), false, ins⟩ kc c)
      have HTY := Lib.hid (show typed ⟨r, q, cs, (kc : Int), false, ins⟩ kc c = ⟨r, q, laid ⟨r, q, cs, (kc : Int), false, ins⟩ kc c, ((goes (laid ⟨r, q, cs, (kc : Int), false, ins⟩ kc c) kc : Nat) : Int), false, ins⟩ from rfl)
      simp only at HLC
      generalize laid ⟨r, q, cs, (kc : Int), false, ins⟩ kc c = lc at *
      have HN := Lib.hid fun W (a : Nat) (ha : a < cs.length) => rnext_any r q (some ⟨bA, oA, none⟩) cs.length k (kc : Int) false ins a W ha (by have := HL.out; omega)
      obtain ⟨c0, c1, c2, c3, c4, c5⟩ := cells6 X7.out
      have HN1 := Lib.hid (HN.out w7 kc HK.out)
      go_wp2_with fail
      with_reducible refine HN1.out.mono ?_
      rintro e w8 ⟨rfl, hb⟩
      have L8 := Lib.hid (blk L7.out hb)
      have X8 := Lib.hid (blk X7.out hb)
      have Z8 := Lib.hid (blk Z7.out hb)
      have O8 := Lib.hid (O7.out.below hb)
      have K8 := kept_hid K7 hb
      have HAL := Lib.hid (on_lt (z := cs.length) (by have := HK.out; omega) (kc : Int) 1)
      have HGO := Lib.hid (show goes lc kc = if (lc.getD (on lc.length (kc : Int) 1) noC).f then (if ((lc.getD (on lc.length (kc : Int) 1) noC).p && (lc.getD (on lc.length (kc : Int) 1) noC).n) && decide (0 ≤ next lc (on lc.length (kc : Int) 1)) then (next lc (on lc.length (kc : Int) 1)).toNat else on lc.length ((on lc.length (kc : Int) 1 : Nat) : Int) 1) else on lc.length (kc : Int) 1 from rfl)
      rw [HLC.out] at HGO
      clear hb c0 c1 c2 c3 c4 c5 HN1 L7 X7 Z7 O7 K7
      generalize on cs.length (kc : Int) 1 = at_ at *
      have hi0 : (0 : Int) ≤ (at_ : Int) := by omega
      have hi1 : (at_ : Int) < (cs.length : Int) := by have := HAL.out; omega
      have HAC := Lib.hid (show at_ < lc.length by rw [HLC.out]; exact HAL.out)
      obtain ⟨yf, yp, yn, ys, ym, yc, ey⟩ := c_eta (lc.getD at_ noC)
      obtain ⟨⟨p0, p1, p2, p3, p4, p5⟩, _⟩ := OwnCels.spot O8.out HAC.out ey
      rw [ey] at HGO
      simp only at HGO
      have HA := al_any w8 (.cells #[.bool yf, .bool yp, .bool yn, .int .i64 ys, .bool ym, .int .u8 (yc : Int)] 42)
      have Y9 := Lib.hid (heap_alloc_new w8 (.cells #[.bool yf, .bool yp, .bool yn, .int .i64 ys, .bool ym, .int .u8 (yc : Int)] 42))
      have L9 := Lib.hid (blk L8.out HA)
      have X9 := Lib.hid (blk X8.out HA)
      have Z9 := Lib.hid (blk Z8.out HA)
      have O9 := Lib.hid (O8.out.below HA)
      have K9 := kept_hid K8 HA
      obtain ⟨d0, d1, d2, d3, d4, d5⟩ := cells6 L8.out
      have hgy := there_lt L8.out
      clear HA ey L8 X8 Z8 O8 K8
      go_upto_region 28 with (fail)
      clear d0 d1 d2 d3 d4 d5 p0 p1 p2 p3 p4 p5 hgy
      generalize w8.alloc _ = w9 at *
      generalize w8.heap.size = Y at *
      have HNF := Lib.hid fun W (hb : Below w9.heap.size w9 W) => rnextf_any ⟨r, q, lc, (kc : Int), false, ins⟩ (some ⟨g, 0, none⟩) vc at_ W (by simp only; have := O9.out.to.below hb; rwa [HLC.out]) (by simp only; rw [HLC.out]; have := HK.out; omega) (by simp only; rw [HLC.out]; have := HL.out; omega) HAC.out
      simp only at HNF
      rw [HLC.out] at HNF
      generalize hgo : goes lc kc = gk at *
      replace hgo := Lib.hid hgo
      generalize next lc at_ = N at *
      obtain ⟨e0, e1, e2, e3, e4, e5⟩ := cells6 Y9.out
      go_upto_if 121 with (fail)
      clear e0 e1 e2 e3 e4 e5
      go_cut [13, 15] from 122 to 138 (fun va vb wx => va = .int .i64 ((gk : Nat) : Int) ∧ Hid (Below w9.heap.size w9 wx))
      case first =>
        obtain ⟨e0, e1, e2, e3, e4, e5⟩ := cells6 Y9.out
        obtain ⟨d0, d1, d2, d3, d4, d5⟩ := cells6 L9.out
        obtain ⟨c0, c1, c2, c3, c4, c5⟩ := cells6 X9.out
        have HREF := Lib.hid (Below.refl w9.heap.size w9)
        cases yf with
        | false =>
          have HG := Lib.hid (show gk = at_ from HGO.out)
          clear HGO HNF HN HTY hgo
          go_wp2_with fail
          go_meet
          exact ⟨by rw [HG.out], HREF⟩
        | true =>
          by_cases hpn : (yp && yn) = true
          · rw [Bool.and_eq_true] at hpn
            obtain ⟨rfl, rfl⟩ := hpn
            go_wp2_with fail
            with_reducible refine (HNF.out _ (Below.refl _ _)).mono ?_
            rintro e wa ⟨rfl, hb⟩
            have Xa := Lib.hid (blk X9.out hb)
            have Kb := Lib.hid hb
            clear hb c0 c1 c2 c3 c4 c5 d0 d1 d2 d3 d4 d5 e0 e1 e2 e3 e4 e5
            by_cases hN : 0 ≤ N
            · have hn1 : ¬ N < 0 := by omega
              have HG := Lib.hid (show ((gk : Nat) : Int) = N by rw [HGO.out]; simp [hN]; omega)
              clear HGO HNF HN HTY hgo
              go_wp2_with fail
              go_meet
              exact ⟨by rw [HG.out], Kb⟩
            · have hn1 : N < 0 := by omega
              have HG := Lib.hid (show gk = on cs.length (at_ : Int) 1 by rw [HGO.out]; simp [hn1]; omega)
              have HN2 := Lib.hid (HN.out wa at_ HAL.out)
              obtain ⟨c0, c1, c2, c3, c4, c5⟩ := cells6 Xa.out
              clear HGO HNF HN HTY hgo
              go_wp2_with fail
              with_reducible refine HN2.out.mono ?_
              rintro e wb ⟨rfl, hb⟩
              have Kc := Lib.hid (kept_trans Kb.out hb)
              clear hb c0 c1 c2 c3 c4 c5
              go_wp2_with fail
              go_meet
              exact ⟨by rw [HG.out], Kc⟩
          · have HG := Lib.hid (show gk = on cs.length (at_ : Int) 1 by rw [HGO.out]; simp [hpn])
            have HN2 := Lib.hid (HN.out w9 at_ HAL.out)
            clear HGO HNF HN HTY hgo
            cases yp <;> cases yn <;> first | exact absurd rfl hpn | skip
            all_goals
              clear hpn
              go_wp2_with fail
              with_reducible refine HN2.out.mono ?_
              rintro e wb ⟨rfl, hb⟩
              replace hb := Lib.hid hb
              clear c0 c1 c2 c3 c4 c5 d0 d1 d2 d3 d4 d5 e0 e1 e2 e3 e4 e5
              go_wp2_with fail
              go_meet
              exact ⟨by rw [HG.out], hb⟩
      case rest =>
        obtain ⟨rfl, hb⟩ := hcut
        have La := Lib.hid (blk L9.out hb.out)
        have Za := Lib.hid (blk Z9.out hb.out)
        have Oa := Lib.hid (O9.out.below hb.out)
        have Ka := kept_hid K9 hb.out
        clear L9 Z9 O9 K9 X9 Y9 hb HNF HN HGO
        obtain ⟨d0, d1, d2, d3, d4, d5⟩ := cells6 La.out
        obtain ⟨f0, f1, f2, f3, f4, f5⟩ := free6 La.out
        have SO := gsetCell wc G 3 (.int .i64 ((gk : Nat) : Int))
        have Lb := Lib.hid (show (wc.setCell ⟨G, 3, none⟩ (.int .i64 ((gk : Nat) : Int))).heap[G]? = some (.cells #[.int .i64 r, .int .i64 q, .slice (some ⟨g, 0, none⟩) cs.length vc, .int .i64 ((gk : Nat) : Int), .bool false, .bool ins] 24 (0, 0)) from heap_setCell_same _ G 3 _ 24 _ La.out)
        have Zb := Lib.hid (blk_g Za.out SO (by intro e; injection e with e; have := HG3.out; omega))
        have Ob := Lib.hid (OwnCels.away Oa.out SO (by intro e; have h3 : g = G := Option.some.inj e; have := HG2.out; omega))
        have Kb := Lib.hid (below_grown Ka.out SO (by have := HG3.out; omega))
        clear SO La Za Oa Ka
        go_upto_region 36 with (fail)
        clear d0 d1 d2 d3 d4 d5 f0 f1 f2 f3 f4 f5
        generalize wc.setCell _ _ = wz at *
        obtain ⟨a0, a1, a2, a3, a4, a5⟩ := cells6 Lb.out
        obtain ⟨f0, f1, f2, f3, f4, f5⟩ := free6 Zb.out
        obtain ⟨z0, z1, z2, z3, z4, z5⟩ := cells6 Zb.out
        have SF := Lib.hid (over6 wz (w.heap.size + 1) _ _ _ _ _ _ _ (.int .i64 r) (.int .i64 q) (.slice (some ⟨g, 0, none⟩) cs.length vc) (.int .i64 ((gk : Nat) : Int)) (.bool false) (.bool ins) Zb.out)
        go_wp2_with fail
        clear z0 z1 z2 z3 z4 z5 a0 a1 a2 a3 a4 a5 f0 f1 f2 f3 f4 f5
        generalize (((((wz.setCell _ _).setCell _ _).setCell _ _).setCell _ _).setCell _ _).setCell _ _ = w9 at *
        exact bodyPost_ret (v := .tuple #[.agg #[.int .i64 r, .int .i64 q, .slice (some ⟨g, 0, none⟩) cs.length vc, .int .i64 ((gk : Nat) : Int), .bool false, .bool ins], .int .i64 0, .int .i64 (-1)]) (results_cell_2 rfl _ _ _ (w.heap.size + 1) _ rfl (run_loadVar_row _ (w.heap.size + 1) 24 24 _ (0, 0) _ SF.out.1 Tryz.underlying24 rfl (by kernel_rfl)) (.int .i64 0) (.int .i64 (-1)) rfl rfl) rfl ⟨some ⟨g, 0, none⟩, vc, by rw [HTY.out]; simp only; rw [HLC.out], by rw [HTY.out]; simp only; have := (OwnCels.away Ob.out SF.out.2 (by intro e; have h3 : g = w.heap.size + 1 := Option.some.inj e; have := HG1.out; omega)).to; rwa [HLC.out], below_grown Kb.out SF.out.2 (by omega)⟩
end Edt
end Go.Proofs.YtpgbnnnfeaodmaaGreatDoor
/- The document's Type of layer 14. Written by tools/gen_edt_rtype.py. -/
namespace Go.Proofs.YtpgbnnnfeaodmaaGreatDoor
open Go.RowKit Sha Six Apd Cut Err Att Grd Fld Scr
set_option linter.unusedVariables false
set_option linter.unusedSimpArgs false
namespace Edt
theorem rtype_any (s : S) (ad : Option Addr) (k c : Nat) (w : World) (h : CelsIn w (.slice ad s.cs.length k) s.cs) (hr : sright s = true) (hl : s.cs.length < 10000) (hc : c < 256) :
    Calls Tryz.prog 23 #[.agg #[.int .i64 s.rows, .int .i64 s.cols, .slice ad s.cs.length k, .int .i64 s.cur, .bool s.lk, .bool s.ins], .int .u8 (c : Int)] w fun e w' => ShownE w w' (typ s c).1 ((typ s c).2.1 : Nat) (typ s c).2.2 e := by
  obtain ⟨kc, e1, e2, hk⟩ := cur_nat hr
  have HT : typ s c = if ltr c = false then (s, 3, -1) else if s.lk = true then (s, 7, -1) else if open_ s.cs kc = false then (deny s, 8, s.cur) else if (((attrOf s.cs kc).n && !digit c) && (c != 28 && c != 30)) = true then (deny s, 9, s.cur) else if (s.ins && (free s.cs (line s.cs kc)).isNone) = true then (deny s, 10, s.cur) else (typed s kc c, 0, -1) := by
    unfold typ
    rw [e2]
  by_cases h1 : ltr c = false
  · rw [HT, if_pos h1]; exact rt_3 s ad k c kc w h hl hc hk e1 h1
  · rw [if_neg h1] at HT
    have h1 : ltr c = true := by simpa using h1
    by_cases h2 : s.lk = true
    · rw [HT, if_pos h2]; exact rt_7 s ad k c kc w h hl hc hk e1 h1 h2
    · rw [if_neg h2] at HT
      have h2 : s.lk = false := by simpa using h2
      by_cases h3 : open_ s.cs kc = false
      · rw [HT, if_pos h3]
        have := rt_8 s ad k c kc w h hl hc hk e1 h1 h2 h3
        rw [← e1] at this
        exact this
      · rw [if_neg h3] at HT
        have h3 : open_ s.cs kc = true := by simpa using h3
        by_cases h4 : (((attrOf s.cs kc).n && !digit c) && (c != 28 && c != 30)) = true
        · rw [HT, if_pos h4]
          have := rt_9 s ad k c kc w h hl hc hk e1 h1 h2 h3 h4
          rw [← e1] at this
          exact this
        · rw [if_neg h4] at HT
          have h4 : (((attrOf s.cs kc).n && !digit c) && (c != 28 && c != 30)) = false := by simpa using h4
          by_cases h5 : (s.ins && (free s.cs (line s.cs kc)).isNone) = true
          · rw [HT, if_pos h5]
            rw [Bool.and_eq_true] at h5
            have hn : free s.cs (line s.cs kc) = none := by
              have := h5.2
              cases hf : free s.cs (line s.cs kc) with
              | none => rfl
              | some j => rw [hf] at this; cases this
            have := rt_10 s ad k c kc w h hl hc hk e1 h1 h2 h3 h4 h5.1 hn
            rw [← e1] at this
            exact this
          · rw [HT, if_neg h5]
            have hj : s.ins = true → ∃ j, free s.cs (line s.cs kc) = some j := fun hi => by
              rw [hi] at h5
              cases hf : free s.cs (line s.cs kc) with
              | some j => exact ⟨j, rfl⟩
              | none => rw [hf] at h5; exact absurd rfl h5
            exact rt_ok s ad k c kc w h hl hc hk e1 h1 h2 h3 h4 hj
end Edt
end Go.Proofs.YtpgbnnnfeaodmaaGreatDoor
