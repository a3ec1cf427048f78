/- The landed code of package host: clean. -/
import Derived.Test.YtaopkelobglnbaaGreatDoorHstLow
import Derived.Test.YtaopkelobglnbaaGreatDoorBunPnc
import Derived.Test.YtaopkelobglnbaaGreatDoorBunFlc
namespace Go.Proofs.YtaopkelobglnbaaGreatDoor
open Go.RowKit Sha Six Apd Cut Err Att Grd Fld Pnt Scr
set_option linter.unusedVariables false
namespace Hst
theorem span_zero (z : Nat) : span z 0 0 = List.range z := by
  have h0 : ∀ i : Nat, i < z → on z 0 (i : Int) = i := fun i hi => by
    have := on_nat (z := z) 0 i
    simp only [Nat.zero_add] at this
    rw [show (0 : Int) = ((0 : Nat) : Int) from rfl, this, Nat.mod_eq_of_lt hi]
  have hs : spanLen z 0 0 = z := by
    unfold spanLen
    have : on z 0 (-0) = 0 := by
      rcases Nat.eq_zero_or_pos z with h | h
      · subst h; rfl
      · exact h0 0 h
    rw [if_pos this]
  unfold span
  rw [hs]
  refine List.ext_getElem (by simp) fun i h1 h2 => ?_
  simp only [List.length_map, List.length_range] at h1
  simp [h0 i h1]
theorem alike_reset (cs : List C) (all : Bool) : Fld.Alike (resetC all cs) cs := ⟨resetC_length all cs, fun i => by rw [resetC_getD]; exact ⟨(unmod_fp _ _).1, (unmod_fp _ _).2.1⟩⟩
theorem wipes_alike {a b : List C} (h : Fld.Alike a b) (l : List Nat) : ∀ cs, wipes a cs l = wipes b cs l := by
  have e : wipe1 a = wipe1 b := by funext cs i; unfold wipe1; rw [alike_open h]
  intro cs; unfold wipes; rw [e]
theorem pone_clean (s : S) : (pone (hreset s false) 0 ⟨7, [], false, false, 0, false, 0, 0⟩).1 = { s with cs := (hclean s).cs } := by
  show ({ (hreset s false) with cs := wipes (resetC false s.cs) (resetC false s.cs) (span (resetC false s.cs).length 0 0) } : S) = _
  rw [resetC_length, span_zero, wipes_alike (alike_reset s.cs false)]
  rfl
theorem wrong_clean {z : Nat} (hz : 0 < z) : Go.Proofs.YtaopkelobglnbaaGreatDoor.Ord.wrong ⟨7, [], false, false, 0, false, 0, 0⟩ z = 0 := by
  have e : Go.Proofs.YtaopkelobglnbaaGreatDoor.Ord.same ⟨7, [], false, false, 0, false, 0, 0⟩ (Go.Proofs.YtaopkelobglnbaaGreatDoor.Ord.own ⟨7, [], false, false, 0, false, 0, 0⟩) = true := by decide
  simp [Go.Proofs.YtaopkelobglnbaaGreatDoor.Ord.wrong, e]; omega
theorem nil_in (w : World) : BytesIn w (.slice none 0 0) [] := ⟨none, 0, rfl, by simp, .inl rfl⟩
set_option maxRecDepth 100000 in
set_option maxHeartbeats 8000000 in
theorem clean_any (s : S) (ad : Option Addr) (k : Nat) (w : World) (h : CelsIn w (.slice ad s.cs.length k) s.cs) (hr : sright s = true) (h8 : Sound s.cs) (hl : s.cs.length < 10000) :
    Calls Tryz.prog 47 #[.agg #[.int .i64 s.rows, .int .i64 s.cols, .slice ad s.cs.length k, .int .i64 s.cur, .bool s.lk, .bool s.ins]] w fun e w' => GaveA w w' (hclean s) e := by
  have HB := Lib.hid (kept_trans (al_any w (.cells #[.int .i64 s.rows, .int .i64 s.cols, .slice ad s.cs.length k, .int .i64 s.cur, .bool s.lk, .bool s.ins] 24)) (al_any _ (.cells #[.int .i64 0, .int .i64 0, .slice none 0 0, .int .i64 0, .bool false, .bool false] 24)))
  have HX := Lib.hid (heap_alloc2_old w (.cells #[.int .i64 s.rows, .int .i64 s.cols, .slice ad s.cs.length k, .int .i64 s.cur, .bool s.lk, .bool s.ins] 24) (.cells #[.int .i64 0, .int .i64 0, .slice none 0 0, .int .i64 0, .bool false, .bool false] 24))
  have HZ := Lib.hid (heap_alloc2_new w (.cells #[.int .i64 s.rows, .int .i64 s.cols, .slice ad s.cs.length k, .int .i64 s.cur, .bool s.lk, .bool s.ins] 24) (.cells #[.int .i64 0, .int .i64 0, .slice none 0 0, .int .i64 0, .bool false, .bool false] 24))
  have HP := Lib.hid (show 0 < s.cs.length from by have := (sright_parts hr).2; omega)
  have HC := Lib.hid fun W hb => reset_any s ad k false W ((h.below HB.out).below hb) hr h8 hl
  have HR := Lib.hid (hreset_right (all := false) hr)
  have H8 := Lib.hid (show Sound (hreset s false).cs from resetC_sound (all := false) h8)
  have HL := Lib.hid (show (hreset s false).cs.length < 10000 from by rw [(hreset_rest s false).2.2.1]; exact hl)
  have HLE := Lib.hid (hreset_rest s false).2.2.1
  have HE := Lib.hid (pone_clean s)
  have HCU := Lib.hid (curOf_bounds (cs := s.cs) HP.out)
  have HNX := Lib.hid (show next (hclean s).cs ((hclean s).cs.length - 1) = next s.cs (s.cs.length - 1) from by rw [hclean_length]; exact alike_next (alike_clean s) _)
  have HCL := Lib.hid (hclean_length s)
  have HCS := Lib.hid (right_sound (hclean_right hr))
  have HCD := Lib.hid (show curOf s.cs = if next s.cs (s.cs.length - 1) < 0 then 0 else next s.cs (s.cs.length - 1) from rfl)
  have HHC := Lib.hid (show hclean s = { ({ s with cs := (hclean s).cs } : S) with cur := curOf s.cs, lk := false, ins := false } from rfl)
  have HLL := Lib.hid hl
  clear h hr h8 hl
  go_enter Tryz.func47, Tryz.ntmps47
  go_upto_region 1 with (fail)
  generalize (w.alloc _).alloc _ = w1 at *
  have hzx := there_lt HZ.out
  obtain ⟨c0, c1, c2, c3, c4, c5⟩ := cells6 HX.out
  go_wp2_with fail
  with_reducible refine (HC.out _ (Below.refl _ _)).mono ?_
  rintro e w2 ⟨va, vc, rfl, ho, hb⟩
  clear c0 c1 c2 c3 c4 c5
  generalize hreset s false = s1 at *
  have X2 := Lib.hid (blk HX.out hb)
  have Z2 := Lib.hid (blk HZ.out hb)
  obtain ⟨g, e1, hg1, B3⟩ := Box.over (w0 := w) X2.out ho (by rw [HLE.out]; exact HP.out) (show w.heap.size < w1.heap.size by omega) (Nat.le_refl _) (kept_trans HB.out hb)
  subst e1
  have H3 := Lib.hid B3
  have SF := over6 w2 w.heap.size _ _ _ _ _ _ _ (.int .i64 s1.rows) (.int .i64 s1.cols) (.slice (some ⟨g, 0, none⟩) s1.cs.length vc) (.int .i64 s1.cur) (.bool s1.lk) (.bool s1.ins) X2.out
  have Z3 := Lib.hid (blk_g Z2.out SF.2 (by intro e; injection e with e; omega))
  have HG := Lib.hid (show w.heap.size + 1 < g from by omega)
  obtain ⟨c0, c1, c2, c3, c4, c5⟩ := cells6 X2.out
  obtain ⟨f0, f1, f2, f3, f4, f5⟩ := free6 X2.out
  clear hzx ho hb Z2 HX HZ HB HC SF B3
  go_upto_region 2 with (fail)
  clear c0 c1 c2 c3 c4 c5 f0 f1 f2 f3 f4 f5 X2
  generalize (((((w2.setCell _ _).setCell _ _).setCell _ _).setCell _ _).setCell _ _).setCell _ _ = w3 at *
  obtain ⟨c0, c1, c2, c3, c4, c5⟩ := H3.out.cells
  have HO := Lib.hid (one_ok s1 (some ⟨g, 0, none⟩) vc 0 ⟨7, [], false, false, 0, false, 0, 0⟩ none 0 0 w3 H3.out.own.to HR.out H8.out HL.out (by rw [HLE.out]; exact HP.out) (nil_in w3) (by simp) (by simp) (by simp) (wrong_clean (by rw [HLE.out]; exact HP.out)))
  simp only [Int.ofNat_zero] at HO
  generalize pone s1 0 _ = rr at HO HE
  obtain ⟨s2, p2⟩ := rr
  simp only at HO HE
  have HE2 := HE.out
  subst HE2
  generalize hds : (hclean s).cs = ds at *
  replace hds := Lib.hid hds
  go_wp2_with fail
  with_reducible refine (HO.out).mono ?_
  rintro e w4 ⟨va, vd, rfl, ho, hb⟩
  simp only at ho
  clear c0 c1 c2 c3 c4 c5 HE HO
  have X4 := Lib.hid (blk H3.out.box hb)
  have Z4 := Lib.hid (blk Z3.out hb)
  have h3l := H3.out.lt
  obtain ⟨g4, e1, hg4, B5⟩ := Box.over (w0 := w) (t := ⟨s.rows, s.cols, ds, s.cur, s.lk, s.ins⟩) X4.out ho (by rw [HCL.out]; exact HP.out) h3l (Nat.le_refl _) (kept_trans H3.out.kept hb)
  subst e1
  have H5 := Lib.hid B5
  simp only at H5
  have SF := over6 w4 w.heap.size _ _ _ _ _ _ _ (.int .i64 s.rows) (.int .i64 s.cols) (.slice (some ⟨g4, 0, none⟩) ds.length vd) (.int .i64 s.cur) (.bool s.lk) (.bool s.ins) X4.out
  have Z5 := Lib.hid (blk_g Z4.out SF.2 (by intro e; injection e with e; omega))
  have HG4 := Lib.hid (show w.heap.size + 1 < g4 from by have := there_lt Z3.out; omega)
  obtain ⟨c0, c1, c2, c3, c4, c5⟩ := cells6 X4.out
  obtain ⟨f0, f1, f2, f3, f4, f5⟩ := free6 X4.out
  clear ho hb h3l Z4 Z3 SF B5 H3 HG
  go_upto_region 3 with (fail)
  clear c0 c1 c2 c3 c4 c5 f0 f1 f2 f3 f4 f5 X4
  generalize (((((w4.setCell _ _).setCell _ _).setCell _ _).setCell _ _).setCell _ _).setCell _ _ = w5 at *
  obtain ⟨c0, c1, c2, c3, c4, c5⟩ := H5.out.cells
  obtain ⟨_, _, _, f3, _, _⟩ := H5.out.free
  have HZS := Lib.hid fun W => size_any s.rows s.cols (some ⟨g4, 0, none⟩) ds.length vd s.cur s.lk s.ins W
  have HD := Lib.hid fun (W : World) (hb : Below w5.drew.heap.size w5.drew W) => Box.below (w := w5.drew) (H5.out.below ((Below.refl w5.heap.size w5).drew)) hb
  have HF := Lib.hid fun (W : World) (hb : Below w5.drew.heap.size w5.drew W) => fnext_any ⟨s.rows, s.cols, ds, s.cur, s.lk, s.ins⟩ (some ⟨g4, 0, none⟩) vd (ds.length - 1) W (HD.out W hb).own.to HCS.out (by rw [HCL.out]; exact HP.out) (by rw [HCL.out]; exact HLL.out) (by rw [HCL.out]; have := HP.out; omega)
  simp only [HNX.out] at HF
  have HDL := Lib.hid (show 0 < ds.length ∧ ds.length < 10000 from by rw [HCL.out]; exact ⟨HP.out, HLL.out⟩)
  have ew : IntKind.i64.wrap ((ds.length : Int) - 1) = ((ds.length - 1 : Nat) : Int) := by
    have := HDL.out
    rw [IntWalk.i64_in] <;> omega
  generalize hnx : next s.cs (s.cs.length - 1) = nx at HF HCD
  have HNB := Lib.hid (show -1 ≤ nx from by rw [← hnx]; exact (next_bounds (by have := HP.out; omega)).1)
  clear hnx HNX
  go_region_with (first
    | (go_at_call 44; with_reducible refine (HZS.out _).mono ?_; rintro e wa ⟨rfl, hba⟩; have HA := Lib.hid (HD.out wa hba); obtain ⟨k0, k1, k2, k3, k4, k5⟩ := HA.out.cells)
    | (go_at_call 64; with_reducible refine (HF.out _ (by first | exact hba | exact hba.drew)).mono ?_; rintro e wb ⟨rfl, hbb⟩; have HBB := Lib.hid (HA.out.below hbb); obtain ⟨l0, l1, l2, l3, l4, l5⟩ := HBB.out.cells; obtain ⟨_, _, _, f3b, _, _⟩ := HBB.out.free))
  all_goals
    have H7 := Lib.hid (HBB.out.cur (if nx < 0 then 0 else nx))
    have Z7 := Lib.hid (blk_g (blk (blk Z5.out ((Below.refl w5.heap.size w5).drew)) (kept_trans hba (by first | exact hbb | exact hbb.drew))) (gsetCell wb w.heap.size 3 (.int .i64 (if nx < 0 then 0 else nx))) (by intro e; injection e with e; omega))
    rw [← HCD.out] at H7 Z7 ⊢
    simp only at H7
    clear k0 k1 k2 k3 k4 k5 l0 l1 l2 l3 l4 l5 f3b HBB HA hba hbb HF HZS HD c0 c1 c2 c3 c4 c5 f3 H5 Z5 ew
    generalize wb.setCell _ _ = w7 at *
    obtain ⟨c0, c1, c2, c3, c4, c5⟩ := H7.out.cells
    have HU := Lib.hid fun W => unlock_any s.rows s.cols (curOf s.cs) (some ⟨g4, 0, none⟩) ds.length vd s.lk s.ins W
    go_wp2_with fail
    with_reducible refine (HU.out _).mono ?_
    rintro e w8 ⟨rfl, hb⟩
    clear c0 c1 c2 c3 c4 c5 HU
    have O8 := Lib.hid (H7.out.own.below hb)
    have K8 := kept_hid (Lib.hid H7.out.kept) hb
    have Z8 := Lib.hid (blk Z7.out hb)
    obtain ⟨z0, z1, z2, z3, z4, z5⟩ := cells6 Z8.out
    obtain ⟨f0, f1, f2, f3, f4, f5⟩ := free6 Z8.out
    have SF := Lib.hid (over6 w8 (w.heap.size + 1) _ _ _ _ _ _ _ (.int .i64 s.rows) (.int .i64 s.cols) (.slice (some ⟨g4, 0, none⟩) ds.length vd) (.int .i64 (curOf s.cs)) (.bool false) (.bool false) Z8.out)
    have O9 := Lib.hid (OwnCels.away O8.out SF.out.2 (by intro e; have h3 : g4 = w.heap.size + 1 := Option.some.inj e; have := HG4.out; omega))
    go_wp2_with fail
    clear z0 z1 z2 z3 z4 z5 f0 f1 f2 f3 f4 f5
    generalize (((((w8.setCell _ _).setCell _ _).setCell _ _).setCell _ _).setCell _ _).setCell _ _ = w9 at *
    exact bodyPost_ret (v := .agg #[.int .i64 s.rows, .int .i64 s.cols, .slice (some ⟨g4, 0, none⟩) ds.length vd, .int .i64 (curOf s.cs), .bool false, .bool false]) (results_cell_row rfl _ _ (w.heap.size + 1) 24 _ (0, 0) _ rfl SF.out.1 Tryz.underlying24 rfl (by kernel_rfl)) rfl ⟨some ⟨g4, 0, none⟩, vd, by rw [HHC.out], by rw [HHC.out]; exact O9.out, below_grown K8.out SF.out.2 (by omega)⟩
end Hst
end Go.Proofs.YtaopkelobglnbaaGreatDoor
