/- duplicate of package keys. Written by tools/gen_kyb_code.py. -/
import Derived.Test.YtpgbnnnfeaodmaaGreatDoorSKybBox
import Derived.Test.YtpgbnnnfeaodmaaGreatDoorSBunEdc
import Derived.Test.YtpgbnnnfeaodmaaGreatDoorSBunFlc
import Derived.Deep.Cut
import Derived.IntWalk
namespace Go.Proofs.YtpgbnnnfeaodmaaGreatDoor
open Go.RowKit Sha Six Apd Cut Err Att Grd Fld Scr
set_option linter.unusedVariables false
namespace Kyb
open Edt
set_option maxRecDepth 100000 in
set_option maxHeartbeats 8000000 in
theorem dup_any (s : S) (ad : Option Addr) (k : Nat) (w : World) (h : CelsIn w (.slice ad s.cs.length k) s.cs) (hr : sright s = true) (h8 : Sound s.cs) (hl : s.cs.length < 10000) :
    Calls Tryz.prog 40 #[.agg #[.int .i64 s.rows, .int .i64 s.cols, .slice ad s.cs.length k, .int .i64 s.cur, .bool s.lk, .bool s.ins]] w fun e w' => GaveE w w' (if (typ s 28).2.1 = 0 then onto s (typ s 28).1 else (typ s 28).1) ((typ s 28).2.1 : Nat) (typ s 28).2.2 e := by
  obtain ⟨kk, hk1, _, hk3⟩ := cur_nat hr
  have HTL := Lib.hid (typ_length (s := s) 28)
  have HTR := Lib.hid (typ_right hr 28)
  have HTY := Lib.hid fun W h => type_any s ad k 28 W h hr h8 hl (by decide)
  simp only [GaveE, show ((28 : Nat) : Int) = 28 from rfl] at HTY
  generalize (typ s 28).2.2 = wh at *
  generalize (typ s 28).2.1 = code at *
  generalize (typ s 28).1 = t at *
  obtain ⟨r, cc, cs, cur, lk, ins⟩ := s
  simp only at *
  subst hk1
  have HP := Lib.hid (show 0 < t.cs.length by rw [HTL.out.1]; omega)
  have HB := Lib.hid (kept_trans (al_any w (.cells #[.int .i64 r, .int .i64 cc, .slice ad cs.length k, .int .i64 (kk : Int), .bool lk, .bool ins] 24)) (al_any _ (.cells #[.int .i64 0, .int .i64 0, .slice none 0 0, .int .i64 0, .bool false, .bool false] 24)))
  have HX := Lib.hid (heap_alloc2_old w (.cells #[.int .i64 r, .int .i64 cc, .slice ad cs.length k, .int .i64 (kk : Int), .bool lk, .bool ins] 24) (.cells #[.int .i64 0, .int .i64 0, .slice none 0 0, .int .i64 0, .bool false, .bool false] 24))
  have HZ := Lib.hid (heap_alloc2_new w (.cells #[.int .i64 r, .int .i64 cc, .slice ad cs.length k, .int .i64 (kk : Int), .bool lk, .bool ins] 24) (.cells #[.int .i64 0, .int .i64 0, .slice none 0 0, .int .i64 0, .bool false, .bool false] 24))
  have HI := Lib.hid (h.below HB.out)
  have HNX := Lib.hid fun va vc W (hb : CelsIn W (.slice va t.cs.length vc) t.cs) => fnext_any t va vc kk W hb (right_sound HTR.out) HP.out (by rw [HTL.out.1]; exact hl) (by rw [HTL.out.1]; exact hk3)
  clear h hr h8 hl
  go_enter Tryz.func40, Tryz.ntmps40
  go_upto_region 1 with (fail)
  generalize (w.alloc _).alloc _ = w1 at *
  have hzx := there_lt HZ.out
  obtain ⟨c0, c1, c2, c3, c4, c5⟩ := cells6 HX.out
  go_wp2_with fail
  with_reducible refine (HTY.out _ HI.out).mono ?_
  rintro e w2 ⟨va, vc, ev, rfl, hc, ht, hn, hb⟩
  clear c0 c1 c2 c3 c4 c5 HTY
  have X2 := Lib.hid (blk HX.out hb)
  have Z2 := Lib.hid (blk HZ.out hb)
  by_cases h0 : code = 0
  · obtain ⟨rfl, ho⟩ := hn (by omega)
    have HT := Lib.hid (show (if code = 0 then onto (⟨r, cc, cs, (kk : Int), lk, ins⟩ : S) t else t) = { t with cur := ((next t.cs kk).toNat : Nat) } from by rw [if_pos h0]; rfl)
    have HT2 := Lib.hid (show onto (⟨r, cc, cs, (kk : Int), lk, ins⟩ : S) t = { t with cur := ((next t.cs kk).toNat : Nat) } from rfl)
    have HWH := Lib.hid (show wh = -1 from by
      rcases ht with ⟨_, _, h⟩ | ⟨h, _⟩ | ⟨_, _, h, _⟩
      · exact h
      · cases h
      · cases h)
    obtain ⟨g, e1, hg1, B3⟩ := Box.over (w0 := w) (t := t) X2.out ho HP.out (show w.heap.size < w1.heap.size by omega) (Nat.le_refl _) (kept_trans HB.out hb)
    subst e1
    have H3 := Lib.hid B3
    have SF := over6 w2 w.heap.size _ _ _ _ _ _ _ (.int .i64 t.rows) (.int .i64 t.cols) (.slice (some ⟨g, 0, none⟩) t.cs.length vc) (.int .i64 t.cur) (.bool t.lk) (.bool t.ins) X2.out
    have Z3 := Lib.hid (blk_g Z2.out SF.2 (by intro e; injection e with e; omega))
    have HG := Lib.hid (show w.heap.size + 1 < g from by omega)
    clear hzx ho hb Z2 HX HZ HB HI SF B3 hc hn ht
    obtain ⟨c0, c1, c2, c3, c4, c5⟩ := cells6 X2.out
    obtain ⟨f0, f1, f2, f3, f4, f5⟩ := free6 X2.out
    go_upto_region 3 with (fail)
    clear c0 c1 c2 c3 c4 c5 f0 f1 f2 f3 f4 f5 X2
    generalize (((((w2.setCell _ _).setCell _ _).setCell _ _).setCell _ _).setCell _ _).setCell _ _ = w3 at *
    obtain ⟨c0, c1, c2, c3, c4, c5⟩ := H3.out.cells
    have HNF := Lib.hid (HNX.out (some ⟨g, 0, none⟩) vc w3 H3.out.own.to)
    have HND := Lib.hid (show (((next t.cs kk).toNat : Nat) : Int) = if next t.cs kk ≤ 0 then 0 else next t.cs kk from by split <;> omega)
    generalize next t.cs kk = nx at *
    generalize ((nx.toNat : Nat) : Int) = to at *
    go_wp2_with fail
    with_reducible refine HNF.out.mono ?_
    rintro e w4 ⟨rfl, hb⟩
    clear c0 c1 c2 c3 c4 c5 HNF HNX
    have H4 := Lib.hid (H3.out.below hb)
    have Z4 := Lib.hid (blk Z3.out hb)
    clear hb H3 Z3
    have hsp : (nx < 0 ∧ ¬ 0 < nx ∧ nx ≤ 0 ∧ ¬ 0 ≤ nx ∧ to = 0) ∨ (nx = 0 ∧ to = 0) ∨ (¬ nx < 0 ∧ 0 < nx ∧ ¬ nx ≤ 0 ∧ 0 ≤ nx ∧ to = nx) := by
      have := HND.out
      split at this <;> omega
    rcases hsp with ⟨m1, m2, m3, m4, hto⟩ | ⟨m1, hto⟩ | ⟨m1, m2, m3, m4, hto⟩
    · subst hto
      have H5 := Lib.hid (H4.out.cur 0)
      have Z5 := Lib.hid (blk_g Z4.out (gsetCell w4 w.heap.size 3 (.int .i64 0)) (by intro e; injection e with e; omega))
      obtain ⟨c0, c1, c2, c3, c4, c5⟩ := H4.out.cells
      obtain ⟨f0, f1, f2, f3, f4, f5⟩ := H4.out.free
      go_upto_region 5 with (fail)
      clear c0 c1 c2 c3 c4 c5 f0 f1 f2 f3 f4 f5 H4 Z4
      generalize w4.setCell _ _ = w5 at *
      obtain ⟨c0, c1, c2, c3, c4, c5⟩ := H5.out.cells
      obtain ⟨z0, z1, z2, z3, z4, z5⟩ := cells6 Z5.out
      obtain ⟨f0, f1, f2, f3, f4, f5⟩ := free6 Z5.out
      have SF := Lib.hid (H5.out.gave Z5.out (by have := HG.out; omega) (by omega))
      go_wp2_with fail
      clear z0 z1 z2 z3 z4 z5 c0 c1 c2 c3 c4 c5 f0 f1 f2 f3 f4 f5
      generalize (((((w5.setCell _ _).setCell _ _).setCell _ _).setCell _ _).setCell _ _).setCell _ _ = w9 at *
      first | rw [HT.out] | rw [HT2.out]
      exact bodyPost_ret (v := .tuple #[.agg #[.int .i64 t.rows, .int .i64 t.cols, .slice (some ⟨g, 0, none⟩) t.cs.length vc, .int .i64 0, .bool t.lk, .bool t.ins], .nilIface]) (results_cell_row_tmp rfl _ _ _ (w.heap.size + 1) _ rfl (run_loadVar_row w9 (w.heap.size + 1) 24 24 _ (0, 0) _ SF.out.1 Tryz.underlying24 rfl (by kernel_rfl)) _ rfl) rfl ⟨some ⟨g, 0, none⟩, vc, .nilIface, rfl, SF.out.2.1.to, by exact .inl ⟨rfl, by omega, HWH.out⟩, fun _ => ⟨rfl, SF.out.2.1⟩, SF.out.2.2⟩
    · subst hto
      subst m1
      have H5 := Lib.hid (H4.out.cur 0)
      have Z5 := Lib.hid (blk_g Z4.out (gsetCell w4 w.heap.size 3 (.int .i64 0)) (by intro e; injection e with e; omega))
      obtain ⟨c0, c1, c2, c3, c4, c5⟩ := H4.out.cells
      obtain ⟨f0, f1, f2, f3, f4, f5⟩ := H4.out.free
      go_upto_region 5 with (fail)
      clear c0 c1 c2 c3 c4 c5 f0 f1 f2 f3 f4 f5 H4 Z4
      generalize w4.setCell _ _ = w5 at *
      obtain ⟨c0, c1, c2, c3, c4, c5⟩ := H5.out.cells
      obtain ⟨z0, z1, z2, z3, z4, z5⟩ := cells6 Z5.out
      obtain ⟨f0, f1, f2, f3, f4, f5⟩ := free6 Z5.out
      have SF := Lib.hid (H5.out.gave Z5.out (by have := HG.out; omega) (by omega))
      go_wp2_with fail
      clear z0 z1 z2 z3 z4 z5 c0 c1 c2 c3 c4 c5 f0 f1 f2 f3 f4 f5
      generalize (((((w5.setCell _ _).setCell _ _).setCell _ _).setCell _ _).setCell _ _).setCell _ _ = w9 at *
      first | rw [HT.out] | rw [HT2.out]
      exact bodyPost_ret (v := .tuple #[.agg #[.int .i64 t.rows, .int .i64 t.cols, .slice (some ⟨g, 0, none⟩) t.cs.length vc, .int .i64 0, .bool t.lk, .bool t.ins], .nilIface]) (results_cell_row_tmp rfl _ _ _ (w.heap.size + 1) _ rfl (run_loadVar_row w9 (w.heap.size + 1) 24 24 _ (0, 0) _ SF.out.1 Tryz.underlying24 rfl (by kernel_rfl)) _ rfl) rfl ⟨some ⟨g, 0, none⟩, vc, .nilIface, rfl, SF.out.2.1.to, by exact .inl ⟨rfl, by omega, HWH.out⟩, fun _ => ⟨rfl, SF.out.2.1⟩, SF.out.2.2⟩
    · subst hto
      have H5 := Lib.hid (H4.out.cur to)
      have Z5 := Lib.hid (blk_g Z4.out (gsetCell w4 w.heap.size 3 (.int .i64 to)) (by intro e; injection e with e; omega))
      obtain ⟨c0, c1, c2, c3, c4, c5⟩ := H4.out.cells
      obtain ⟨f0, f1, f2, f3, f4, f5⟩ := H4.out.free
      go_upto_region 5 with (fail)
      clear c0 c1 c2 c3 c4 c5 f0 f1 f2 f3 f4 f5 H4 Z4
      generalize w4.setCell _ _ = w5 at *
      obtain ⟨c0, c1, c2, c3, c4, c5⟩ := H5.out.cells
      obtain ⟨z0, z1, z2, z3, z4, z5⟩ := cells6 Z5.out
      obtain ⟨f0, f1, f2, f3, f4, f5⟩ := free6 Z5.out
      have SF := Lib.hid (H5.out.gave Z5.out (by have := HG.out; omega) (by omega))
      go_wp2_with fail
      clear z0 z1 z2 z3 z4 z5 c0 c1 c2 c3 c4 c5 f0 f1 f2 f3 f4 f5
      generalize (((((w5.setCell _ _).setCell _ _).setCell _ _).setCell _ _).setCell _ _).setCell _ _ = w9 at *
      first | rw [HT.out] | rw [HT2.out]
      exact bodyPost_ret (v := .tuple #[.agg #[.int .i64 t.rows, .int .i64 t.cols, .slice (some ⟨g, 0, none⟩) t.cs.length vc, .int .i64 to, .bool t.lk, .bool t.ins], .nilIface]) (results_cell_row_tmp rfl _ _ _ (w.heap.size + 1) _ rfl (run_loadVar_row w9 (w.heap.size + 1) 24 24 _ (0, 0) _ SF.out.1 Tryz.underlying24 rfl (by kernel_rfl)) _ rfl) rfl ⟨some ⟨g, 0, none⟩, vc, .nilIface, rfl, SF.out.2.1.to, by exact .inl ⟨rfl, by omega, HWH.out⟩, fun _ => ⟨rfl, SF.out.2.1⟩, SF.out.2.2⟩
  · obtain ⟨et, evv, hev⟩ := told_iface ht (by omega)
    subst hev
    have HT := Lib.hid (show (if code = 0 then onto (⟨r, cc, cs, (kk : Int), lk, ins⟩ : S) t else t) = t from by rw [if_neg h0])
    have SF := over6 w2 w.heap.size _ _ _ _ _ _ _ (.int .i64 t.rows) (.int .i64 t.cols) (.slice va t.cs.length vc) (.int .i64 t.cur) (.bool t.lk) (.bool t.ins) X2.out
    have Z3 := Lib.hid (blk_g Z2.out SF.2 (by intro e; injection e with e; omega))
    have X3 := Lib.hid SF.1
    have C3 := Lib.hid (celsIn_away hc SF.2 fun x hx => (not_screen hc HP.out X2.out x hx).1)
    have T3 := Lib.hid (told_other ht SF.2 fun t x h => by
      rw [(cells6 X2.out).2.1] at h
      injection h with h
      cases h)
    have K3 := Lib.hid (below_grown (kept_trans HB.out hb) SF.2 (Nat.le_refl _))
    obtain ⟨c0, c1, c2, c3, c4, c5⟩ := cells6 X2.out
    obtain ⟨f0, f1, f2, f3, f4, f5⟩ := free6 X2.out
    clear hzx hb Z2 HX HZ HB HI SF hc hn ht HNX
    go_upto_region 3 with (fail)
    clear c0 c1 c2 c3 c4 c5 f0 f1 f2 f3 f4 f5 X2
    generalize (((((w2.setCell _ _).setCell _ _).setCell _ _).setCell _ _).setCell _ _).setCell _ _ = w3 at *
    have SG := Lib.hid (lay_E (t := t) Z3.out C3.out T3.out K3.out (show w.heap.size ≤ w.heap.size + 1 by omega) HP.out)
    obtain ⟨c0, c1, c2, c3, c4, c5⟩ := cells6 X3.out
    obtain ⟨z0, z1, z2, z3, z4, z5⟩ := cells6 Z3.out
    obtain ⟨f0, f1, f2, f3, f4, f5⟩ := free6 Z3.out
    replace h0 := Lib.hid h0
    go_wp2_with fail
    clear z0 z1 z2 z3 z4 z5 c0 c1 c2 c3 c4 c5 f0 f1 f2 f3 f4 f5
    generalize (((((w3.setCell _ _).setCell _ _).setCell _ _).setCell _ _).setCell _ _).setCell _ _ = w9 at *
    try rw [HT.out]
    exact bodyPost_ret (v := .tuple #[.agg (six va vc t), .iface et evv]) (results_cell_row_tmp rfl _ _ _ (w.heap.size + 1) _ rfl (run_loadVar_row w9 (w.heap.size + 1) 24 24 _ (0, 0) _ SG.out.1 Tryz.underlying24 rfl (by kernel_rfl)) _ rfl) rfl ⟨va, vc, _, rfl, SG.out.2.1, SG.out.2.2.1, fun hc => absurd hc (by have := h0.out; omega), SG.out.2.2.2⟩
end Kyb
end Go.Proofs.YtpgbnnnfeaodmaaGreatDoor
