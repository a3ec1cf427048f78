/- Put of package grid. -/
import Derived.Test.YtilabepmmebkcaaDoorGrdLeaf
import Derived.Test.YtilabepmmebkcaaDoorGrdCopy
import Derived.Deep.Cut
namespace Go.Proofs.YtilabepmmebkcaaDoor
open Go.RowKit Sha Six Apd Cut Err Att
set_option linter.unusedVariables false
namespace Grd
set_option maxRecDepth 100000 in
set_option maxHeartbeats 8000000 in
theorem put_addr (s : S) (ad : Option Addr) (k : Nat) (a : Int) (f p n : Bool) (sh : Int) (m : Bool) (ch : Nat) (w : World) (h : CelsIn w (.slice ad s.cs.length k) s.cs) (hl : s.cs.length < 100000000) (hhas : (decide (0 ≤ a) && decide (a < (s.cs.length : Int))) = false) :
    Calls Tryd.prog 11 #[.agg #[.int .i64 s.rows, .int .i64 s.cols, .slice ad s.cs.length k, .int .i64 s.cur, .bool s.lk, .bool s.ins], .int .i64 a, .agg #[.bool f, .bool p, .bool n, .int .i64 sh, .bool m, .int .u8 (ch : Int)]] w fun e w' => ∃ va vc, e = .returned (.tuple #[.agg #[.int .i64 s.rows, .int .i64 s.cols, .slice va s.cs.length vc, .int .i64 s.cur, .bool s.lk, .bool s.ins], .iface 42 (.int .i64 4)]) ∧ OwnCels w' w.heap.size (.slice va s.cs.length vc) (s.cs) ∧ Below w.heap.size w w' := by
  obtain ⟨r, c, cs, cur, lk, ins⟩ := s
  simp only at *
  have HB := Lib.hid (kept_trans (kept_trans (al_any w (.cells #[.int .i64 r, .int .i64 c, .slice ad cs.length k, .int .i64 cur, .bool lk, .bool ins] 24)) (al_any _ (.cells #[.bool f, .bool p, .bool n, .int .i64 sh, .bool m, .int .u8 (ch : Int)] 36))) (al_any _ (.cells #[.int .i64 0, .int .i64 0, .slice none 0 0, .int .i64 0, .bool false, .bool false] 24)))
  have HX := Lib.hid (heap_alloc3 w (.cells #[.int .i64 r, .int .i64 c, .slice ad cs.length k, .int .i64 cur, .bool lk, .bool ins] 24) (.cells #[.bool f, .bool p, .bool n, .int .i64 sh, .bool m, .int .u8 (ch : Int)] 36) (.cells #[.int .i64 0, .int .i64 0, .slice none 0 0, .int .i64 0, .bool false, .bool false] 24)).1
  have HY := Lib.hid (heap_alloc3 w (.cells #[.int .i64 r, .int .i64 c, .slice ad cs.length k, .int .i64 cur, .bool lk, .bool ins] 24) (.cells #[.bool f, .bool p, .bool n, .int .i64 sh, .bool m, .int .u8 (ch : Int)] 36) (.cells #[.int .i64 0, .int .i64 0, .slice none 0 0, .int .i64 0, .bool false, .bool false] 24)).2.1
  have HZ := Lib.hid (heap_alloc3 w (.cells #[.int .i64 r, .int .i64 c, .slice ad cs.length k, .int .i64 cur, .bool lk, .bool ins] 24) (.cells #[.bool f, .bool p, .bool n, .int .i64 sh, .bool m, .int .u8 (ch : Int)] 36) (.cells #[.int .i64 0, .int .i64 0, .slice none 0 0, .int .i64 0, .bool false, .bool false] 24)).2.2
  have HC := Lib.hid fun W hb => copy_any ⟨r, c, cs, cur, lk, ins⟩ ad k W (h.below hb) hl
  simp only at HC
  have HL := Lib.hid hl
  clear h hl
  go_enter Tryd.func11, Tryd.ntmps11
  go_upto_region 1 with (fail)
  generalize ((w.alloc _).alloc _).alloc _ = w1 at *
  obtain ⟨c0, c1, c2, c3, c4, c5⟩ := cells6 HX.out
  obtain ⟨f0, f1, f2, f3, f4, f5⟩ := free6 HX.out
  go_wp2_with fail
  with_reducible refine (HC.out _ HB.out).mono ?_
  rintro e w2 ⟨va, vc, rfl, ho, hb⟩
  clear c0 c1 c2 c3 c4 c5 f0 f1 f2 f3 f4 f5
  have HOG := Lib.hid (show ∀ g, (Value.slice va cs.length vc).ownBlock = some g → w.heap.size + 2 < g from fun g hg => by
    have h1 := own_ge ho g hg
    have h2 := there_lt HZ.out
    omega)
  have K2 := kept_hid HB hb
  have X2 := Lib.hid (blk HX.out hb)
  have Y2 := Lib.hid (blk HY.out hb)
  have Z2 := Lib.hid (blk HZ.out hb)
  have O2 := Lib.hid (ho.mono HB.out.size)
  clear ho hb HB HX HY HZ HC
  obtain ⟨c0, c1, c2, c3, c4, c5⟩ := cells6 X2.out
  obtain ⟨f0, f1, f2, f3, f4, f5⟩ := free6 X2.out
  have SF := over6 w2 w.heap.size _ _ _ _ _ _ _ (.int .i64 r) (.int .i64 c) (.slice va cs.length vc) (.int .i64 cur) (.bool lk) (.bool ins) X2.out
  have X3 := Lib.hid SF.1
  have Y3 := Lib.hid (blk_g Y2.out SF.2 (by intro e; injection e with e; omega))
  have Z3 := Lib.hid (blk_g Z2.out SF.2 (by intro e; injection e with e; omega))
  have O3 := Lib.hid (O2.out.kept SF.2 (.inr (fun e => by have := HOG.out _ e; omega)))
  have K3 := Lib.hid (below_grown K2.out SF.2 (Nat.le_refl _))
  clear SF X2 Y2 Z2 O2 K2
  go_upto_region 2 with (fail)
  clear c0 c1 c2 c3 c4 c5 f0 f1 f2 f3 f4 f5
  generalize (((((w2.setCell _ _).setCell _ _).setCell _ _).setCell _ _).setCell _ _).setCell _ _ = w3 at *
  obtain ⟨c0, c1, c2, c3, c4, c5⟩ := cells6 X3.out
  have HH := Lib.hid fun W => has_any r c va cs.length vc cur lk ins a W
  rw [hhas] at HH
  go_wp2_with fail
  with_reducible refine (HH.out _).mono ?_
  rintro e w4 ⟨rfl, hb⟩
  clear c0 c1 c2 c3 c4 c5
  have K4 := kept_hid K3 hb
  have X4 := Lib.hid (blk X3.out hb)
  have Y4 := Lib.hid (blk Y3.out hb)
  have Z4 := Lib.hid (blk Z3.out hb)
  have O4 := Lib.hid (OwnCels.below O3.out hb)
  clear hb K3 X3 Y3 Z3 O3 HH hhas
  obtain ⟨c0, c1, c2, c3, c4, c5⟩ := cells6 X4.out
  obtain ⟨d0, d1, d2, d3, d4, d5⟩ := cells6 Z4.out
  obtain ⟨f0, f1, f2, f3, f4, f5⟩ := free6 Z4.out
  have SF := Lib.hid (over6 w4 (w.heap.size + 2) _ _ _ _ _ _ _ (.int .i64 r) (.int .i64 c) (.slice va cs.length vc) (.int .i64 cur) (.bool lk) (.bool ins) Z4.out)
  go_wp2_with fail
  clear c0 c1 c2 c3 c4 c5 d0 d1 d2 d3 d4 d5 f0 f1 f2 f3 f4 f5
  generalize (((((w4.setCell _ _).setCell _ _).setCell _ _).setCell _ _).setCell _ _).setCell _ _ = w9 at *
  exact bodyPost_ret (v := .tuple #[.agg #[.int .i64 r, .int .i64 c, .slice va cs.length vc, .int .i64 cur, .bool lk, .bool ins], .iface 42 (.int .i64 4)]) (results_cell_row_tmp rfl _ _ _ (w.heap.size + 2) _ rfl (run_loadVar_row _ (w.heap.size + 2) 24 24 _ (0, 0) _ SF.out.1 Tryd.underlying24 rfl (by kernel_rfl)) (.iface 42 (.int .i64 4)) rfl) rfl ⟨va, vc, rfl, OwnCels.away O4.out SF.out.2 (fun e => by have := HOG.out _ e; omega), below_grown K4.out SF.out.2 (by omega)⟩
set_option maxRecDepth 100000 in
set_option maxHeartbeats 8000000 in
theorem put_arg (s : S) (ad : Option Addr) (k : Nat) (a : Int) (f p n : Bool) (sh : Int) (m : Bool) (ch : Nat) (w : World) (h : CelsIn w (.slice ad s.cs.length k) s.cs) (hl : s.cs.length < 100000000) (hhas : (decide (0 ≤ a) && decide (a < (s.cs.length : Int))) = true) (hch : ch < 256) (hcr : cright ⟨f, p, n, sh, m, ch⟩ = false) :
    Calls Tryd.prog 11 #[.agg #[.int .i64 s.rows, .int .i64 s.cols, .slice ad s.cs.length k, .int .i64 s.cur, .bool s.lk, .bool s.ins], .int .i64 a, .agg #[.bool f, .bool p, .bool n, .int .i64 sh, .bool m, .int .u8 (ch : Int)]] w fun e w' => ∃ va vc, e = .returned (.tuple #[.agg #[.int .i64 s.rows, .int .i64 s.cols, .slice va s.cs.length vc, .int .i64 s.cur, .bool s.lk, .bool s.ins], .iface 42 (.int .i64 1)]) ∧ OwnCels w' w.heap.size (.slice va s.cs.length vc) (s.cs) ∧ Below w.heap.size w w' := by
  obtain ⟨r, c, cs, cur, lk, ins⟩ := s
  simp only at *
  have HB := Lib.hid (kept_trans (kept_trans (al_any w (.cells #[.int .i64 r, .int .i64 c, .slice ad cs.length k, .int .i64 cur, .bool lk, .bool ins] 24)) (al_any _ (.cells #[.bool f, .bool p, .bool n, .int .i64 sh, .bool m, .int .u8 (ch : Int)] 36))) (al_any _ (.cells #[.int .i64 0, .int .i64 0, .slice none 0 0, .int .i64 0, .bool false, .bool false] 24)))
  have HX := Lib.hid (heap_alloc3 w (.cells #[.int .i64 r, .int .i64 c, .slice ad cs.length k, .int .i64 cur, .bool lk, .bool ins] 24) (.cells #[.bool f, .bool p, .bool n, .int .i64 sh, .bool m, .int .u8 (ch : Int)] 36) (.cells #[.int .i64 0, .int .i64 0, .slice none 0 0, .int .i64 0, .bool false, .bool false] 24)).1
  have HY := Lib.hid (heap_alloc3 w (.cells #[.int .i64 r, .int .i64 c, .slice ad cs.length k, .int .i64 cur, .bool lk, .bool ins] 24) (.cells #[.bool f, .bool p, .bool n, .int .i64 sh, .bool m, .int .u8 (ch : Int)] 36) (.cells #[.int .i64 0, .int .i64 0, .slice none 0 0, .int .i64 0, .bool false, .bool false] 24)).2.1
  have HZ := Lib.hid (heap_alloc3 w (.cells #[.int .i64 r, .int .i64 c, .slice ad cs.length k, .int .i64 cur, .bool lk, .bool ins] 24) (.cells #[.bool f, .bool p, .bool n, .int .i64 sh, .bool m, .int .u8 (ch : Int)] 36) (.cells #[.int .i64 0, .int .i64 0, .slice none 0 0, .int .i64 0, .bool false, .bool false] 24)).2.2
  have HC := Lib.hid fun W hb => copy_any ⟨r, c, cs, cur, lk, ins⟩ ad k W (h.below hb) hl
  simp only at HC
  have HL := Lib.hid hl
  clear h hl
  go_enter Tryd.func11, Tryd.ntmps11
  go_upto_region 1 with (fail)
  generalize ((w.alloc _).alloc _).alloc _ = w1 at *
  obtain ⟨c0, c1, c2, c3, c4, c5⟩ := cells6 HX.out
  obtain ⟨f0, f1, f2, f3, f4, f5⟩ := free6 HX.out
  go_wp2_with fail
  with_reducible refine (HC.out _ HB.out).mono ?_
  rintro e w2 ⟨va, vc, rfl, ho, hb⟩
  clear c0 c1 c2 c3 c4 c5 f0 f1 f2 f3 f4 f5
  have HOG := Lib.hid (show ∀ g, (Value.slice va cs.length vc).ownBlock = some g → w.heap.size + 2 < g from fun g hg => by
    have h1 := own_ge ho g hg
    have h2 := there_lt HZ.out
    omega)
  have K2 := kept_hid HB hb
  have X2 := Lib.hid (blk HX.out hb)
  have Y2 := Lib.hid (blk HY.out hb)
  have Z2 := Lib.hid (blk HZ.out hb)
  have O2 := Lib.hid (ho.mono HB.out.size)
  clear ho hb HB HX HY HZ HC
  obtain ⟨c0, c1, c2, c3, c4, c5⟩ := cells6 X2.out
  obtain ⟨f0, f1, f2, f3, f4, f5⟩ := free6 X2.out
  have SF := over6 w2 w.heap.size _ _ _ _ _ _ _ (.int .i64 r) (.int .i64 c) (.slice va cs.length vc) (.int .i64 cur) (.bool lk) (.bool ins) X2.out
  have X3 := Lib.hid SF.1
  have Y3 := Lib.hid (blk_g Y2.out SF.2 (by intro e; injection e with e; omega))
  have Z3 := Lib.hid (blk_g Z2.out SF.2 (by intro e; injection e with e; omega))
  have O3 := Lib.hid (O2.out.kept SF.2 (.inr (fun e => by have := HOG.out _ e; omega)))
  have K3 := Lib.hid (below_grown K2.out SF.2 (Nat.le_refl _))
  clear SF X2 Y2 Z2 O2 K2
  go_upto_region 2 with (fail)
  clear c0 c1 c2 c3 c4 c5 f0 f1 f2 f3 f4 f5
  generalize (((((w2.setCell _ _).setCell _ _).setCell _ _).setCell _ _).setCell _ _).setCell _ _ = w3 at *
  obtain ⟨c0, c1, c2, c3, c4, c5⟩ := cells6 X3.out
  have HH := Lib.hid fun W => has_any r c va cs.length vc cur lk ins a W
  rw [hhas] at HH
  go_wp2_with fail
  with_reducible refine (HH.out _).mono ?_
  rintro e w4 ⟨rfl, hb⟩
  clear c0 c1 c2 c3 c4 c5
  have K4 := kept_hid K3 hb
  have X4 := Lib.hid (blk X3.out hb)
  have Y4 := Lib.hid (blk Y3.out hb)
  have Z4 := Lib.hid (blk Z3.out hb)
  have O4 := Lib.hid (OwnCels.below O3.out hb)
  clear hb K3 X3 Y3 Z3 O3 HH hhas
  have HCC := Lib.hid fun W => checkCell_any f p n sh m ch W hch
  rw [cellv_no hcr] at HCC
  clear hcr hch
  obtain ⟨b0, b1, b2, b3, b4, b5⟩ := cells6 Y4.out
  go_wp2_with fail
  with_reducible refine (HCC.out _).mono ?_
  rintro e w5 ⟨rfl, hb⟩
  clear b0 b1 b2 b3 b4 b5
  have K5 := kept_hid K4 hb
  have X5 := Lib.hid (blk X4.out hb)
  have Y5 := Lib.hid (blk Y4.out hb)
  have Z5 := Lib.hid (blk Z4.out hb)
  have O5 := Lib.hid (OwnCels.below O4.out hb)
  clear hb K4 X4 Y4 Z4 O4 HCC
  obtain ⟨c0, c1, c2, c3, c4, c5⟩ := cells6 X5.out
  obtain ⟨d0, d1, d2, d3, d4, d5⟩ := cells6 Z5.out
  obtain ⟨f0, f1, f2, f3, f4, f5⟩ := free6 Z5.out
  have SF := Lib.hid (over6 w5 (w.heap.size + 2) _ _ _ _ _ _ _ (.int .i64 r) (.int .i64 c) (.slice va cs.length vc) (.int .i64 cur) (.bool lk) (.bool ins) Z5.out)
  go_wp2_with fail
  clear c0 c1 c2 c3 c4 c5 d0 d1 d2 d3 d4 d5 f0 f1 f2 f3 f4 f5
  generalize (((((w5.setCell _ _).setCell _ _).setCell _ _).setCell _ _).setCell _ _).setCell _ _ = w9 at *
  exact bodyPost_ret (v := .tuple #[.agg #[.int .i64 r, .int .i64 c, .slice va cs.length vc, .int .i64 cur, .bool lk, .bool ins], .iface 42 (.int .i64 1)]) (results_cell_row_tmp rfl _ _ _ (w.heap.size + 2) _ rfl (run_loadVar_row _ (w.heap.size + 2) 24 24 _ (0, 0) _ SF.out.1 Tryd.underlying24 rfl (by kernel_rfl)) (.iface 42 (.int .i64 1)) rfl) rfl ⟨va, vc, rfl, OwnCels.away O5.out SF.out.2 (fun e => by have := HOG.out _ e; omega), below_grown K5.out SF.out.2 (by omega)⟩
set_option maxRecDepth 100000 in
set_option maxHeartbeats 8000000 in
theorem put_ok (s : S) (ad : Option Addr) (k : Nat) (a : Nat) (f p n : Bool) (sh : Int) (m : Bool) (ch : Nat) (w : World) (h : CelsIn w (.slice ad s.cs.length k) s.cs) (hl : s.cs.length < 100000000) (hhas : (decide (0 ≤ (a : Int)) && decide ((a : Int) < (s.cs.length : Int))) = true) (hch : ch < 256) (hcr : cright ⟨f, p, n, sh, m, ch⟩ = true) :
    Calls Tryd.prog 11 #[.agg #[.int .i64 s.rows, .int .i64 s.cols, .slice ad s.cs.length k, .int .i64 s.cur, .bool s.lk, .bool s.ins], .int .i64 (a : Int), .agg #[.bool f, .bool p, .bool n, .int .i64 sh, .bool m, .int .u8 (ch : Int)]] w fun e w' => ∃ va vc, e = .returned (.tuple #[.agg #[.int .i64 s.rows, .int .i64 s.cols, .slice va s.cs.length vc, .int .i64 s.cur, .bool s.lk, .bool s.ins], .nilIface]) ∧ OwnCels w' w.heap.size (.slice va s.cs.length vc) (s.cs.set a ⟨f, p, n, sh, m, ch⟩) ∧ Below w.heap.size w w' := by
  obtain ⟨r, c, cs, cur, lk, ins⟩ := s
  simp only at *
  have HB := Lib.hid (kept_trans (kept_trans (al_any w (.cells #[.int .i64 r, .int .i64 c, .slice ad cs.length k, .int .i64 cur, .bool lk, .bool ins] 24)) (al_any _ (.cells #[.bool f, .bool p, .bool n, .int .i64 sh, .bool m, .int .u8 (ch : Int)] 36))) (al_any _ (.cells #[.int .i64 0, .int .i64 0, .slice none 0 0, .int .i64 0, .bool false, .bool false] 24)))
  have HX := Lib.hid (heap_alloc3 w (.cells #[.int .i64 r, .int .i64 c, .slice ad cs.length k, .int .i64 cur, .bool lk, .bool ins] 24) (.cells #[.bool f, .bool p, .bool n, .int .i64 sh, .bool m, .int .u8 (ch : Int)] 36) (.cells #[.int .i64 0, .int .i64 0, .slice none 0 0, .int .i64 0, .bool false, .bool false] 24)).1
  have HY := Lib.hid (heap_alloc3 w (.cells #[.int .i64 r, .int .i64 c, .slice ad cs.length k, .int .i64 cur, .bool lk, .bool ins] 24) (.cells #[.bool f, .bool p, .bool n, .int .i64 sh, .bool m, .int .u8 (ch : Int)] 36) (.cells #[.int .i64 0, .int .i64 0, .slice none 0 0, .int .i64 0, .bool false, .bool false] 24)).2.1
  have HZ := Lib.hid (heap_alloc3 w (.cells #[.int .i64 r, .int .i64 c, .slice ad cs.length k, .int .i64 cur, .bool lk, .bool ins] 24) (.cells #[.bool f, .bool p, .bool n, .int .i64 sh, .bool m, .int .u8 (ch : Int)] 36) (.cells #[.int .i64 0, .int .i64 0, .slice none 0 0, .int .i64 0, .bool false, .bool false] 24)).2.2
  have HC := Lib.hid fun W hb => copy_any ⟨r, c, cs, cur, lk, ins⟩ ad k W (h.below hb) hl
  simp only at HC
  have HL := Lib.hid hl
  clear h hl
  go_enter Tryd.func11, Tryd.ntmps11
  go_upto_region 1 with (fail)
  generalize ((w.alloc _).alloc _).alloc _ = w1 at *
  obtain ⟨c0, c1, c2, c3, c4, c5⟩ := cells6 HX.out
  obtain ⟨f0, f1, f2, f3, f4, f5⟩ := free6 HX.out
  go_wp2_with fail
  with_reducible refine (HC.out _ HB.out).mono ?_
  rintro e w2 ⟨va, vc, rfl, ho, hb⟩
  clear c0 c1 c2 c3 c4 c5 f0 f1 f2 f3 f4 f5
  have HOG := Lib.hid (show ∀ g, (Value.slice va cs.length vc).ownBlock = some g → w.heap.size + 2 < g from fun g hg => by
    have h1 := own_ge ho g hg
    have h2 := there_lt HZ.out
    omega)
  have K2 := kept_hid HB hb
  have X2 := Lib.hid (blk HX.out hb)
  have Y2 := Lib.hid (blk HY.out hb)
  have Z2 := Lib.hid (blk HZ.out hb)
  have O2 := Lib.hid (ho.mono HB.out.size)
  clear ho hb HB HX HY HZ HC
  obtain ⟨c0, c1, c2, c3, c4, c5⟩ := cells6 X2.out
  obtain ⟨f0, f1, f2, f3, f4, f5⟩ := free6 X2.out
  have SF := over6 w2 w.heap.size _ _ _ _ _ _ _ (.int .i64 r) (.int .i64 c) (.slice va cs.length vc) (.int .i64 cur) (.bool lk) (.bool ins) X2.out
  have X3 := Lib.hid SF.1
  have Y3 := Lib.hid (blk_g Y2.out SF.2 (by intro e; injection e with e; omega))
  have Z3 := Lib.hid (blk_g Z2.out SF.2 (by intro e; injection e with e; omega))
  have O3 := Lib.hid (O2.out.kept SF.2 (.inr (fun e => by have := HOG.out _ e; omega)))
  have K3 := Lib.hid (below_grown K2.out SF.2 (Nat.le_refl _))
  clear SF X2 Y2 Z2 O2 K2
  go_upto_region 2 with (fail)
  clear c0 c1 c2 c3 c4 c5 f0 f1 f2 f3 f4 f5
  generalize (((((w2.setCell _ _).setCell _ _).setCell _ _).setCell _ _).setCell _ _).setCell _ _ = w3 at *
  obtain ⟨c0, c1, c2, c3, c4, c5⟩ := cells6 X3.out
  have HH := Lib.hid fun W => has_any r c va cs.length vc cur lk ins (a : Int) W
  rw [hhas] at HH
  go_wp2_with fail
  with_reducible refine (HH.out _).mono ?_
  rintro e w4 ⟨rfl, hb⟩
  clear c0 c1 c2 c3 c4 c5
  have K4 := kept_hid K3 hb
  have X4 := Lib.hid (blk X3.out hb)
  have Y4 := Lib.hid (blk Y3.out hb)
  have Z4 := Lib.hid (blk Z3.out hb)
  have O4 := Lib.hid (OwnCels.below O3.out hb)
  clear hb K3 X3 Y3 Z3 O3 HH
  have HCC := Lib.hid fun W => checkCell_any f p n sh m ch W hch
  rw [cellv_yes hcr] at HCC
  clear hcr hch
  obtain ⟨b0, b1, b2, b3, b4, b5⟩ := cells6 Y4.out
  go_wp2_with fail
  with_reducible refine (HCC.out _).mono ?_
  rintro e w5 ⟨rfl, hb⟩
  clear b0 b1 b2 b3 b4 b5
  have K5 := kept_hid K4 hb
  have X5 := Lib.hid (blk X4.out hb)
  have Y5 := Lib.hid (blk Y4.out hb)
  have Z5 := Lib.hid (blk Z4.out hb)
  have O5 := Lib.hid (OwnCels.below O4.out hb)
  clear hb K4 X4 Y4 Z4 O4 HCC
  have hlt : a < cs.length := by
    simp only [Bool.and_eq_true, decide_eq_true_eq] at hhas; omega
  obtain ⟨g, vc', hv, _, hgl, _⟩ := OwnCels.at O5.out (by omega)
  injection hv with e1 e2 e3
  subst e1
  subst e3
  clear e2
  have HG := Lib.hid (show w.heap.size + 2 < g from HOG.out g rfl)
  obtain ⟨yf, yp, yn, ys, ym, yc, ey⟩ := c_eta (cs.getD a noC)
  obtain ⟨⟨p0, p1, p2, p3, p4, p5⟩, fz⟩ := OwnCels.spot O5.out hlt ey
  obtain ⟨q0, q1, q2, q3, q4, q5⟩ : w5.frozen? ⟨g, a * 6, none⟩ = false ∧ w5.frozen? ⟨g, a * 6 + 1, none⟩ = false ∧ w5.frozen? ⟨g, a * 6 + 2, none⟩ = false ∧ w5.frozen? ⟨g, a * 6 + 3, none⟩ = false ∧ w5.frozen? ⟨g, a * 6 + 4, none⟩ = false ∧ w5.frozen? ⟨g, a * 6 + 5, none⟩ = false := ⟨fz _, fz _, fz _, fz _, fz _, fz _⟩
  have SO := OwnCels.set O5.out hlt ⟨f, p, n, sh, m, ch⟩
  have O6 := Lib.hid SO.1
  have X6 := Lib.hid (blk_g X5.out SO.2 (by intro e; injection e with e; have := HG.out; omega))
  have Z6 := Lib.hid (blk_g Z5.out SO.2 (by intro e; injection e with e; have := HG.out; omega))
  have K6 := Lib.hid (below_grown K5.out SO.2 (by have := HG.out; omega))
  obtain ⟨b0, b1, b2, b3, b4, b5⟩ := cells6 Y5.out
  obtain ⟨c0, c1, c2, c3, c4, c5⟩ := cells6 X5.out
  have hi0 : (0 : Int) ≤ (a : Int) := by omega
  have hi1 : (a : Int) < (cs.length : Int) := by omega
  clear SO hhas fz ey K5 Z5 O5 Y5 X5
  go_upto_region 8 with (fail)
  clear b0 b1 b2 b3 b4 b5 c0 c1 c2 c3 c4 c5 p0 p1 p2 p3 p4 p5 q0 q1 q2 q3 q4 q5
  generalize (((((w5.setCell _ _).setCell _ _).setCell _ _).setCell _ _).setCell _ _).setCell _ _ = w6 at *
  obtain ⟨c0, c1, c2, c3, c4, c5⟩ := cells6 X6.out
  obtain ⟨d0, d1, d2, d3, d4, d5⟩ := cells6 Z6.out
  obtain ⟨f0, f1, f2, f3, f4, f5⟩ := free6 Z6.out
  have SF := Lib.hid (over6 w6 (w.heap.size + 2) _ _ _ _ _ _ _ (.int .i64 r) (.int .i64 c) (.slice (some ⟨g, 0, none⟩) cs.length vc) (.int .i64 cur) (.bool lk) (.bool ins) Z6.out)
  go_wp2_with fail
  clear c0 c1 c2 c3 c4 c5 d0 d1 d2 d3 d4 d5 f0 f1 f2 f3 f4 f5
  generalize (((((w6.setCell _ _).setCell _ _).setCell _ _).setCell _ _).setCell _ _).setCell _ _ = w9 at *
  exact bodyPost_ret (v := .tuple #[.agg #[.int .i64 r, .int .i64 c, .slice (some ⟨g, 0, none⟩) cs.length vc, .int .i64 cur, .bool lk, .bool ins], .nilIface]) (results_cell_row_tmp rfl _ _ _ (w.heap.size + 2) _ rfl (run_loadVar_row _ (w.heap.size + 2) 24 24 _ (0, 0) _ SF.out.1 Tryd.underlying24 rfl (by kernel_rfl)) (.nilIface) rfl) rfl ⟨some ⟨g, 0, none⟩, vc, rfl, OwnCels.away O6.out SF.out.2 (fun e => by have := HOG.out _ e; omega), below_grown K6.out SF.out.2 (by omega)⟩
end Grd
end Go.Proofs.YtilabepmmebkcaaDoor
