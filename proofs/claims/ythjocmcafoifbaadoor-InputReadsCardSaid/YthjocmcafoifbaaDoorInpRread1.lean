/- The document's Read of submissions returns what the plain function says. Written by tools/gen_inp_rread.py. -/
import Derived.Test.YthjocmcafoifbaaDoorInpRletters
import Derived.Test.YthjocmcafoifbaaDoorInpStep
import Derived.Test.YthjocmcafoifbaaDoorInpRuns
import Derived.Deep.RegionHeld3
import Derived.Deep.Cut
namespace Go.Proofs.YthjocmcafoifbaaDoor
open Go.RowKit Sha Cut Err Six Att Apd
namespace Inp
theorem results_cell_2 {fn : Func} {p u1 u2 : Tmp} {ty : TypeId} (h : fn.results = #[.cell p ty, .tmp u1, .tmp u2]) (tmps : Array Value) (P : Program) (w : World) (g : Nat) (cs : Array Value)
    (hp : tmps.getD p undef = .pointer (some ⟨g, 0, none⟩)) (hl : (loadVar ty ⟨g, 0, none⟩).run P w = .ok (.agg cs) w) (x1 x2 : Value) (h1 : tmps.getD u1 undef = x1) (h2 : tmps.getD u2 undef = x2) :
    (results fn tmps).run P w = .ok (.tuple #[.agg cs, x1, x2]) w := by
  subst h1 h2
  have hp' : tmps[p]?.getD undef = .pointer (some ⟨g, 0, none⟩) := by simpa using hp
  simp [results, h]
  simp [hp', asAddr, hl]
theorem first_in {w : World} {ad : Option Addr} {cap : Nat} {xs : List Nat} (h : BytesIn w (.slice ad xs.length cap) xs) (hk : 0 < xs.length) : ∃ g o, ad = some ⟨g, o, none⟩ ∧ w.cell? ⟨g, o, none⟩ = some (.int .u8 ((xs.getD 0 0 : Nat) : Int)) := by
  obtain ⟨ad', c, hv, _, hc⟩ := h
  injection hv with e1 _ _
  subst e1
  rcases hc with h0 | ⟨g, o, he, hc⟩
  · rw [h0] at hk; simp at hk
  · exact ⟨g, o, he, hc 0 hk⟩
theorem set3b (a : World) (B : Nat) (t : TypeId) (a0 a1 a2 u0 u1 u2 : Value) {w : World} (h : a.heap[B]? = some (.cells #[a0, a1, a2] t (0, 0))) (hb : Below w.heap.size w a) (hB : w.heap.size ≤ B) :
    (((a.setCell ⟨B, 0, none⟩ u0).setCell ⟨B, 1, none⟩ u1).setCell ⟨B, 2, none⟩ u2).heap[B]? = some (.cells #[u0, u1, u2] t (0, 0)) ∧
    a.grownBy (((a.setCell ⟨B, 0, none⟩ u0).setCell ⟨B, 1, none⟩ u1).setCell ⟨B, 2, none⟩ u2) (some B) ∧
    Below w.heap.size w (((a.setCell ⟨B, 0, none⟩ u0).setCell ⟨B, 1, none⟩ u1).setCell ⟨B, 2, none⟩ u2) := by
  have h := heap_setCell_same _ B 0 _ t u0 h
  have h := heap_setCell_same _ B 1 _ t u1 h
  have h := heap_setCell_same _ B 2 _ t u2 h
  have hs : a.grownBy (((a.setCell ⟨B, 0, none⟩ u0).setCell ⟨B, 1, none⟩ u1).setCell ⟨B, 2, none⟩ u2) (some B) :=
    gtrans (gsetCell _ _ _ _) (gtrans (gsetCell _ _ _ _) (gsetCell _ _ _ _))
  exact ⟨h, hs, hb.grown hs hb.size (by intro k hk; injection hk with hk; omega)⟩
set_option maxRecDepth 100000 in
set_option maxHeartbeats 4000000 in
theorem rread_long {xs : List Nat} (ad : Option Addr) (cap z : Nat) (w : World) (_hB : BytesIn w (.slice ad xs.length cap) xs) (_hx : xs.length < 1000000) (R : I × Nat × Int) (hl : 8192 < xs.length) (hR : R = (noneI, 6, 8192)) :
    Calls Tryd.prog 11 #[.slice ad xs.length cap, .int .i64 (z : Int)] w fun e w' => ∃ oa n oc, e = .returned (.tuple #[.agg #[.int .u8 (R.1.aid : Int), .int .i64 R.1.cur, .slice oa n oc], .int .i64 (R.2.1 : Nat), .int .i64 R.2.2]) ∧ FldsIn w' 0 (.slice oa n oc) R.1.fs ∧ Below w.heap.size w w' := by
  have HA := Lib.hid (al_any w (.cells #[.int .u8 0, .int .i64 0, .slice none 0 0] 27))
  have HN := Lib.hid (heap_alloc_new w (.cells #[.int .u8 0, .int .i64 0, .slice none 0 0] 27))
  have hg : (8192 : Int) < (xs.length : Int) := by omega
  clear hl
  go_enter Tryd.func11, Tryd.ntmps11
  go_upto_region 1 with (fail)
  generalize w.alloc (.cells #[.int .u8 0, .int .i64 0, .slice none 0 0] 27) = w1 at *
  obtain ⟨d0, d1, d2⟩ := cells3 HN.out
  obtain ⟨f0, f1, f2⟩ := free3 HN.out
  go_wp2_with fail
  clear d0 d1 d2 f0 f1 f2
  have SF := Lib.hid (set3b w1 w.heap.size 27 _ _ _ (.int .u8 0) (.int .i64 0) (.slice none 0 0) HN.out HA.out (Nat.le_refl _))
  generalize ((w1.setCell ⟨w.heap.size, 0, none⟩ (.int .u8 0)).setCell ⟨w.heap.size, 1, none⟩ (.int .i64 0)).setCell ⟨w.heap.size, 2, none⟩ (.slice none 0 0) = wz at *
  subst hR
  refine bodyPost_ret (v := .tuple #[.agg #[.int .u8 0, .int .i64 0, .slice none 0 0], .int .i64 6, .int .i64 8192]) (results_cell_2 rfl _ _ _ w.heap.size _ rfl (run_loadVar_row wz w.heap.size 27 27 _ (0, 0) _ SF.out.1 Tryd.underlying27 rfl (by kernel_rfl)) (.int .i64 6) (.int .i64 8192) rfl rfl) rfl ?_
  exact ⟨_, _, _, rfl, fldsIn_nil _ _, SF.out.2.2⟩
set_option maxRecDepth 100000 in
set_option maxHeartbeats 4000000 in
theorem rread_none {xs : List Nat} (ad : Option Addr) (cap z : Nat) (w : World) (_hB : BytesIn w (.slice ad xs.length cap) xs) (_hx : xs.length < 1000000) (R : I × Nat × Int) (hl : xs.length = 0) (hR : R = (noneI, 2, 0)) :
    Calls Tryd.prog 11 #[.slice ad xs.length cap, .int .i64 (z : Int)] w fun e w' => ∃ oa n oc, e = .returned (.tuple #[.agg #[.int .u8 (R.1.aid : Int), .int .i64 R.1.cur, .slice oa n oc], .int .i64 (R.2.1 : Nat), .int .i64 R.2.2]) ∧ FldsIn w' 0 (.slice oa n oc) R.1.fs ∧ Below w.heap.size w w' := by
  have HA := Lib.hid (al_any w (.cells #[.int .u8 0, .int .i64 0, .slice none 0 0] 27))
  have HN := Lib.hid (heap_alloc_new w (.cells #[.int .u8 0, .int .i64 0, .slice none 0 0] 27))
  have hg : ¬ (8192 : Int) < (xs.length : Int) := by omega
  have hg2 : ((xs.length : Int) == 0) = true := by simp; exact List.eq_nil_of_length_eq_zero hl
  have HL := Lib.hid hl
  clear hl
  go_enter Tryd.func11, Tryd.ntmps11
  go_upto_region 1 with (fail)
  generalize w.alloc (.cells #[.int .u8 0, .int .i64 0, .slice none 0 0] 27) = w1 at *
  obtain ⟨d0, d1, d2⟩ := cells3 HN.out
  obtain ⟨f0, f1, f2⟩ := free3 HN.out
  go_wp2_with fail
  clear d0 d1 d2 f0 f1 f2
  have SF := Lib.hid (set3b w1 w.heap.size 27 _ _ _ (.int .u8 0) (.int .i64 0) (.slice none 0 0) HN.out HA.out (Nat.le_refl _))
  generalize ((w1.setCell ⟨w.heap.size, 0, none⟩ (.int .u8 0)).setCell ⟨w.heap.size, 1, none⟩ (.int .i64 0)).setCell ⟨w.heap.size, 2, none⟩ (.slice none 0 0) = wz at *
  subst hR
  refine bodyPost_ret (v := .tuple #[.agg #[.int .u8 0, .int .i64 0, .slice none 0 0], .int .i64 2, .int .i64 0]) (results_cell_2 rfl _ _ _ w.heap.size _ rfl (run_loadVar_row wz w.heap.size 27 27 _ (0, 0) _ SF.out.1 Tryd.underlying27 rfl (by kernel_rfl)) (.int .i64 2) (.int .i64 0) rfl rfl) rfl ?_
  exact ⟨_, _, _, rfl, fldsIn_nil _ _, SF.out.2.2⟩
set_option maxRecDepth 100000 in
set_option maxHeartbeats 4000000 in
theorem rread_strange {xs : List Nat} (ad : Option Addr) (cap z : Nat) (w : World) (hB : BytesIn w (.slice ad xs.length cap) xs) (_hx : xs.length < 1000000) (R : I × Nat × Int) (hl : 0 < xs.length) (hl2 : xs.length ≤ 8192) (hb8 : xs.getD 0 0 < 256) (c : Nat) (hcm : xs.getD 0 0 = c) (hk : aid c = false) (hR : R = (noneI, 3, 0)) :
    Calls Tryd.prog 11 #[.slice ad xs.length cap, .int .i64 (z : Int)] w fun e w' => ∃ oa n oc, e = .returned (.tuple #[.agg #[.int .u8 (R.1.aid : Int), .int .i64 R.1.cur, .slice oa n oc], .int .i64 (R.2.1 : Nat), .int .i64 R.2.2]) ∧ FldsIn w' 0 (.slice oa n oc) R.1.fs ∧ Below w.heap.size w w' := by
  have HA := Lib.hid (al_any w (.cells #[.int .u8 0, .int .i64 0, .slice none 0 0] 27))
  have HN := Lib.hid (heap_alloc_new w (.cells #[.int .u8 0, .int .i64 0, .slice none 0 0] 27))
  have hg : ¬ (8192 : Int) < (xs.length : Int) := by omega
  have hg2 : ((xs.length : Int) == 0) = false := by simp; exact List.length_pos_iff.1 hl
  have hg3 : (0 : Int) < (xs.length : Int) := by omega
  obtain ⟨g, o, rfl, b0⟩ := first_in hB hl
  rw [hcm] at b0 hb8
  have HK := Lib.hid fun W => raid_any c W hb8
  have HW := Lib.hid fun W => rbare_any c W hb8
  have HC0 := Lib.hid b0
  have HB0 := Lib.hid hB
  rw [hk] at HK
  clear hk hB hl hl2 hcm hb8 b0
  go_enter Tryd.func11, Tryd.ntmps11
  go_upto_region 1 with (fail)
  generalize w.alloc (.cells #[.int .u8 0, .int .i64 0, .slice none 0 0] 27) = w1 at *
  have b0 := (HA.out.cell (p := ⟨g, o, none⟩) (cell_lt HC0.out)).trans HC0.out
  have l1 := there_lt HN.out
  have HS := al_any w1 (.cells #[.int .u8 (c : Int), .int .i64 0, .slice none 0 0] 27)
  have b2 := (HS.cell (p := ⟨g, o, none⟩) (cell_lt b0)).trans b0
  have K2 := kept_hid HA HS
  have N2 := Lib.hid (blk HN.out HS)
  have L2 := Lib.hid (heap_alloc_new w1 (.cells #[.int .u8 (c : Int), .int .i64 0, .slice none 0 0] 27))
  have HRL := Lib.hid (there_lt HN.out)
  clear HS
  go_wp2_with fail
  clear b0 l1
  generalize w1.heap.size = L at *
  generalize w1.alloc (.cells #[.int .u8 (c : Int), .int .i64 0, .slice none 0 0] 27) = w2 at *
  with_reducible refine (HK.out _).mono ?_
  rintro e w' ⟨rfl, rfl⟩
  obtain ⟨d0, d1, d2⟩ := cells3 N2.out
  obtain ⟨f0, f1, f2⟩ := free3 N2.out
  go_wp2_with fail
  clear d0 d1 d2 f0 f1 f2
  have SF := Lib.hid (set3b w2 w.heap.size 27 _ _ _ (.int .u8 0) (.int .i64 0) (.slice none 0 0) N2.out K2.out (Nat.le_refl _))
  generalize ((w2.setCell ⟨w.heap.size, 0, none⟩ (.int .u8 0)).setCell ⟨w.heap.size, 1, none⟩ (.int .i64 0)).setCell ⟨w.heap.size, 2, none⟩ (.slice none 0 0) = wz at *
  subst hR
  refine bodyPost_ret (v := .tuple #[.agg #[.int .u8 0, .int .i64 0, .slice none 0 0], .int .i64 3, .int .i64 0]) (results_cell_2 rfl _ _ _ w.heap.size _ rfl (run_loadVar_row wz w.heap.size 27 27 _ (0, 0) _ SF.out.1 Tryd.underlying27 rfl (by kernel_rfl)) (.int .i64 3) (.int .i64 0) rfl rfl) rfl ?_
  exact ⟨_, _, _, rfl, fldsIn_nil _ _, SF.out.2.2⟩
set_option maxRecDepth 100000 in
set_option maxHeartbeats 4000000 in
theorem rread_more {xs : List Nat} (ad : Option Addr) (cap z : Nat) (w : World) (hB : BytesIn w (.slice ad xs.length cap) xs) (_hx : xs.length < 1000000) (R : I × Nat × Int) (hl : 0 < xs.length) (hl2 : xs.length ≤ 8192) (hb8 : xs.getD 0 0 < 256) (c : Nat) (hcm : xs.getD 0 0 = c) (hk : aid c = true) (hw : bare c = true) (h1 : 1 < xs.length) (hR : R = (noneI, 1, 1)) :
    Calls Tryd.prog 11 #[.slice ad xs.length cap, .int .i64 (z : Int)] w fun e w' => ∃ oa n oc, e = .returned (.tuple #[.agg #[.int .u8 (R.1.aid : Int), .int .i64 R.1.cur, .slice oa n oc], .int .i64 (R.2.1 : Nat), .int .i64 R.2.2]) ∧ FldsIn w' 0 (.slice oa n oc) R.1.fs ∧ Below w.heap.size w w' := by
  have HA := Lib.hid (al_any w (.cells #[.int .u8 0, .int .i64 0, .slice none 0 0] 27))
  have HN := Lib.hid (heap_alloc_new w (.cells #[.int .u8 0, .int .i64 0, .slice none 0 0] 27))
  have hg : ¬ (8192 : Int) < (xs.length : Int) := by omega
  have hg2 : ((xs.length : Int) == 0) = false := by simp; exact List.length_pos_iff.1 hl
  have hg3 : (0 : Int) < (xs.length : Int) := by omega
  obtain ⟨g, o, rfl, b0⟩ := first_in hB hl
  rw [hcm] at b0 hb8
  have HK := Lib.hid fun W => raid_any c W hb8
  have HW := Lib.hid fun W => rbare_any c W hb8
  have HC0 := Lib.hid b0
  have HB0 := Lib.hid hB
  rw [hk] at HK
  rw [hw] at HW
  have hg4 : (1 : Int) < (xs.length : Int) := by omega
  clear hk hw h1 hB hl hl2 hcm hb8 b0
  go_enter Tryd.func11, Tryd.ntmps11
  go_upto_region 1 with (fail)
  generalize w.alloc (.cells #[.int .u8 0, .int .i64 0, .slice none 0 0] 27) = w1 at *
  have b0 := (HA.out.cell (p := ⟨g, o, none⟩) (cell_lt HC0.out)).trans HC0.out
  have l1 := there_lt HN.out
  have HS := al_any w1 (.cells #[.int .u8 (c : Int), .int .i64 0, .slice none 0 0] 27)
  have b2 := (HS.cell (p := ⟨g, o, none⟩) (cell_lt b0)).trans b0
  have K2 := kept_hid HA HS
  have N2 := Lib.hid (blk HN.out HS)
  have L2 := Lib.hid (heap_alloc_new w1 (.cells #[.int .u8 (c : Int), .int .i64 0, .slice none 0 0] 27))
  have HRL := Lib.hid (there_lt HN.out)
  clear HS
  go_wp2_with fail
  clear b0 l1
  generalize w1.heap.size = L at *
  generalize w1.alloc (.cells #[.int .u8 (c : Int), .int .i64 0, .slice none 0 0] 27) = w2 at *
  with_reducible refine (HK.out _).mono ?_
  rintro e w' ⟨rfl, rfl⟩
  go_wp2_with fail
  with_reducible refine (HW.out _).mono ?_
  rintro e w' ⟨rfl, rfl⟩
  obtain ⟨d0, d1, d2⟩ := cells3 N2.out
  obtain ⟨f0, f1, f2⟩ := free3 N2.out
  go_wp2_with fail
  clear d0 d1 d2 f0 f1 f2
  have SF := Lib.hid (set3b w2 w.heap.size 27 _ _ _ (.int .u8 0) (.int .i64 0) (.slice none 0 0) N2.out K2.out (Nat.le_refl _))
  generalize ((w2.setCell ⟨w.heap.size, 0, none⟩ (.int .u8 0)).setCell ⟨w.heap.size, 1, none⟩ (.int .i64 0)).setCell ⟨w.heap.size, 2, none⟩ (.slice none 0 0) = wz at *
  subst hR
  refine bodyPost_ret (v := .tuple #[.agg #[.int .u8 0, .int .i64 0, .slice none 0 0], .int .i64 1, .int .i64 1]) (results_cell_2 rfl _ _ _ w.heap.size _ rfl (run_loadVar_row wz w.heap.size 27 27 _ (0, 0) _ SF.out.1 Tryd.underlying27 rfl (by kernel_rfl)) (.int .i64 1) (.int .i64 1) rfl rfl) rfl ?_
  exact ⟨_, _, _, rfl, fldsIn_nil _ _, SF.out.2.2⟩
set_option maxRecDepth 100000 in
set_option maxHeartbeats 4000000 in
theorem rread_bare {xs : List Nat} (ad : Option Addr) (cap z : Nat) (w : World) (hB : BytesIn w (.slice ad xs.length cap) xs) (_hx : xs.length < 1000000) (R : I × Nat × Int) (hl : 0 < xs.length) (_hl2 : xs.length ≤ 8192) (hb8 : xs.getD 0 0 < 256) (c : Nat) (hcm : xs.getD 0 0 = c) (hk : aid c = true) (hw : bare c = true) (h1 : xs.length = 1) (hR : R = (⟨c, 0, []⟩, 0, -1)) :
    Calls Tryd.prog 11 #[.slice ad xs.length cap, .int .i64 (z : Int)] w fun e w' => ∃ oa n oc, e = .returned (.tuple #[.agg #[.int .u8 (R.1.aid : Int), .int .i64 R.1.cur, .slice oa n oc], .int .i64 (R.2.1 : Nat), .int .i64 R.2.2]) ∧ FldsIn w' 0 (.slice oa n oc) R.1.fs ∧ Below w.heap.size w w' := by
  have HA := Lib.hid (al_any w (.cells #[.int .u8 0, .int .i64 0, .slice none 0 0] 27))
  have HN := Lib.hid (heap_alloc_new w (.cells #[.int .u8 0, .int .i64 0, .slice none 0 0] 27))
  have hg : ¬ (8192 : Int) < (xs.length : Int) := by omega
  have hg2 : ((xs.length : Int) == 0) = false := by simp; exact List.length_pos_iff.1 hl
  have hg3 : (0 : Int) < (xs.length : Int) := by omega
  obtain ⟨g, o, rfl, b0⟩ := first_in hB hl
  rw [hcm] at b0 hb8
  have HK := Lib.hid fun W => raid_any c W hb8
  have HW := Lib.hid fun W => rbare_any c W hb8
  have HC0 := Lib.hid b0
  have HB0 := Lib.hid hB
  rw [hk] at HK
  rw [hw] at HW
  have hg4 : ¬ (1 : Int) < (xs.length : Int) := by omega
  have H1 := Lib.hid h1
  clear hk hw h1 hB hl _hl2 hcm hb8 b0
  go_enter Tryd.func11, Tryd.ntmps11
  go_upto_region 1 with (fail)
  generalize w.alloc (.cells #[.int .u8 0, .int .i64 0, .slice none 0 0] 27) = w1 at *
  have b0 := (HA.out.cell (p := ⟨g, o, none⟩) (cell_lt HC0.out)).trans HC0.out
  have l1 := there_lt HN.out
  have HS := al_any w1 (.cells #[.int .u8 (c : Int), .int .i64 0, .slice none 0 0] 27)
  have b2 := (HS.cell (p := ⟨g, o, none⟩) (cell_lt b0)).trans b0
  have K2 := kept_hid HA HS
  have N2 := Lib.hid (blk HN.out HS)
  have L2 := Lib.hid (heap_alloc_new w1 (.cells #[.int .u8 (c : Int), .int .i64 0, .slice none 0 0] 27))
  have HRL := Lib.hid (there_lt HN.out)
  clear HS
  go_wp2_with fail
  clear b0 l1
  generalize w1.heap.size = L at *
  generalize w1.alloc (.cells #[.int .u8 (c : Int), .int .i64 0, .slice none 0 0] 27) = w2 at *
  with_reducible refine (HK.out _).mono ?_
  rintro e w' ⟨rfl, rfl⟩
  go_wp2_with fail
  with_reducible refine (HW.out _).mono ?_
  rintro e w' ⟨rfl, rfl⟩
  obtain ⟨c0, c1, c2⟩ := cells3 L2.out
  obtain ⟨d0, d1, d2⟩ := cells3 N2.out
  obtain ⟨f0, f1, f2⟩ := free3 N2.out
  go_wp2_with fail
  clear d0 d1 d2 f0 f1 f2
  have SF := Lib.hid (set3b w2 w.heap.size 27 _ _ _ (.int .u8 (c : Int)) (.int .i64 0) (.slice none 0 0) N2.out K2.out (Nat.le_refl _))
  generalize ((w2.setCell ⟨w.heap.size, 0, none⟩ (.int .u8 (c : Int))).setCell ⟨w.heap.size, 1, none⟩ (.int .i64 0)).setCell ⟨w.heap.size, 2, none⟩ (.slice none 0 0) = wz at *
  subst hR
  refine bodyPost_ret (v := .tuple #[.agg #[.int .u8 (c : Int), .int .i64 0, .slice none 0 0], .int .i64 0, .int .i64 (-1)]) (results_cell_2 rfl _ _ _ w.heap.size _ rfl (run_loadVar_row wz w.heap.size 27 27 _ (0, 0) _ SF.out.1 Tryd.underlying27 rfl (by kernel_rfl)) (.int .i64 0) (.int .i64 (-1)) rfl rfl) rfl ?_
  exact ⟨_, _, _, rfl, fldsIn_nil _ _, SF.out.2.2⟩
set_option maxRecDepth 100000 in
set_option maxHeartbeats 4000000 in
theorem rread_addr {xs : List Nat} (ad : Option Addr) (cap z : Nat) (w : World) (hB : BytesIn w (.slice ad xs.length cap) xs) (_hx : xs.length < 1000000) (R : I × Nat × Int) (h8 : ∀ x ∈ xs, x < 256) (hl : 0 < xs.length) (hl2 : xs.length ≤ 8192) (hb8 : xs.getD 0 0 < 256) (c : Nat) (hcm : xs.getD 0 0 = c) (hk : aid c = true) (hw : bare c = false) (q : Nat × Nat × Int) (hq : Adr.aspec (xs.drop 1) z = q) (hq0 : q.2.1 ≠ 0) (hR : R = (noneI, q.2.1, 1)) :
    Calls Tryd.prog 11 #[.slice ad xs.length cap, .int .i64 (z : Int)] w fun e w' => ∃ oa n oc, e = .returned (.tuple #[.agg #[.int .u8 (R.1.aid : Int), .int .i64 R.1.cur, .slice oa n oc], .int .i64 (R.2.1 : Nat), .int .i64 R.2.2]) ∧ FldsIn w' 0 (.slice oa n oc) R.1.fs ∧ Below w.heap.size w w' := by
  have HA := Lib.hid (al_any w (.cells #[.int .u8 0, .int .i64 0, .slice none 0 0] 27))
  have HN := Lib.hid (heap_alloc_new w (.cells #[.int .u8 0, .int .i64 0, .slice none 0 0] 27))
  have hg : ¬ (8192 : Int) < (xs.length : Int) := by omega
  have hg2 : ((xs.length : Int) == 0) = false := by simp; exact List.length_pos_iff.1 hl
  have hg3 : (0 : Int) < (xs.length : Int) := by omega
  obtain ⟨g, o, rfl, b0⟩ := first_in hB hl
  rw [hcm] at b0 hb8
  have HK := Lib.hid fun W => raid_any c W hb8
  have HW := Lib.hid fun W => rbare_any c W hb8
  have HC0 := Lib.hid b0
  have HB0 := Lib.hid hB
  rw [hk] at HK
  rw [hw] at HW
  have hS : ∀ w, (Instr.slice 22 (.slice (some ⟨g, o, none⟩) xs.length cap) (some (.int .i64 1)) none none).run Tryd.prog w = .ok (.slice (cutA (some ⟨g, o, none⟩) 1 cap) (xs.length - 1) (cap - 1)) w := fun w => run_l (some ⟨g, o, none⟩) xs.length cap 1 (by omega) w
  have HAL := Lib.hid fun W hb => Adr.rget_all _ _ _ (xs.drop 1) (z : Int) W (bytes_below (bytes_l (k := 1) hB (by omega)) hb) (fun y hy => h8 y (List.mem_of_mem_drop hy))
  rw [hq] at HAL
  obtain ⟨qa, qb, qc⟩ := q
  simp only at HAL hq0 hR
  have e1 : ((qb : Int) != 0) = true := by simpa using hq0
  clear hk hw hq hq0 h8 hB hl hl2 hcm hb8 b0
  go_enter Tryd.func11, Tryd.ntmps11
  go_upto_region 1 with (fail)
  generalize w.alloc (.cells #[.int .u8 0, .int .i64 0, .slice none 0 0] 27) = w1 at *
  have b0 := (HA.out.cell (p := ⟨g, o, none⟩) (cell_lt HC0.out)).trans HC0.out
  have l1 := there_lt HN.out
  have HS := al_any w1 (.cells #[.int .u8 (c : Int), .int .i64 0, .slice none 0 0] 27)
  have b2 := (HS.cell (p := ⟨g, o, none⟩) (cell_lt b0)).trans b0
  have K2 := kept_hid HA HS
  have N2 := Lib.hid (blk HN.out HS)
  have L2 := Lib.hid (heap_alloc_new w1 (.cells #[.int .u8 (c : Int), .int .i64 0, .slice none 0 0] 27))
  have HRL := Lib.hid (there_lt HN.out)
  clear HS
  go_wp2_with fail
  clear b0 l1
  generalize w1.heap.size = L at *
  generalize w1.alloc (.cells #[.int .u8 (c : Int), .int .i64 0, .slice none 0 0] 27) = w2 at *
  with_reducible refine (HK.out _).mono ?_
  rintro e w' ⟨rfl, rfl⟩
  go_wp2_with fail
  with_reducible refine (HW.out _).mono ?_
  rintro e w' ⟨rfl, rfl⟩
  go_wp2_with fail
  with_reducible refine (HAL.out _ K2.out).mono ?_
  rintro e w3 ⟨rfl, hb⟩
  have N3 := Lib.hid (blk N2.out hb)
  have K3 := kept_hid K2 hb
  clear HAL hb
  obtain ⟨d0, d1, d2⟩ := cells3 N3.out
  obtain ⟨f0, f1, f2⟩ := free3 N3.out
  go_wp2_with fail
  clear d0 d1 d2 f0 f1 f2
  have SF := Lib.hid (set3b w3 w.heap.size 27 _ _ _ (.int .u8 0) (.int .i64 0) (.slice none 0 0) N3.out K3.out (Nat.le_refl _))
  generalize ((w3.setCell ⟨w.heap.size, 0, none⟩ (.int .u8 0)).setCell ⟨w.heap.size, 1, none⟩ (.int .i64 0)).setCell ⟨w.heap.size, 2, none⟩ (.slice none 0 0) = wz at *
  subst hR
  refine bodyPost_ret (v := .tuple #[.agg #[.int .u8 0, .int .i64 0, .slice none 0 0], .int .i64 (qb : Int), .int .i64 1]) (results_cell_2 rfl _ _ _ w.heap.size _ rfl (run_loadVar_row wz w.heap.size 27 27 _ (0, 0) _ SF.out.1 Tryd.underlying27 rfl (by kernel_rfl)) (.int .i64 (qb : Int)) (.int .i64 1) rfl rfl) rfl ?_
  exact ⟨_, _, _, rfl, fldsIn_nil _ _, SF.out.2.2⟩
theorem one_fld {w : World} {EB : Nat} {ty : TypeId} {va : Option Addr} {vn vc : Nat} {a : Int} {t : List Nat} (h : w.heap[EB]? = some (.cells #[.int .i64 a, .slice va vn vc] ty (0, 0))) (hB : BytesIn w (.slice va vn vc) t) (hn : va = none → vn = 0 ∧ vc = 0) : FldsIn w 0 (.slice (some ⟨EB, 0, none⟩) 1 1) [⟨a, t⟩] := by
  refine ⟨_, 1, rfl, Nat.le_refl _, nofun, .inr ⟨EB, 0, rfl, Nat.zero_le _, fun i hi => ?_⟩⟩
  obtain rfl : i = 0 := by simp at hi; omega
  refine ⟨va, vn, vc, fun j u hj => ?_, hB, hn, fun _ _ => Nat.zero_le _⟩
  have hj2 : j < 2 := by
    rcases Nat.lt_or_ge j 2 with h' | h'
    · exact h'
    · rw [List.getElem?_eq_none (by simp [fcells]; omega)] at hj; cases hj
  rw [cell_of_row w EB _ _ _ (0, 0) h, ← Array.getElem?_toList]
  simpa [fcells] using hj
set_option maxRecDepth 100000 in
set_option maxHeartbeats 4000000 in
theorem rread_some {xs : List Nat} (ad : Option Addr) (cap z : Nat) (w : World) (hB : BytesIn w (.slice ad xs.length cap) xs) (hx : xs.length < 1000000) (R : I × Nat × Int) (h8 : ∀ x ∈ xs, x < 256) (hl : 0 < xs.length) (hl2 : xs.length ≤ 8192) (hb8 : xs.getD 0 0 < 256) (c : Nat) (hcm : xs.getD 0 0 = c) (hk : aid c = true) (hw : bare c = false) (h3 : 3 ≤ xs.length) (a : Nat) (hq : Adr.aspec (xs.drop 1) z = (a, 0, -1)) (k : Nat) (hkk : (lets (xs.drop 3)).length = k) (hk0 : 0 < k) (hk1 : 3 + k < xs.length) (hR : R = (noneI, 3, 3 + (k : Int))) :
    Calls Tryd.prog 11 #[.slice ad xs.length cap, .int .i64 (z : Int)] w fun e w' => ∃ oa n oc, e = .returned (.tuple #[.agg #[.int .u8 (R.1.aid : Int), .int .i64 R.1.cur, .slice oa n oc], .int .i64 (R.2.1 : Nat), .int .i64 R.2.2]) ∧ FldsIn w' 0 (.slice oa n oc) R.1.fs ∧ Below w.heap.size w w' := by
  have HA := Lib.hid (al_any w (.cells #[.int .u8 0, .int .i64 0, .slice none 0 0] 27))
  have HN := Lib.hid (heap_alloc_new w (.cells #[.int .u8 0, .int .i64 0, .slice none 0 0] 27))
  have hg : ¬ (8192 : Int) < (xs.length : Int) := by omega
  have hg2 : ((xs.length : Int) == 0) = false := by simp; exact List.length_pos_iff.1 hl
  have hg3 : (0 : Int) < (xs.length : Int) := by omega
  obtain ⟨g, o, rfl, b0⟩ := first_in hB hl
  rw [hcm] at b0 hb8
  have HK := Lib.hid fun W => raid_any c W hb8
  have HW := Lib.hid fun W => rbare_any c W hb8
  have HC0 := Lib.hid b0
  have HB0 := Lib.hid hB
  rw [hk] at HK
  rw [hw] at HW
  have hS : ∀ w, (Instr.slice 22 (.slice (some ⟨g, o, none⟩) xs.length cap) (some (.int .i64 1)) none none).run Tryd.prog w = .ok (.slice (cutA (some ⟨g, o, none⟩) 1 cap) (xs.length - 1) (cap - 1)) w := fun w => run_l (some ⟨g, o, none⟩) xs.length cap 1 (by omega) w
  have HAL0 := Lib.hid fun W hb => Adr.rget_all _ _ _ (xs.drop 1) (z : Int) W (bytes_below (bytes_l (k := 1) hB (by omega)) hb) (fun y hy => h8 y (List.mem_of_mem_drop hy))
  rw [hq] at HAL0
  have HAL : Hid (∀ W, Below w.heap.size w W → Calls Tryd.prog 26 #[.slice (cutA (some ⟨g, o, none⟩) 1 cap) (xs.length - 1) (cap - 1), .int .i64 (z : Int)] W fun e w' => e = .returned (.tuple #[.int .i64 (a : Int), .int .i64 0, .int .i64 (-1)]) ∧ Below W.heap.size W w') := HAL0.out
  clear HAL0
  have HLT0 := fun W (hb : Below w.heap.size w W) => rletters_any (some ⟨g, o, none⟩) xs.length cap xs 3 W (bytes_below hB hb) h8 h3 hx
  rw [hkk] at HLT0
  have HLT : Hid (∀ W, Below w.heap.size w W → Calls Tryd.prog 27 #[.slice (some ⟨g, o, none⟩) xs.length cap, .int .i64 3] W fun e w' => e = .returned (.int .i64 (k : Int)) ∧ W = w') := HLT0
  clear HLT0
  have hk3 : k ≤ xs.length - 3 := by rw [← hkk]; have := lets_le (xs.drop 3); rwa [List.length_drop] at this
  have es : IntKind.i64.wrap ((3 : Int) + (k : Int)) = (3 : Int) + (k : Int) := by rw [IntWalk.i64_in] <;> omega
  have HKK := Lib.hid hkk
  have H3 := Lib.hid h3
  have HX := Lib.hid hx
  have hg5 : (0 : Int) < (k : Int) := by omega
  have hg6 : (3 : Int) + (k : Int) < (xs.length : Int) := by omega
  clear hk hw hq h8 hkk h3 hk3 hk0 hk1 hB hl hl2 hcm hb8 b0
  go_enter Tryd.func11, Tryd.ntmps11
  go_upto_region 1 with (fail)
  generalize w.alloc (.cells #[.int .u8 0, .int .i64 0, .slice none 0 0] 27) = w1 at *
  have b0 := (HA.out.cell (p := ⟨g, o, none⟩) (cell_lt HC0.out)).trans HC0.out
  have l1 := there_lt HN.out
  have HS := al_any w1 (.cells #[.int .u8 (c : Int), .int .i64 0, .slice none 0 0] 27)
  have b2 := (HS.cell (p := ⟨g, o, none⟩) (cell_lt b0)).trans b0
  have K2 := kept_hid HA HS
  have N2 := Lib.hid (blk HN.out HS)
  have L2 := Lib.hid (heap_alloc_new w1 (.cells #[.int .u8 (c : Int), .int .i64 0, .slice none 0 0] 27))
  have HRL := Lib.hid (there_lt HN.out)
  clear HS
  go_wp2_with fail
  clear b0 l1
  generalize w1.heap.size = L at *
  generalize w1.alloc (.cells #[.int .u8 (c : Int), .int .i64 0, .slice none 0 0] 27) = w2 at *
  with_reducible refine (HK.out _).mono ?_
  rintro e w' ⟨rfl, rfl⟩
  go_wp2_with fail
  with_reducible refine (HW.out _).mono ?_
  rintro e w' ⟨rfl, rfl⟩
  go_wp2_with fail
  with_reducible refine (HAL.out _ K2.out).mono ?_
  rintro e w3 ⟨rfl, hb⟩
  have N3 := Lib.hid (blk N2.out hb)
  have L3 := Lib.hid (blk L2.out hb)
  have K3 := kept_hid K2 hb
  clear HAL hb N2 L2 K2 b2
  obtain ⟨c0, c1, c2⟩ := cells3 L3.out
  obtain ⟨f0, f1, f2⟩ := free3 L3.out
  have G4 := gsetCell w3 L 1 (.int .i64 (a : Int))
  have L4 := Lib.hid (heap_setCell_same _ L 1 _ 27 (.int .i64 (a : Int)) L3.out)
  have N4 := Lib.hid (blk_g N3.out G4 (by intro e; injection e with e; have := HRL.out; omega))
  have K4 := Lib.hid (K3.out.grown G4 K3.out.size (by intro k hk; injection hk with hk; have := HRL.out; omega))
  clear G4
  go_wp2_with fail
  clear c0 c1 c2 f0 f1 f2 L3 N3 K3
  generalize w3.setCell ⟨L, 1, none⟩ (.int .i64 (a : Int)) = w4 at *
  with_reducible refine (HLT.out _ K4.out).mono ?_
  rintro e w' ⟨rfl, rfl⟩
  clear HLT
  obtain ⟨d0, d1, d2⟩ := cells3 N4.out
  obtain ⟨f0, f1, f2⟩ := free3 N4.out
  go_wp2_with fail
  clear d0 d1 d2 f0 f1 f2
  have SF := Lib.hid (set3b w4 w.heap.size 27 _ _ _ (.int .u8 0) (.int .i64 0) (.slice none 0 0) N4.out K4.out (Nat.le_refl _))
  generalize ((w4.setCell ⟨w.heap.size, 0, none⟩ (.int .u8 0)).setCell ⟨w.heap.size, 1, none⟩ (.int .i64 0)).setCell ⟨w.heap.size, 2, none⟩ (.slice none 0 0) = wz at *
  subst hR
  refine bodyPost_ret (v := .tuple #[.agg #[.int .u8 0, .int .i64 0, .slice none 0 0], .int .i64 3, .int .i64 (3 + (k : Int))]) (results_cell_2 rfl _ _ _ w.heap.size _ rfl (run_loadVar_row wz w.heap.size 27 27 _ (0, 0) _ SF.out.1 Tryd.underlying27 rfl (by kernel_rfl)) (.int .i64 3) (.int .i64 (3 + (k : Int))) rfl rfl) rfl ?_
  exact ⟨_, _, _, rfl, fldsIn_nil _ _, SF.out.2.2⟩
set_option maxRecDepth 100000 in
set_option maxHeartbeats 4000000 in
theorem rread_all {xs : List Nat} (ad : Option Addr) (cap z : Nat) (w : World) (hB : BytesIn w (.slice ad xs.length cap) xs) (hx : xs.length < 1000000) (R : I × Nat × Int) (h8 : ∀ x ∈ xs, x < 256) (hl : 0 < xs.length) (hl2 : xs.length ≤ 8192) (hb8 : xs.getD 0 0 < 256) (c : Nat) (hcm : xs.getD 0 0 = c) (hk : aid c = true) (hw : bare c = false) (h3 : 3 ≤ xs.length) (a : Nat) (hq : Adr.aspec (xs.drop 1) z = (a, 0, -1)) (k : Nat) (hkk : (lets (xs.drop 3)).length = k) (hk0 : 0 < k) (hk1 : 3 + k = xs.length) (hR : R = (⟨c, a, [⟨-1, xs.drop 3⟩]⟩, 0, -1)) :
    Calls Tryd.prog 11 #[.slice ad xs.length cap, .int .i64 (z : Int)] w fun e w' => ∃ oa n oc, e = .returned (.tuple #[.agg #[.int .u8 (R.1.aid : Int), .int .i64 R.1.cur, .slice oa n oc], .int .i64 (R.2.1 : Nat), .int .i64 R.2.2]) ∧ FldsIn w' 0 (.slice oa n oc) R.1.fs ∧ Below w.heap.size w w' := by
  have HA := Lib.hid (al_any w (.cells #[.int .u8 0, .int .i64 0, .slice none 0 0] 27))
  have HN := Lib.hid (heap_alloc_new w (.cells #[.int .u8 0, .int .i64 0, .slice none 0 0] 27))
  have hg : ¬ (8192 : Int) < (xs.length : Int) := by omega
  have hg2 : ((xs.length : Int) == 0) = false := by simp; exact List.length_pos_iff.1 hl
  have hg3 : (0 : Int) < (xs.length : Int) := by omega
  obtain ⟨g, o, rfl, b0⟩ := first_in hB hl
  rw [hcm] at b0 hb8
  have HK := Lib.hid fun W => raid_any c W hb8
  have HW := Lib.hid fun W => rbare_any c W hb8
  have HC0 := Lib.hid b0
  have HB0 := Lib.hid hB
  rw [hk] at HK
  rw [hw] at HW
  have hS : ∀ w, (Instr.slice 22 (.slice (some ⟨g, o, none⟩) xs.length cap) (some (.int .i64 1)) none none).run Tryd.prog w = .ok (.slice (cutA (some ⟨g, o, none⟩) 1 cap) (xs.length - 1) (cap - 1)) w := fun w => run_l (some ⟨g, o, none⟩) xs.length cap 1 (by omega) w
  have HAL0 := Lib.hid fun W hb => Adr.rget_all _ _ _ (xs.drop 1) (z : Int) W (bytes_below (bytes_l (k := 1) hB (by omega)) hb) (fun y hy => h8 y (List.mem_of_mem_drop hy))
  rw [hq] at HAL0
  have HAL : Hid (∀ W, Below w.heap.size w W → Calls Tryd.prog 26 #[.slice (cutA (some ⟨g, o, none⟩) 1 cap) (xs.length - 1) (cap - 1), .int .i64 (z : Int)] W fun e w' => e = .returned (.tuple #[.int .i64 (a : Int), .int .i64 0, .int .i64 (-1)]) ∧ Below W.heap.size W w') := HAL0.out
  clear HAL0
  have HLT0 := fun W (hb : Below w.heap.size w W) => rletters_any (some ⟨g, o, none⟩) xs.length cap xs 3 W (bytes_below hB hb) h8 h3 hx
  rw [hkk] at HLT0
  have HLT : Hid (∀ W, Below w.heap.size w W → Calls Tryd.prog 27 #[.slice (some ⟨g, o, none⟩) xs.length cap, .int .i64 3] W fun e w' => e = .returned (.int .i64 (k : Int)) ∧ W = w') := HLT0
  clear HLT0
  have hk3 : k ≤ xs.length - 3 := by rw [← hkk]; have := lets_le (xs.drop 3); rwa [List.length_drop] at this
  have es : IntKind.i64.wrap ((3 : Int) + (k : Int)) = (3 : Int) + (k : Int) := by rw [IntWalk.i64_in] <;> omega
  have HKK := Lib.hid hkk
  have H3 := Lib.hid h3
  have HX := Lib.hid hx
  have hg5 : (0 : Int) < (k : Int) := by omega
  have hg6 : ¬ (3 : Int) + (k : Int) < (xs.length : Int) := by omega
  have hS3 : ∀ w, (Instr.slice 22 (.slice (some ⟨g, o, none⟩) xs.length cap) (some (.int .i64 3)) none none).run Tryd.prog w = .ok (.slice (cutA (some ⟨g, o, none⟩) 3 cap) (xs.length - 3) (cap - 3)) w := fun w => run_l (some ⟨g, o, none⟩) xs.length cap 3 (by omega) w
  have HBT := Lib.hid (bytes_l (k := 3) hB (by omega))
  have HYL : Hid ((xs.drop 3).length = xs.length - 3) := List.length_drop
  have HCN := Lib.hid (show cutA (some ⟨g, o, none⟩) 3 cap = none → xs.length - 3 = 0 ∧ cap - 3 = 0 from fun h => by have := cutA_none h; cases this)
  have HDL := Lib.hid (show xs.length - 3 < 1000000 by omega)
  have HK1 := Lib.hid hk1
  clear hk hw hq h8 hkk h3 hk3 hk0 hk1 hB hl hl2 hcm hb8 b0
  go_enter Tryd.func11, Tryd.ntmps11
  go_upto_region 1 with (fail)
  generalize w.alloc (.cells #[.int .u8 0, .int .i64 0, .slice none 0 0] 27) = w1 at *
  have b0 := (HA.out.cell (p := ⟨g, o, none⟩) (cell_lt HC0.out)).trans HC0.out
  have l1 := there_lt HN.out
  have HS := al_any w1 (.cells #[.int .u8 (c : Int), .int .i64 0, .slice none 0 0] 27)
  have b2 := (HS.cell (p := ⟨g, o, none⟩) (cell_lt b0)).trans b0
  have K2 := kept_hid HA HS
  have N2 := Lib.hid (blk HN.out HS)
  have L2 := Lib.hid (heap_alloc_new w1 (.cells #[.int .u8 (c : Int), .int .i64 0, .slice none 0 0] 27))
  have HRL := Lib.hid (there_lt HN.out)
  clear HS
  go_wp2_with fail
  clear b0 l1
  generalize w1.heap.size = L at *
  generalize w1.alloc (.cells #[.int .u8 (c : Int), .int .i64 0, .slice none 0 0] 27) = w2 at *
  with_reducible refine (HK.out _).mono ?_
  rintro e w' ⟨rfl, rfl⟩
  go_wp2_with fail
  with_reducible refine (HW.out _).mono ?_
  rintro e w' ⟨rfl, rfl⟩
  go_wp2_with fail
  with_reducible refine (HAL.out _ K2.out).mono ?_
  rintro e w3 ⟨rfl, hb⟩
  have N3 := Lib.hid (blk N2.out hb)
  have L3 := Lib.hid (blk L2.out hb)
  have K3 := kept_hid K2 hb
  clear HAL hb N2 L2 K2 b2
  obtain ⟨c0, c1, c2⟩ := cells3 L3.out
  obtain ⟨f0, f1, f2⟩ := free3 L3.out
  have G4 := gsetCell w3 L 1 (.int .i64 (a : Int))
  have L4 := Lib.hid (heap_setCell_same _ L 1 _ 27 (.int .i64 (a : Int)) L3.out)
  have N4 := Lib.hid (blk_g N3.out G4 (by intro e; injection e with e; have := HRL.out; omega))
  have K4 := Lib.hid (K3.out.grown G4 K3.out.size (by intro k hk; injection hk with hk; have := HRL.out; omega))
  clear G4
  go_wp2_with fail
  clear c0 c1 c2 f0 f1 f2 L3 N3 K3
  generalize w3.setCell ⟨L, 1, none⟩ (.int .i64 (a : Int)) = w4 at *
  with_reducible refine (HLT.out _ K4.out).mono ?_
  rintro e w' ⟨rfl, rfl⟩
  clear HLT
  have HOE := Lib.hid (own_lit w4 w4.heap.size [] (Nat.le_refl _) (by decide))
  have A0 := Lib.hid (al_any w4 (.cells (u8s []).toArray 5))
  have HSR := Lib.hid (bytes_src (bytes_below (bytes_below HBT.out K4.out) A0.out))
  generalize cutA (some ⟨g, o, none⟩) 3 cap = ca at *
  generalize xs.drop 3 = ys at *
  go_wp2_with (at_builtin; refine wpList_mark ?_)
  refine Lib.hid ?_
  refine append_own rfl (.tmp 73) (.tmp 76) rfl w4.heap.size _ 0 _ rfl HOE.out ca (xs.length - 3) (cap - 3) ys rfl HYL.out HCN.out HSR.out (by have := HDL.out; omega) A0.out.size ?_
  intro v2 w5 hown hgr _
  have HO := Lib.hid (show w5.ownsRow w4.heap.size 5 1 v2 (xs.length - 3) (u8s ys) from by simpa [u8s] using hown)
  have hK := below_own A0.out hgr HOE.out
  have K5 := kept_hid K4 hK
  have L5 := Lib.hid (blk L4.out hK)
  have N5 := Lib.hid (blk N4.out hK)
  obtain ⟨va, vc, rfl⟩ := own_form HO.out
  have HL4 := Lib.hid (there_lt L4.out)
  have HL4S := Lib.hid (there_lt N4.out)
  clear hK hown hgr HSR A0 HOE N4 L4 K4
  have hsl := there_lt L5.out
  obtain ⟨c0, c1, c2⟩ := cells3 (blk L5.out (al_any w5 (.cells #[.int .i64 (-1), .slice va (xs.length - 3) vc] 47)))
  obtain ⟨f0, f1, f2⟩ := free3 (blk L5.out (al_any w5 (.cells #[.int .i64 (-1), .slice va (xs.length - 3) vc] 47)))
  go_upto_region 22 with (fail)
  clear c0 c1 c2 f0 f1 f2 hsl
  obtain ⟨V, hV⟩ : ∃ V, V = Value.slice (some ⟨w5.heap.size, 0, none⟩) 1 1 := ⟨_, rfl⟩
  rw [← hV]
  have hz : (w5.setCell ⟨L, 2, none⟩ V).heap.size = w5.heap.size := World.size_setCell _ _ _
  have G6 := gsetCell w5 L 2 V
  have L6 := heap_setCell_same _ L 2 _ 27 V L5.out
  have N6 := blk_g N5.out G6 (by intro e; injection e with e; have := HRL.out; omega)
  have K6 := K5.out.grown G6 K5.out.size (by intro k hk; injection hk with hk; have := HRL.out; omega)
  have O6 := own_other HO.out G6 HL4.out
  have HS := al_any (w5.setCell ⟨L, 2, none⟩ V) (.cells #[.int .i64 (-1), .slice va (xs.length - 3) vc] 47)
  have E7 := Lib.hid (heap_alloc_new (w5.setCell ⟨L, 2, none⟩ V) (.cells #[.int .i64 (-1), .slice va (xs.length - 3) vc] 47))
  rw [hz] at E7
  have L7 := Lib.hid (blk L6 HS)
  have N7 := Lib.hid (blk N6 HS)
  have K7 := kept_hid K6 HS
  have O7 := Lib.hid (own_below O6 HS)
  have HNE : Hid (w.heap.size ≠ w5.heap.size) := by have := there_lt N5.out; exact Nat.ne_of_lt this
  clear L6 N6 K6 O6 HS G6 hz L5 N5 K5 HO HL4
  generalize (w5.setCell ⟨L, 2, none⟩ V).alloc (.cells #[.int .i64 (-1), .slice va (xs.length - 3) vc] 47) = w7 at *
  generalize w5.heap.size = EB at *
  subst hV
  obtain ⟨c0, c1, c2⟩ := cells3 L7.out
  obtain ⟨d0, d1, d2⟩ := cells3 N7.out
  obtain ⟨f0, f1, f2⟩ := free3 N7.out
  go_wp2_with fail
  clear d0 d1 d2 f0 f1 f2
  have SF := Lib.hid (set3b w7 w.heap.size 27 _ _ _ (.int .u8 (c : Int)) (.int .i64 (a : Int)) (.slice (some ⟨EB, 0, none⟩) 1 1) N7.out K7.out (Nat.le_refl _))
  generalize ((w7.setCell ⟨w.heap.size, 0, none⟩ (.int .u8 (c : Int))).setCell ⟨w.heap.size, 1, none⟩ (.int .i64 (a : Int))).setCell ⟨w.heap.size, 2, none⟩ (.slice (some ⟨EB, 0, none⟩) 1 1) = wz at *
  subst hR
  refine bodyPost_ret (v := .tuple #[.agg #[.int .u8 (c : Int), .int .i64 (a : Int), .slice (some ⟨EB, 0, none⟩) 1 1], .int .i64 0, .int .i64 (-1)]) (results_cell_2 rfl _ _ _ w.heap.size _ rfl (run_loadVar_row wz w.heap.size 27 27 _ (0, 0) _ SF.out.1 Tryd.underlying27 rfl (by kernel_rfl)) (.int .i64 0) (.int .i64 (-1)) rfl rfl) rfl ?_
  have O8 := own_other O7.out SF.out.2.1 HL4S.out
  exact ⟨_, _, _, rfl, one_fld (blk_g E7.out SF.out.2.1 (by intro e; injection e with e; exact HNE.out e.symm)) (own_bytes O8) (own_nil O8), SF.out.2.2⟩

end Inp
end Go.Proofs.YthjocmcafoifbaaDoor
