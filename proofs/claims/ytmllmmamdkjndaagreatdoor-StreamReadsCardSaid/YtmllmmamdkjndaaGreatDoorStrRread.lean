/- The document's Read of commands returns what the plain function says. Written by tools/gen_str_rread.py. -/
import Derived.Test.YtmllmmamdkjndaaGreatDoorStrRead
import Derived.Test.YtmllmmamdkjndaaGreatDoorBunRog
import Derived.Deep.Cut
namespace Go.Proofs.YtmllmmamdkjndaaGreatDoor
open Go.RowKit Sha Cut Err Six Att Byt Apd
namespace Str
open Go.Proofs.YtmllmmamdkjndaaGreatDoor.Ord
theorem results_cell_2 {fn : Func} {p u1 u2 : Tmp} {ty : TypeId} (h : fn.results = #[.cell p ty, .tmp u1, .tmp u2]) (tmps : Array Value) (P : Program) (w : World) (g : Nat) (cs : Array Value)
    (hp : tmps.getD p undef = .pointer (some ⟨g, 0, none⟩)) (hl : (loadVar ty ⟨g, 0, none⟩).run P w = .ok (.agg cs) w) (x1 x2 : Value) (h1 : tmps.getD u1 undef = x1) (h2 : tmps.getD u2 undef = x2) :
    (results fn tmps).run P w = .ok (.tuple #[.agg cs, x1, x2]) w := by
  subst h1 h2
  have hp' : tmps[p]?.getD undef = .pointer (some ⟨g, 0, none⟩) := by simpa using hp
  simp [results, h]
  simp [hp', asAddr, hl]
theorem first_in {w : World} {ad : Option Addr} {cap : Nat} {xs : List Nat} (h : BytesIn w (.slice ad xs.length cap) xs) (hk : 0 < xs.length) : ∃ g o, ad = some ⟨g, o, none⟩ ∧ w.cell? ⟨g, o, none⟩ = some (.int .u8 ((xs.getD 0 0 : Nat) : Int)) ∧ (1 < xs.length → w.cell? ⟨g, o + 1, none⟩ = some (.int .u8 ((xs.getD 1 0 : Nat) : Int))) := by
  obtain ⟨g, o, h1, h2⟩ := cell_in h hk
  exact ⟨g, o, h1, h2 0 hk, fun h => h2 1 h⟩
set_option maxRecDepth 100000 in
set_option maxHeartbeats 4000000 in
theorem rread_long {xs : List Nat} (ad : Option Addr) (cap z : Nat) (w : World) (_hB : BytesIn w (.slice ad xs.length cap) xs) (_hx : xs.length < 1000000) (R : Cm × Nat × Int) (hl : 8192 < xs.length) (hR : R = (noneC, 6, 8192)) :
    Calls Tryz.prog 7 #[.slice ad xs.length cap, .int .i64 (z : Int)] w fun e w' => ∃ oa n oc, e = .returned (.tuple #[.agg #[.int .i64 R.1.cmd, .bool R.1.a, .bool R.1.u, .bool R.1.r, .slice oa n oc], .int .i64 (R.2.1 : Nat), .int .i64 R.2.2]) ∧ OrdsIn w' 0 (.slice oa n oc) R.1.os ∧ Below w.heap.size w w' := by
  have HA := Lib.hid (al_any w (.cells #[.int .i64 0, .bool false, .bool false, .bool false, .slice none 0 0] 29))
  have HN := Lib.hid (heap_alloc_new w (.cells #[.int .i64 0, .bool false, .bool false, .bool false, .slice none 0 0] 29))
  have hg : (8192 : Int) < (xs.length : Int) := by omega
  clear hl
  go_enter Tryz.func7, Tryz.ntmps7
  go_upto_region 1 with (fail)
  generalize w.alloc (.cells #[.int .i64 0, .bool false, .bool false, .bool false, .slice none 0 0] 29) = w1 at *
  obtain ⟨d0, d1, d2, d3, d4⟩ := cells5 HN.out
  obtain ⟨f0, f1, f2, f3, f4⟩ := free5 HN.out
  go_wp2_with fail
  clear d0 d1 d2 d3 d4 f0 f1 f2 f3 f4
  have SF := Lib.hid (set5b w1 w.heap.size 29 _ _ _ _ _ (.int .i64 0) (.bool false) (.bool false) (.bool false) (.slice none 0 0) HN.out HA.out (Nat.le_refl _))
  generalize ((((w1.setCell ⟨w.heap.size, 0, none⟩ (.int .i64 0)).setCell ⟨w.heap.size, 1, none⟩ (.bool false)).setCell ⟨w.heap.size, 2, none⟩ (.bool false)).setCell ⟨w.heap.size, 3, none⟩ (.bool false)).setCell ⟨w.heap.size, 4, none⟩ (.slice none 0 0) = wz at *
  subst hR
  refine bodyPost_ret (v := .tuple #[.agg #[.int .i64 0, .bool false, .bool false, .bool false, .slice none 0 0], .int .i64 6, .int .i64 8192]) (results_cell_2 rfl _ _ _ w.heap.size _ rfl (run_loadVar_row wz w.heap.size 29 29 _ (0, 0) _ SF.out.1 Tryz.underlying29 rfl (by kernel_rfl)) (.int .i64 6) (.int .i64 8192) rfl rfl) rfl ?_
  exact ⟨_, _, _, rfl, ordsIn_nil _ _, SF.out.2.2⟩
set_option maxRecDepth 100000 in
set_option maxHeartbeats 4000000 in
theorem rread_none {xs : List Nat} (ad : Option Addr) (cap z : Nat) (w : World) (_hB : BytesIn w (.slice ad xs.length cap) xs) (_hx : xs.length < 1000000) (R : Cm × Nat × Int) (hl : xs.length = 0) (hR : R = (noneC, 2, 0)) :
    Calls Tryz.prog 7 #[.slice ad xs.length cap, .int .i64 (z : Int)] w fun e w' => ∃ oa n oc, e = .returned (.tuple #[.agg #[.int .i64 R.1.cmd, .bool R.1.a, .bool R.1.u, .bool R.1.r, .slice oa n oc], .int .i64 (R.2.1 : Nat), .int .i64 R.2.2]) ∧ OrdsIn w' 0 (.slice oa n oc) R.1.os ∧ Below w.heap.size w w' := by
  have HA := Lib.hid (al_any w (.cells #[.int .i64 0, .bool false, .bool false, .bool false, .slice none 0 0] 29))
  have HN := Lib.hid (heap_alloc_new w (.cells #[.int .i64 0, .bool false, .bool false, .bool false, .slice none 0 0] 29))
  have hg : ¬ (8192 : Int) < (xs.length : Int) := by omega
  have hg2 : ((xs.length : Int) == 0) = true := by simp; exact List.eq_nil_of_length_eq_zero hl
  have HL := Lib.hid hl
  clear hl
  go_enter Tryz.func7, Tryz.ntmps7
  go_upto_region 1 with (fail)
  generalize w.alloc (.cells #[.int .i64 0, .bool false, .bool false, .bool false, .slice none 0 0] 29) = w1 at *
  obtain ⟨d0, d1, d2, d3, d4⟩ := cells5 HN.out
  obtain ⟨f0, f1, f2, f3, f4⟩ := free5 HN.out
  go_wp2_with fail
  clear d0 d1 d2 d3 d4 f0 f1 f2 f3 f4
  have SF := Lib.hid (set5b w1 w.heap.size 29 _ _ _ _ _ (.int .i64 0) (.bool false) (.bool false) (.bool false) (.slice none 0 0) HN.out HA.out (Nat.le_refl _))
  generalize ((((w1.setCell ⟨w.heap.size, 0, none⟩ (.int .i64 0)).setCell ⟨w.heap.size, 1, none⟩ (.bool false)).setCell ⟨w.heap.size, 2, none⟩ (.bool false)).setCell ⟨w.heap.size, 3, none⟩ (.bool false)).setCell ⟨w.heap.size, 4, none⟩ (.slice none 0 0) = wz at *
  subst hR
  refine bodyPost_ret (v := .tuple #[.agg #[.int .i64 0, .bool false, .bool false, .bool false, .slice none 0 0], .int .i64 2, .int .i64 0]) (results_cell_2 rfl _ _ _ w.heap.size _ rfl (run_loadVar_row wz w.heap.size 29 29 _ (0, 0) _ SF.out.1 Tryz.underlying29 rfl (by kernel_rfl)) (.int .i64 2) (.int .i64 0) rfl rfl) rfl ?_
  exact ⟨_, _, _, rfl, ordsIn_nil _ _, SF.out.2.2⟩
set_option maxRecDepth 100000 in
set_option maxHeartbeats 4000000 in
theorem rread_strange {xs : List Nat} (ad : Option Addr) (cap z : Nat) (w : World) (hB : BytesIn w (.slice ad xs.length cap) xs) (hx : xs.length < 1000000) (R : Cm × Nat × Int) (hl : 0 < xs.length) (hl2 : xs.length ≤ 8192) (hb8 : xs.getD 0 0 < 256) (cmd : Nat) (hcm : xs.getD 0 0 = cmd) (hk : known (cmd : Int) = false) (hR : R = (noneC, 5, 0)) :
    Calls Tryz.prog 7 #[.slice ad xs.length cap, .int .i64 (z : Int)] w fun e w' => ∃ oa n oc, e = .returned (.tuple #[.agg #[.int .i64 R.1.cmd, .bool R.1.a, .bool R.1.u, .bool R.1.r, .slice oa n oc], .int .i64 (R.2.1 : Nat), .int .i64 R.2.2]) ∧ OrdsIn w' 0 (.slice oa n oc) R.1.os ∧ Below w.heap.size w w' := by
  have HA := Lib.hid (al_any w (.cells #[.int .i64 0, .bool false, .bool false, .bool false, .slice none 0 0] 29))
  have HN := Lib.hid (heap_alloc_new w (.cells #[.int .i64 0, .bool false, .bool false, .bool false, .slice none 0 0] 29))
  have hg : ¬ (8192 : Int) < (xs.length : Int) := by omega
  have hg2 : ((xs.length : Int) == 0) = false := by simp; exact List.length_pos_iff.1 hl
  have hg3 : (0 : Int) < (xs.length : Int) := by omega
  obtain ⟨g, o, rfl, b0, b1⟩ := first_in hB hl
  rw [hcm] at b0 hb8
  have ec : wrap64 (cmd : Int) = (cmd : Int) := by unfold wrap64; omega
  have HK := Lib.hid fun W => rknown_any (cmd : Int) W
  have HW := Lib.hid fun W => rwrites_any (cmd : Int) W
  rw [hk] at HK
  have HC0 := Lib.hid b0
  clear hk hB hl hl2 hcm hb8 b1 b0
  go_enter Tryz.func7, Tryz.ntmps7
  go_upto_region 1 with (fail)
  generalize w.alloc (.cells #[.int .i64 0, .bool false, .bool false, .bool false, .slice none 0 0] 29) = w1 at *
  have b0 := (HA.out.cell (p := ⟨g, o, none⟩) (cell_lt HC0.out)).trans HC0.out
  have l1 := there_lt HN.out
  have HS := al_any w1 (.cells #[.int .i64 (cmd : Int), .bool false, .bool false, .bool false, .slice none 0 0] 29)
  have K2 := kept_hid HA HS
  have N2 := Lib.hid (blk HN.out HS)
  have L2 := Lib.hid (heap_alloc_new w1 (.cells #[.int .i64 (cmd : Int), .bool false, .bool false, .bool false, .slice none 0 0] 29))
  have HRL := Lib.hid (there_lt HN.out)
  clear HS
  go_wp2_with fail
  clear b0 l1
  generalize w1.heap.size = L at *
  generalize w1.alloc (.cells #[.int .i64 (cmd : Int), .bool false, .bool false, .bool false, .slice none 0 0] 29) = w2 at *
  with_reducible refine (HK.out _).mono ?_
  rintro e w' ⟨rfl, rfl⟩
  obtain ⟨d0, d1, d2, d3, d4⟩ := cells5 N2.out
  obtain ⟨f0, f1, f2, f3, f4⟩ := free5 N2.out
  go_wp2_with fail
  clear d0 d1 d2 d3 d4 f0 f1 f2 f3 f4
  have SF := Lib.hid (set5b w2 w.heap.size 29 _ _ _ _ _ (.int .i64 0) (.bool false) (.bool false) (.bool false) (.slice none 0 0) N2.out K2.out (Nat.le_refl _))
  generalize ((((w2.setCell ⟨w.heap.size, 0, none⟩ (.int .i64 0)).setCell ⟨w.heap.size, 1, none⟩ (.bool false)).setCell ⟨w.heap.size, 2, none⟩ (.bool false)).setCell ⟨w.heap.size, 3, none⟩ (.bool false)).setCell ⟨w.heap.size, 4, none⟩ (.slice none 0 0) = wz at *
  subst hR
  refine bodyPost_ret (v := .tuple #[.agg #[.int .i64 0, .bool false, .bool false, .bool false, .slice none 0 0], .int .i64 5, .int .i64 0]) (results_cell_2 rfl _ _ _ w.heap.size _ rfl (run_loadVar_row wz w.heap.size 29 29 _ (0, 0) _ SF.out.1 Tryz.underlying29 rfl (by kernel_rfl)) (.int .i64 5) (.int .i64 0) rfl rfl) rfl ?_
  exact ⟨_, _, _, rfl, ordsIn_nil _ _, SF.out.2.2⟩
set_option maxRecDepth 100000 in
set_option maxHeartbeats 4000000 in
theorem rread_more {xs : List Nat} (ad : Option Addr) (cap z : Nat) (w : World) (hB : BytesIn w (.slice ad xs.length cap) xs) (hx : xs.length < 1000000) (R : Cm × Nat × Int) (hl : 0 < xs.length) (hl2 : xs.length ≤ 8192) (hb8 : xs.getD 0 0 < 256) (cmd : Nat) (hcm : xs.getD 0 0 = cmd) (hk : known (cmd : Int) = true) (hw : writes (cmd : Int) = false) (h1 : 1 < xs.length) (hR : R = (noneC, 1, 1)) :
    Calls Tryz.prog 7 #[.slice ad xs.length cap, .int .i64 (z : Int)] w fun e w' => ∃ oa n oc, e = .returned (.tuple #[.agg #[.int .i64 R.1.cmd, .bool R.1.a, .bool R.1.u, .bool R.1.r, .slice oa n oc], .int .i64 (R.2.1 : Nat), .int .i64 R.2.2]) ∧ OrdsIn w' 0 (.slice oa n oc) R.1.os ∧ Below w.heap.size w w' := by
  have HA := Lib.hid (al_any w (.cells #[.int .i64 0, .bool false, .bool false, .bool false, .slice none 0 0] 29))
  have HN := Lib.hid (heap_alloc_new w (.cells #[.int .i64 0, .bool false, .bool false, .bool false, .slice none 0 0] 29))
  have hg : ¬ (8192 : Int) < (xs.length : Int) := by omega
  have hg2 : ((xs.length : Int) == 0) = false := by simp; exact List.length_pos_iff.1 hl
  have hg3 : (0 : Int) < (xs.length : Int) := by omega
  obtain ⟨g, o, rfl, b0, b1⟩ := first_in hB hl
  rw [hcm] at b0 hb8
  have ec : wrap64 (cmd : Int) = (cmd : Int) := by unfold wrap64; omega
  have HK := Lib.hid fun W => rknown_any (cmd : Int) W
  have HW := Lib.hid fun W => rwrites_any (cmd : Int) W
  have hg4 : (1 : Int) < (xs.length : Int) := by omega
  rw [hk] at HK
  rw [hw] at HW
  have HC0 := Lib.hid b0
  clear hk hw hB hl hl2 hcm hb8 b1 h1 b0
  go_enter Tryz.func7, Tryz.ntmps7
  go_upto_region 1 with (fail)
  generalize w.alloc (.cells #[.int .i64 0, .bool false, .bool false, .bool false, .slice none 0 0] 29) = w1 at *
  have b0 := (HA.out.cell (p := ⟨g, o, none⟩) (cell_lt HC0.out)).trans HC0.out
  have l1 := there_lt HN.out
  have HS := al_any w1 (.cells #[.int .i64 (cmd : Int), .bool false, .bool false, .bool false, .slice none 0 0] 29)
  have K2 := kept_hid HA HS
  have N2 := Lib.hid (blk HN.out HS)
  have L2 := Lib.hid (heap_alloc_new w1 (.cells #[.int .i64 (cmd : Int), .bool false, .bool false, .bool false, .slice none 0 0] 29))
  have HRL := Lib.hid (there_lt HN.out)
  clear HS
  go_wp2_with fail
  clear b0 l1
  generalize w1.heap.size = L at *
  generalize w1.alloc (.cells #[.int .i64 (cmd : Int), .bool false, .bool false, .bool false, .slice none 0 0] 29) = w2 at *
  with_reducible refine (HK.out _).mono ?_
  rintro e w' ⟨rfl, rfl⟩
  obtain ⟨c0, c1, c2, c3, c4⟩ := cells5 L2.out
  go_wp2_with fail
  with_reducible refine (HW.out _).mono ?_
  rintro e w' ⟨rfl, rfl⟩
  obtain ⟨d0, d1, d2, d3, d4⟩ := cells5 N2.out
  obtain ⟨f0, f1, f2, f3, f4⟩ := free5 N2.out
  go_wp2_with fail
  clear c0 c1 c2 c3 c4
  clear d0 d1 d2 d3 d4 f0 f1 f2 f3 f4
  have SF := Lib.hid (set5b w2 w.heap.size 29 _ _ _ _ _ (.int .i64 0) (.bool false) (.bool false) (.bool false) (.slice none 0 0) N2.out K2.out (Nat.le_refl _))
  generalize ((((w2.setCell ⟨w.heap.size, 0, none⟩ (.int .i64 0)).setCell ⟨w.heap.size, 1, none⟩ (.bool false)).setCell ⟨w.heap.size, 2, none⟩ (.bool false)).setCell ⟨w.heap.size, 3, none⟩ (.bool false)).setCell ⟨w.heap.size, 4, none⟩ (.slice none 0 0) = wz at *
  subst hR
  refine bodyPost_ret (v := .tuple #[.agg #[.int .i64 0, .bool false, .bool false, .bool false, .slice none 0 0], .int .i64 1, .int .i64 1]) (results_cell_2 rfl _ _ _ w.heap.size _ rfl (run_loadVar_row wz w.heap.size 29 29 _ (0, 0) _ SF.out.1 Tryz.underlying29 rfl (by kernel_rfl)) (.int .i64 1) (.int .i64 1) rfl rfl) rfl ?_
  exact ⟨_, _, _, rfl, ordsIn_nil _ _, SF.out.2.2⟩
set_option maxRecDepth 100000 in
set_option maxHeartbeats 4000000 in
theorem rread_bare {xs : List Nat} (ad : Option Addr) (cap z : Nat) (w : World) (hB : BytesIn w (.slice ad xs.length cap) xs) (hx : xs.length < 1000000) (R : Cm × Nat × Int) (hl : 0 < xs.length) (_hl2 : xs.length ≤ 8192) (hb8 : xs.getD 0 0 < 256) (cmd : Nat) (hcm : xs.getD 0 0 = cmd) (hk : known (cmd : Int) = true) (hw : writes (cmd : Int) = false) (h1 : xs.length = 1) (hR : R = (⟨cmd, false, false, false, []⟩, 0, -1)) :
    Calls Tryz.prog 7 #[.slice ad xs.length cap, .int .i64 (z : Int)] w fun e w' => ∃ oa n oc, e = .returned (.tuple #[.agg #[.int .i64 R.1.cmd, .bool R.1.a, .bool R.1.u, .bool R.1.r, .slice oa n oc], .int .i64 (R.2.1 : Nat), .int .i64 R.2.2]) ∧ OrdsIn w' 0 (.slice oa n oc) R.1.os ∧ Below w.heap.size w w' := by
  have HA := Lib.hid (al_any w (.cells #[.int .i64 0, .bool false, .bool false, .bool false, .slice none 0 0] 29))
  have HN := Lib.hid (heap_alloc_new w (.cells #[.int .i64 0, .bool false, .bool false, .bool false, .slice none 0 0] 29))
  have hg : ¬ (8192 : Int) < (xs.length : Int) := by omega
  have hg2 : ((xs.length : Int) == 0) = false := by simp; exact List.length_pos_iff.1 hl
  have hg3 : (0 : Int) < (xs.length : Int) := by omega
  obtain ⟨g, o, rfl, b0, b1⟩ := first_in hB hl
  rw [hcm] at b0 hb8
  have ec : wrap64 (cmd : Int) = (cmd : Int) := by unfold wrap64; omega
  have HK := Lib.hid fun W => rknown_any (cmd : Int) W
  have HW := Lib.hid fun W => rwrites_any (cmd : Int) W
  have hg4 : ¬ (1 : Int) < (xs.length : Int) := by omega
  have HH1 := Lib.hid h1
  rw [hk] at HK
  rw [hw] at HW
  have HC0 := Lib.hid b0
  clear hk hw hB hl hcm hb8 b1 h1 b0
  go_enter Tryz.func7, Tryz.ntmps7
  go_upto_region 1 with (fail)
  generalize w.alloc (.cells #[.int .i64 0, .bool false, .bool false, .bool false, .slice none 0 0] 29) = w1 at *
  have b0 := (HA.out.cell (p := ⟨g, o, none⟩) (cell_lt HC0.out)).trans HC0.out
  have l1 := there_lt HN.out
  have HS := al_any w1 (.cells #[.int .i64 (cmd : Int), .bool false, .bool false, .bool false, .slice none 0 0] 29)
  have K2 := kept_hid HA HS
  have N2 := Lib.hid (blk HN.out HS)
  have L2 := Lib.hid (heap_alloc_new w1 (.cells #[.int .i64 (cmd : Int), .bool false, .bool false, .bool false, .slice none 0 0] 29))
  have HRL := Lib.hid (there_lt HN.out)
  clear HS
  go_wp2_with fail
  clear b0 l1
  generalize w1.heap.size = L at *
  generalize w1.alloc (.cells #[.int .i64 (cmd : Int), .bool false, .bool false, .bool false, .slice none 0 0] 29) = w2 at *
  with_reducible refine (HK.out _).mono ?_
  rintro e w' ⟨rfl, rfl⟩
  obtain ⟨c0, c1, c2, c3, c4⟩ := cells5 L2.out
  go_wp2_with fail
  with_reducible refine (HW.out _).mono ?_
  rintro e w' ⟨rfl, rfl⟩
  obtain ⟨d0, d1, d2, d3, d4⟩ := cells5 N2.out
  obtain ⟨f0, f1, f2, f3, f4⟩ := free5 N2.out
  go_wp2_with fail
  clear c0 c1 c2 c3 c4
  clear d0 d1 d2 d3 d4 f0 f1 f2 f3 f4
  have SF := Lib.hid (set5b w2 w.heap.size 29 _ _ _ _ _ (.int .i64 (cmd : Int)) (.bool false) (.bool false) (.bool false) (.slice none 0 0) N2.out K2.out (Nat.le_refl _))
  generalize ((((w2.setCell ⟨w.heap.size, 0, none⟩ (.int .i64 (cmd : Int))).setCell ⟨w.heap.size, 1, none⟩ (.bool false)).setCell ⟨w.heap.size, 2, none⟩ (.bool false)).setCell ⟨w.heap.size, 3, none⟩ (.bool false)).setCell ⟨w.heap.size, 4, none⟩ (.slice none 0 0) = wz at *
  subst hR
  refine bodyPost_ret (v := .tuple #[.agg #[.int .i64 (cmd : Int), .bool false, .bool false, .bool false, .slice none 0 0], .int .i64 0, .int .i64 (-1)]) (results_cell_2 rfl _ _ _ w.heap.size _ rfl (run_loadVar_row wz w.heap.size 29 29 _ (0, 0) _ SF.out.1 Tryz.underlying29 rfl (by kernel_rfl)) (.int .i64 0) (.int .i64 (-1)) rfl rfl) rfl ?_
  exact ⟨_, _, _, rfl, ordsIn_nil _ _, SF.out.2.2⟩
set_option maxRecDepth 100000 in
set_option maxHeartbeats 4000000 in
theorem rread_cut {xs : List Nat} (ad : Option Addr) (cap z : Nat) (w : World) (hB : BytesIn w (.slice ad xs.length cap) xs) (hx : xs.length < 1000000) (R : Cm × Nat × Int) (hl : 0 < xs.length) (_hl2 : xs.length ≤ 8192) (hb8 : xs.getD 0 0 < 256) (cmd : Nat) (hcm : xs.getD 0 0 = cmd) (hk : known (cmd : Int) = true) (hw : writes (cmd : Int) = true) (h1 : xs.length = 1) (hR : R = (noneC, 2, 1)) :
    Calls Tryz.prog 7 #[.slice ad xs.length cap, .int .i64 (z : Int)] w fun e w' => ∃ oa n oc, e = .returned (.tuple #[.agg #[.int .i64 R.1.cmd, .bool R.1.a, .bool R.1.u, .bool R.1.r, .slice oa n oc], .int .i64 (R.2.1 : Nat), .int .i64 R.2.2]) ∧ OrdsIn w' 0 (.slice oa n oc) R.1.os ∧ Below w.heap.size w w' := by
  have HA := Lib.hid (al_any w (.cells #[.int .i64 0, .bool false, .bool false, .bool false, .slice none 0 0] 29))
  have HN := Lib.hid (heap_alloc_new w (.cells #[.int .i64 0, .bool false, .bool false, .bool false, .slice none 0 0] 29))
  have hg : ¬ (8192 : Int) < (xs.length : Int) := by omega
  have hg2 : ((xs.length : Int) == 0) = false := by simp; exact List.length_pos_iff.1 hl
  have hg3 : (0 : Int) < (xs.length : Int) := by omega
  obtain ⟨g, o, rfl, b0, b1⟩ := first_in hB hl
  rw [hcm] at b0 hb8
  have ec : wrap64 (cmd : Int) = (cmd : Int) := by unfold wrap64; omega
  have HK := Lib.hid fun W => rknown_any (cmd : Int) W
  have HW := Lib.hid fun W => rwrites_any (cmd : Int) W
  have hg4 : ((xs.length : Int) == 1) = true := by simp; omega
  have HH1 := Lib.hid h1
  rw [hk] at HK
  rw [hw] at HW
  have HC0 := Lib.hid b0
  clear hk hw hB hl hcm hb8 b1 h1 b0
  go_enter Tryz.func7, Tryz.ntmps7
  go_upto_region 1 with (fail)
  generalize w.alloc (.cells #[.int .i64 0, .bool false, .bool false, .bool false, .slice none 0 0] 29) = w1 at *
  have b0 := (HA.out.cell (p := ⟨g, o, none⟩) (cell_lt HC0.out)).trans HC0.out
  have l1 := there_lt HN.out
  have HS := al_any w1 (.cells #[.int .i64 (cmd : Int), .bool false, .bool false, .bool false, .slice none 0 0] 29)
  have K2 := kept_hid HA HS
  have N2 := Lib.hid (blk HN.out HS)
  have L2 := Lib.hid (heap_alloc_new w1 (.cells #[.int .i64 (cmd : Int), .bool false, .bool false, .bool false, .slice none 0 0] 29))
  have HRL := Lib.hid (there_lt HN.out)
  clear HS
  go_wp2_with fail
  clear b0 l1
  generalize w1.heap.size = L at *
  generalize w1.alloc (.cells #[.int .i64 (cmd : Int), .bool false, .bool false, .bool false, .slice none 0 0] 29) = w2 at *
  with_reducible refine (HK.out _).mono ?_
  rintro e w' ⟨rfl, rfl⟩
  obtain ⟨c0, c1, c2, c3, c4⟩ := cells5 L2.out
  go_wp2_with fail
  with_reducible refine (HW.out _).mono ?_
  rintro e w' ⟨rfl, rfl⟩
  obtain ⟨d0, d1, d2, d3, d4⟩ := cells5 N2.out
  obtain ⟨f0, f1, f2, f3, f4⟩ := free5 N2.out
  go_wp2_with fail
  clear c0 c1 c2 c3 c4
  clear d0 d1 d2 d3 d4 f0 f1 f2 f3 f4
  have SF := Lib.hid (set5b w2 w.heap.size 29 _ _ _ _ _ (.int .i64 0) (.bool false) (.bool false) (.bool false) (.slice none 0 0) N2.out K2.out (Nat.le_refl _))
  generalize ((((w2.setCell ⟨w.heap.size, 0, none⟩ (.int .i64 0)).setCell ⟨w.heap.size, 1, none⟩ (.bool false)).setCell ⟨w.heap.size, 2, none⟩ (.bool false)).setCell ⟨w.heap.size, 3, none⟩ (.bool false)).setCell ⟨w.heap.size, 4, none⟩ (.slice none 0 0) = wz at *
  subst hR
  refine bodyPost_ret (v := .tuple #[.agg #[.int .i64 0, .bool false, .bool false, .bool false, .slice none 0 0], .int .i64 2, .int .i64 1]) (results_cell_2 rfl _ _ _ w.heap.size _ rfl (run_loadVar_row wz w.heap.size 29 29 _ (0, 0) _ SF.out.1 Tryz.underlying29 rfl (by kernel_rfl)) (.int .i64 2) (.int .i64 1) rfl rfl) rfl ?_
  exact ⟨_, _, _, rfl, ordsIn_nil _ _, SF.out.2.2⟩
set_option maxRecDepth 100000 in
set_option maxHeartbeats 4000000 in
theorem rread_wcc {xs : List Nat} (ad : Option Addr) (cap z : Nat) (w : World) (hB : BytesIn w (.slice ad xs.length cap) xs) (hx : xs.length < 1000000) (R : Cm × Nat × Int) (hl : 0 < xs.length) (hl2 : xs.length ≤ 8192) (hb8 : xs.getD 0 0 < 256) (cmd : Nat) (hcm : xs.getD 0 0 = cmd) (hk : known (cmd : Int) = true) (hw : writes (cmd : Int) = true) (h1 : 1 < xs.length) (y : Nat) (hy : xs.getD 1 0 = y) (hy8 : y < 256) (hn : noWrite y = true) (hR : R = (noneC, 3, 1)) :
    Calls Tryz.prog 7 #[.slice ad xs.length cap, .int .i64 (z : Int)] w fun e w' => ∃ oa n oc, e = .returned (.tuple #[.agg #[.int .i64 R.1.cmd, .bool R.1.a, .bool R.1.u, .bool R.1.r, .slice oa n oc], .int .i64 (R.2.1 : Nat), .int .i64 R.2.2]) ∧ OrdsIn w' 0 (.slice oa n oc) R.1.os ∧ Below w.heap.size w w' := by
  have HA := Lib.hid (al_any w (.cells #[.int .i64 0, .bool false, .bool false, .bool false, .slice none 0 0] 29))
  have HN := Lib.hid (heap_alloc_new w (.cells #[.int .i64 0, .bool false, .bool false, .bool false, .slice none 0 0] 29))
  have hg : ¬ (8192 : Int) < (xs.length : Int) := by omega
  have hg2 : ((xs.length : Int) == 0) = false := by simp; exact List.length_pos_iff.1 hl
  have hg3 : (0 : Int) < (xs.length : Int) := by omega
  obtain ⟨g, o, rfl, b0, b1⟩ := first_in hB hl
  rw [hcm] at b0 hb8
  have ec : wrap64 (cmd : Int) = (cmd : Int) := by unfold wrap64; omega
  have HK := Lib.hid fun W => rknown_any (cmd : Int) W
  have HW := Lib.hid fun W => rwrites_any (cmd : Int) W
  rw [hy] at b1
  have HGW := Lib.hid fun W => rgetWcc_bad y W hy8 hn
  clear hy hy8 hn
  have HC1 := Lib.hid (b1 h1)
  have hg4 : ((xs.length : Int) == 1) = false := by simp; omega
  have hg5 : (1 : Int) < (xs.length : Int) := by omega
  have HH1 := Lib.hid h1
  rw [hk] at HK
  rw [hw] at HW
  have HC0 := Lib.hid b0
  clear hk hw hl hl2 hcm hb8 b1 h1 hB b0
  go_enter Tryz.func7, Tryz.ntmps7
  go_upto_region 1 with (fail)
  generalize w.alloc (.cells #[.int .i64 0, .bool false, .bool false, .bool false, .slice none 0 0] 29) = w1 at *
  have b0 := (HA.out.cell (p := ⟨g, o, none⟩) (cell_lt HC0.out)).trans HC0.out
  have l1 := there_lt HN.out
  have HS := al_any w1 (.cells #[.int .i64 (cmd : Int), .bool false, .bool false, .bool false, .slice none 0 0] 29)
  have K2 := kept_hid HA HS
  have N2 := Lib.hid (blk HN.out HS)
  have L2 := Lib.hid (heap_alloc_new w1 (.cells #[.int .i64 (cmd : Int), .bool false, .bool false, .bool false, .slice none 0 0] 29))
  have HRL := Lib.hid (there_lt HN.out)
  clear HS
  go_wp2_with fail
  clear b0 l1
  generalize w1.heap.size = L at *
  generalize w1.alloc (.cells #[.int .i64 (cmd : Int), .bool false, .bool false, .bool false, .slice none 0 0] 29) = w2 at *
  with_reducible refine (HK.out _).mono ?_
  rintro e w' ⟨rfl, rfl⟩
  obtain ⟨c0, c1, c2, c3, c4⟩ := cells5 L2.out
  go_wp2_with fail
  with_reducible refine (HW.out _).mono ?_
  rintro e w' ⟨rfl, rfl⟩
  have b1 := (K2.out.cell (p := ⟨g, o + 1, none⟩) (cell_lt HC1.out)).trans HC1.out
  go_wp2_with fail
  clear c0 c1 c2 c3 c4 b1
  with_reducible refine (HGW.out _).mono ?_
  rintro e w3 ⟨rfl, hb⟩
  have hb4 := kept_trans hb (al_any w3 (.cells #[.bool false, .bool false, .bool false] 26))
  have K4 := kept_hid K2 hb4
  have N4 := Lib.hid (blk N2.out hb4)
  have L4 := Lib.hid (blk L2.out hb4)
  have W4 := Lib.hid (heap_alloc_new w3 (.cells #[.bool false, .bool false, .bool false] 26))
  have HL3 := Lib.hid (there_lt (blk L2.out hb))
  have K3 := kept_hid K2 hb
  have HR3 := Lib.hid (there_lt (blk N2.out hb))
  have L3 := Lib.hid (blk L2.out hb)
  have N3 := Lib.hid (blk N2.out hb)
  clear hb hb4 K2 N2 L2 HGW
  obtain ⟨d0, d1, d2, d3, d4⟩ := cells5 N3.out
  obtain ⟨f0, f1, f2, f3, f4⟩ := free5 N3.out
  have l3 := HR3.out
  go_wp2_with fail
  clear l3
  clear d0 d1 d2 d3 d4 f0 f1 f2 f3 f4
  have SF := Lib.hid (set5b w3 w.heap.size 29 _ _ _ _ _ (.int .i64 0) (.bool false) (.bool false) (.bool false) (.slice none 0 0) N3.out K3.out (Nat.le_refl _))
  generalize ((((w3.setCell ⟨w.heap.size, 0, none⟩ (.int .i64 0)).setCell ⟨w.heap.size, 1, none⟩ (.bool false)).setCell ⟨w.heap.size, 2, none⟩ (.bool false)).setCell ⟨w.heap.size, 3, none⟩ (.bool false)).setCell ⟨w.heap.size, 4, none⟩ (.slice none 0 0) = wz at *
  have HS := al_any wz (.cells #[.bool false, .bool false, .bool false] 26)
  have HZ := blk SF.out.1 HS
  have KZ := Lib.hid (kept_trans SF.out.2.2 HS)
  generalize wz.alloc _ = wy at *
  subst hR
  refine bodyPost_ret (v := .tuple #[.agg #[.int .i64 0, .bool false, .bool false, .bool false, .slice none 0 0], .int .i64 3, .int .i64 1]) (results_cell_2 rfl _ _ _ w.heap.size _ rfl (run_loadVar_row wy w.heap.size 29 29 _ (0, 0) _ HZ Tryz.underlying29 rfl (by kernel_rfl)) (.int .i64 3) (.int .i64 1) rfl rfl) rfl ?_
  exact ⟨_, _, _, rfl, ordsIn_nil _ _, KZ.out⟩
set_option maxRecDepth 100000 in
set_option maxHeartbeats 8000000 in
theorem rread_orders {xs : List Nat} (ad : Option Addr) (cap z : Nat) (w : World) (hB : BytesIn w (.slice ad xs.length cap) xs) (hx : xs.length < 1000000) (R : Cm × Nat × Int) (hl : 0 < xs.length) (hl2 : xs.length ≤ 8192) (hb8 : xs.getD 0 0 < 256) (cmd : Nat) (hcm : xs.getD 0 0 = cmd) (h8 : ∀ x ∈ xs, x < 256) (hk : known (cmd : Int) = true) (hw : writes (cmd : Int) = true) (h1 : 1 < xs.length) (p n m : Bool) (hy : xs.getD 1 0 = put (wnum p n m)) (Q : List O × Nat × Nat) (hQ : Q = ords z (xs.length - 2) 2 (xs.drop 2)) (hR : R = if Q.2.1 ≠ 0 then (noneC, Q.2.1, (Q.2.2 : Int)) else (⟨cmd, p, n, m, Q.1⟩, 0, -1)) :
    Calls Tryz.prog 7 #[.slice ad xs.length cap, .int .i64 (z : Int)] w fun e w' => ∃ oa n oc, e = .returned (.tuple #[.agg #[.int .i64 R.1.cmd, .bool R.1.a, .bool R.1.u, .bool R.1.r, .slice oa n oc], .int .i64 (R.2.1 : Nat), .int .i64 R.2.2]) ∧ OrdsIn w' 0 (.slice oa n oc) R.1.os ∧ Below w.heap.size w w' := by
  have HA := Lib.hid (al_any w (.cells #[.int .i64 0, .bool false, .bool false, .bool false, .slice none 0 0] 29))
  have HN := Lib.hid (heap_alloc_new w (.cells #[.int .i64 0, .bool false, .bool false, .bool false, .slice none 0 0] 29))
  have hg : ¬ (8192 : Int) < (xs.length : Int) := by omega
  have hg2 : ((xs.length : Int) == 0) = false := by simp; exact List.length_pos_iff.1 hl
  have hg3 : (0 : Int) < (xs.length : Int) := by omega
  obtain ⟨g, o, rfl, b0, b1⟩ := first_in hB hl
  rw [hcm] at b0 hb8
  have ec : wrap64 (cmd : Int) = (cmd : Int) := by unfold wrap64; omega
  have HK := Lib.hid fun W => rknown_any (cmd : Int) W
  have HW := Lib.hid fun W => rwrites_any (cmd : Int) W
  rw [hy] at b1
  have HGW := Lib.hid fun W => rgetWcc_ok p n m W
  have HQ := Lib.hid (show Runs z xs Q [] 2 by rw [hQ]; exact runs_start z xs 2 h1)
  have HB0 := Lib.hid hB
  have H8 := Lib.hid h8
  have HX := Lib.hid hx
  have HR := Lib.hid hR
  clear hy hQ hB h8 hx hR
  have HC1 := Lib.hid (b1 h1)
  have hg4 : ((xs.length : Int) == 1) = false := by simp; omega
  have hg5 : (1 : Int) < (xs.length : Int) := by omega
  have HH1 := Lib.hid h1
  rw [hk] at HK
  rw [hw] at HW
  have HC0 := Lib.hid b0
  clear hk hw hl hl2 hcm hb8 b1 h1 b0
  go_enter Tryz.func7, Tryz.ntmps7
  go_upto_region 1 with (fail)
  generalize w.alloc (.cells #[.int .i64 0, .bool false, .bool false, .bool false, .slice none 0 0] 29) = w1 at *
  have b0 := (HA.out.cell (p := ⟨g, o, none⟩) (cell_lt HC0.out)).trans HC0.out
  have l1 := there_lt HN.out
  have HS := al_any w1 (.cells #[.int .i64 (cmd : Int), .bool false, .bool false, .bool false, .slice none 0 0] 29)
  have K2 := kept_hid HA HS
  have N2 := Lib.hid (blk HN.out HS)
  have L2 := Lib.hid (heap_alloc_new w1 (.cells #[.int .i64 (cmd : Int), .bool false, .bool false, .bool false, .slice none 0 0] 29))
  have HRL := Lib.hid (there_lt HN.out)
  clear HS
  go_wp2_with fail
  clear b0 l1
  generalize w1.heap.size = L at *
  generalize w1.alloc (.cells #[.int .i64 (cmd : Int), .bool false, .bool false, .bool false, .slice none 0 0] 29) = w2 at *
  with_reducible refine (HK.out _).mono ?_
  rintro e w' ⟨rfl, rfl⟩
  obtain ⟨c0, c1, c2, c3, c4⟩ := cells5 L2.out
  go_wp2_with fail
  with_reducible refine (HW.out _).mono ?_
  rintro e w' ⟨rfl, rfl⟩
  have b1 := (K2.out.cell (p := ⟨g, o + 1, none⟩) (cell_lt HC1.out)).trans HC1.out
  go_wp2_with fail
  clear c0 c1 c2 c3 c4 b1
  with_reducible refine (HGW.out _).mono ?_
  rintro e w3 ⟨rfl, hb⟩
  have hb4 := kept_trans hb (al_any w3 (.cells #[.bool p, .bool n, .bool m] 26))
  have K4 := kept_hid K2 hb4
  have N4 := Lib.hid (blk N2.out hb4)
  have L4 := Lib.hid (blk L2.out hb4)
  have W4 := Lib.hid (heap_alloc_new w3 (.cells #[.bool p, .bool n, .bool m] 26))
  have HL3 := Lib.hid (there_lt (blk L2.out hb))
  have K3 := kept_hid K2 hb
  have HR3 := Lib.hid (there_lt (blk N2.out hb))
  have L3 := Lib.hid (blk L2.out hb)
  have N3 := Lib.hid (blk N2.out hb)
  clear hb hb4 K2 N2 L2 HGW
  go_upto_region 17 with (fail)
  generalize w3.heap.size = WB at *
  generalize w3.alloc (.cells #[.bool p, .bool n, .bool m] 26) = w4 at *
  obtain ⟨c0, c1, c2, c3, c4⟩ := cells5 L4.out
  obtain ⟨e0, e1, e2⟩ := cells3 W4.out
  obtain ⟨f0, f1, f2, f3, f4⟩ := free5 L4.out
  have SF := Lib.hid (set13g (.bool p) (.bool n) (.bool m) L4.out (gbelow K4.out none) (Nat.le_of_lt HRL.out))
  go_upto_region 18 with (fail)
  clear c0 c1 c2 c3 c4 e0 e1 e2 f0 f1 f2 f3 f4
  generalize ((w4.setCell ⟨L, 1, none⟩ (.bool p)).setCell ⟨L, 2, none⟩ (.bool n)).setCell ⟨L, 3, none⟩ (.bool m) = w5 at *
  have L5 := Lib.hid SF.out.1
  have N5 := Lib.hid (blk_g N4.out SF.out.2.1 (by intro e; injection e with e; have := HRL.out; omega))
  have K5 := Lib.hid (K4.out.grown SF.out.2.1 K4.out.size (by intro k hk; injection hk with hk; have := HRL.out; omega))
  clear SF L4 N4 W4 L3 N3 K3 K4
  obtain ⟨B, hB⟩ : ∃ B, B = w5.heap.size := ⟨_, rfl⟩
  have HB5 := Lib.hid (show B ≤ w5.heap.size by rw [hB]; exact Nat.le_refl _)
  have HLB := Lib.hid (show L < B by rw [hB]; exact there_lt L5.out)
  have HWB := Lib.hid (show w.heap.size ≤ B by rw [hB]; exact K5.out.size)
  clear hB
  go_wp2_with fail
  go_loopg [10] (xs.length - 2 + 1) (fun q i wr => ∃ (at' : Nat) (os : List O) (la : Option Addr) (lc : Nat), i = .int .i64 (at' : Int) ∧ q = xs.length - at' + 1 ∧ Hid (Runs z xs Q os at') ∧ Hid (os.length ≤ at') ∧ Hid (OwnOrds wr B (.slice la os.length lc) os) ∧
    Hid (wr.heap[L]? = some (.cells #[.int .i64 (cmd : Int), .bool p, .bool n, .bool m, .slice la os.length lc] 29 (0, 0))) ∧ Hid (wr.heap[w.heap.size]? = some (.cells #[.int .i64 0, .bool false, .bool false, .bool false, .slice none 0 0] 29 (0, 0))) ∧ Hid (Below w.heap.size w wr) ∧ Hid (B ≤ wr.heap.size))
  case atStart => exact ⟨2, [], none, 0, rfl, rfl, HQ, Lib.hid (Nat.zero_le _), Lib.hid (ownOrds_nil _ _), L5, N5, K5, HB5⟩
  case round =>
    clear L5 N5 K5 HB5 HQ
    obtain ⟨at', os, la, lc, rfl, rfl, HRU, HN0, HO, HL, HRR, HW, HBW⟩ := hrel
    have HGB := Lib.hid fun W (hb : Below wr.heap.size wr W) => bytes_below HB0.out (kept_trans HW.out hb)
    by_cases hlt : at' < xs.length
    · have hi : (at' : Int) < (xs.length : Int) := by omega
      by_cases h0 : (oget (xs.drop at') z).2.2 = 0
      · have HR2 := Lib.hid (runs_step HRU.out H8.out hlt h0)
        have HGET := rgot_right (some ⟨g, o, none⟩) cap at' z wr (HGB.out wr (Below.refl _ _)) HX.out H8.out h0
        generalize oget (xs.drop at') z = q at *
        obtain ⟨⟨qk, qt, qp, qn, qs, qm, qa, qc⟩, tk, why⟩ := q
        simp only at HGET HR2
        replace HGET := Lib.hid HGET
        clear h0
        go_wp2_with fail
        with_reducible refine HGET.out.mono ?_
        rintro e wa ⟨va, tn, vc, rfl, ho, hb⟩
        have HS := al_any wa (.cells #[.int .i64 qk, .slice va tn vc, .bool qp, .bool qn, .int .i64 qs, .bool qm, .int .i64 qa, .int .u8 (qc : Int)] 56)
        have hb2 := kept_trans hb HS
        have X2 := Lib.hid (heap_alloc_new wa (.cells #[.int .i64 qk, .slice va tn vc, .bool qp, .bool qn, .int .i64 qs, .bool qm, .int .i64 qa, .int .u8 (qc : Int)] 56))
        have O2 := Lib.hid (HO.out.below hb2)
        have T2 := Lib.hid (own_below (own_mono ho HBW.out) HS)
        have L2 := Lib.hid (blk HL.out hb2)
        have R2 := Lib.hid (blk HRR.out hb2)
        have K2 := kept_hid HW hb2
        have B2 := Lib.hid (Nat.le_trans HBW.out hb2.size)
        clear HGET ho hb HS hb2 HO HL HRR HW HBW HRU HGB
        go_upto_region 23 with (fail)
        generalize wa.heap.size = XB at *
        generalize wa.alloc (.cells #[.int .i64 qk, .slice va tn vc, .bool qp, .bool qn, .int .i64 qs, .bool qm, .int .i64 qa, .int .u8 (qc : Int)] 56) = wb at *
        obtain ⟨c0, c1, c2, c3, c4⟩ := cells5 L2.out
        obtain ⟨x0, x1, x2, x3, x4, x5, x6, x7⟩ := cells8 X2.out
        have HS := al_any wb (.cells (ocells ⟨qk, qt, qp, qn, qs, qm, qa, qc⟩ (.slice va tn vc)).toArray 56)
        have O3 := Lib.hid (O2.out.below HS)
        have T3 := Lib.hid (own_below T2.out HS)
        have L3 := Lib.hid (blk L2.out HS)
        have R3 := Lib.hid (blk R2.out HS)
        have K3 := kept_hid K2 HS
        have B3 := Lib.hid (Nat.le_trans B2.out HS.size)
        have Y3 := Lib.hid (heap_alloc_new wb (.cells (ocells ⟨qk, qt, qp, qn, qs, qm, qa, qc⟩ (.slice va tn vc)).toArray 56))
        clear HS
        go_wp2_with (at_builtin; refine wpList_mark ?_)
        refine Lib.hid ?_
        refine append_ord rfl (.tmp 77) (.tmp 79) rfl B _ os rfl O3.out wb.heap.size ⟨qk, qt, qp, qn, qs, qm, qa, qc⟩ va tn vc rfl Y3.out T3.out (by have := HX.out; have := HN0.out; omega) B3.out ?_
        intro v2 wc hown hgr
        have hne : ∀ k, Value.ownBlock (.slice la os.length lc) = some k → B ≤ k := by
          obtain ⟨us, h1, _⟩ := O3.out
          exact own_ge h1
        have L4 := Lib.hid (blk_g L3.out hgr (by intro e; have := hne _ e.symm; have := HLB.out; omega))
        have R4 := Lib.hid (blk_g R3.out hgr (by intro e; have := hne _ e.symm; have := HWB.out; have := HLB.out; have := HRL.out; omega))
        have K4 := Lib.hid (K3.out.grown hgr K3.out.size (by intro k hk; have := hne k hk; have := HWB.out; omega))
        have B4 := Lib.hid (Nat.le_trans B3.out hgr.size)
        have O4 := Lib.hid hown
        obtain ⟨la2, lc2, rfl⟩ := hown.form
        clear hown hgr hne O2 T2 L2 R2 K2 B2 X2 O3 T3 L3 R3 K3 B3 Y3 c0 c1 c2 c3 c4 x0 x1 x2 x3 x4 x5 x6 x7
        obtain ⟨N2, hN2⟩ : ∃ N2, N2 = (os ++ [(⟨qk, qt, qp, qn, qs, qm, qa, qc⟩ : O)]).length := ⟨_, rfl⟩
        have HN2 := Lib.hid hN2
        rw [← hN2] at O4 ⊢
        clear hN2
        obtain ⟨c0, c1, c2, c3, c4⟩ := cells5 L4.out
        obtain ⟨f0, f1, f2, f3, f4⟩ := free5 L4.out
        have SF := Lib.hid (set4w (.slice la2 N2 lc2) L4.out (gbelow K4.out none) (Nat.le_of_lt HRL.out))
        go_wp2_with fail
        clear c0 c1 c2 c3 c4 f0 f1 f2 f3 f4
        generalize wc.setCell ⟨L, 4, none⟩ (.slice la2 N2 lc2) = wd at *
        go_roundg (xs.length - (at' + tk) + 1)
        case measure => have := HR2.out.2; have := HR2.out.1.1; omega
        case rel =>
          refine ⟨at' + tk, _, la2, lc2, rfl, rfl, Lib.hid HR2.out.1, Lib.hid (by rw [List.length_append]; simp only [List.length_cons, List.length_nil]; have := HR2.out.2; have := HN0.out; omega), Lib.hid ?_, Lib.hid ?_, Lib.hid ?_, Lib.hid ?_, Lib.hid ?_⟩
          · rw [← HN2.out]; exact O4.out.other SF.out.2.1 HLB.out
          · rw [← HN2.out]; exact SF.out.1
          · exact blk_g R4.out SF.out.2.1 (by intro e; injection e with e; have := HRL.out; omega)
          · exact K4.out.grown SF.out.2.1 K4.out.size (by intro k hk; injection hk with hk; have := HRL.out; omega)
          · exact Nat.le_trans B4.out SF.out.2.1.size
      · have HR2 := Lib.hid (runs_stop HRU.out hlt h0)
        have HGET := rgot_wrong (some ⟨g, o, none⟩) cap at' z wr (HGB.out wr (Below.refl _ _)) HX.out H8.out (by omega) h0
        have HH0 := Lib.hid h0
        clear h0
        generalize oget (xs.drop at') z = q at *
        obtain ⟨_, tk, why⟩ := q
        simp only at HGET HR2 HH0
        replace HGET := Lib.hid HGET
        have e1 : ((why : Int) != 0) = true := by simp; exact HH0.out
        go_wp2_with fail
        with_reducible refine HGET.out.mono ?_
        rintro e wa ⟨rfl, hb⟩
        have K2 := kept_hid HW hb
        have R2 := Lib.hid (blk HRR.out hb)
        clear HGET hb HO HL HRR HW HBW HRU HGB
        obtain ⟨d0, d1, d2, d3, d4⟩ := cells5 R2.out
        obtain ⟨f0, f1, f2, f3, f4⟩ := free5 R2.out
        have l3 := there_lt R2.out
        go_wp2_with fail
        clear l3 d0 d1 d2 d3 d4 f0 f1 f2 f3 f4
        have SF := Lib.hid (set5b wa w.heap.size 29 _ _ _ _ _ (.int .i64 0) (.bool false) (.bool false) (.bool false) (.slice none 0 0) R2.out K2.out (Nat.le_refl _))
        generalize ((((wa.setCell ⟨w.heap.size, 0, none⟩ (.int .i64 0)).setCell ⟨w.heap.size, 1, none⟩ (.bool false)).setCell ⟨w.heap.size, 2, none⟩ (.bool false)).setCell ⟨w.heap.size, 3, none⟩ (.bool false)).setCell ⟨w.heap.size, 4, none⟩ (.slice none 0 0) = wz at *
        have HS := al_any wz (.cells #[.int .i64 0, .slice none 0 0, .bool false, .bool false, .int .i64 0, .bool false, .int .i64 0, .int .u8 0] 56)
        have HZ := blk SF.out.1 HS
        have KZ := Lib.hid (kept_trans SF.out.2.2 HS)
        generalize wz.alloc _ = wy at *
        have hR := HR.out
        rw [HR2.out, if_pos HH0.out] at hR
        subst hR
        refine bodyPost_ret (v := .tuple #[.agg #[.int .i64 0, .bool false, .bool false, .bool false, .slice none 0 0], .int .i64 (why : Int), .int .i64 ((at' + tk : Nat) : Int)]) (results_cell_2 rfl _ _ _ w.heap.size _ rfl (run_loadVar_row wy w.heap.size 29 29 _ (0, 0) _ HZ Tryz.underlying29 rfl (by kernel_rfl)) (.int .i64 (why : Int)) (.int .i64 ((at' + tk : Nat) : Int)) rfl rfl) rfl ?_
        exact ⟨_, _, _, rfl, ordsIn_nil _ _, KZ.out⟩
    · have hat : at' = xs.length := by have := HRU.out.1; omega
      have hi : ¬ (at' : Int) < (xs.length : Int) := by omega
      have hQ := Lib.hid (show Q = (os, 0, xs.length) from runs_end (by have := HRU.out; rwa [hat] at this))
      clear hlt hat
      obtain ⟨c0, c1, c2, c3, c4⟩ := cells5 HL.out
      obtain ⟨d0, d1, d2, d3, d4⟩ := cells5 HRR.out
      obtain ⟨f0, f1, f2, f3, f4⟩ := free5 HRR.out
      go_wp2_with fail
      clear c0 c1 c2 c3 c4 d0 d1 d2 d3 d4 f0 f1 f2 f3 f4
      have SF := Lib.hid (set5b wr w.heap.size 29 _ _ _ _ _ (.int .i64 (cmd : Int)) (.bool p) (.bool n) (.bool m) (.slice la os.length lc) HRR.out HW.out (Nat.le_refl _))
      generalize ((((wr.setCell ⟨w.heap.size, 0, none⟩ (.int .i64 (cmd : Int))).setCell ⟨w.heap.size, 1, none⟩ (.bool p)).setCell ⟨w.heap.size, 2, none⟩ (.bool n)).setCell ⟨w.heap.size, 3, none⟩ (.bool m)).setCell ⟨w.heap.size, 4, none⟩ (.slice la os.length lc) = wz at *
      have hR := HR.out
      rw [hQ.out, if_neg (by simp)] at hR
      subst hR
      refine bodyPost_ret (v := .tuple #[.agg #[.int .i64 (cmd : Int), .bool p, .bool n, .bool m, .slice la os.length lc], .int .i64 0, .int .i64 (-1)]) (results_cell_2 rfl _ _ _ w.heap.size _ rfl (run_loadVar_row wz w.heap.size 29 29 _ (0, 0) _ SF.out.1 Tryz.underlying29 rfl (by kernel_rfl)) (.int .i64 0) (.int .i64 (-1)) rfl rfl) rfl ?_
      exact ⟨_, _, _, rfl, (HO.out.other SF.out.2.1 (Nat.lt_trans HRL.out HLB.out)).to.mono (Nat.zero_le _), SF.out.2.2⟩
/-- The document's Read of whatever bytes. -/
theorem rread_any {xs : List Nat} (ad : Option Addr) (cap z : Nat) (w : World) (hB : BytesIn w (.slice ad xs.length cap) xs) (h8 : ∀ x ∈ xs, x < 256) (hx : xs.length < 1000000) (R : Cm × Nat × Int) (hR : R = cread xs z) :
    Calls Tryz.prog 7 #[.slice ad xs.length cap, .int .i64 (z : Int)] w fun e w' => ∃ oa n oc, e = .returned (.tuple #[.agg #[.int .i64 R.1.cmd, .bool R.1.a, .bool R.1.u, .bool R.1.r, .slice oa n oc], .int .i64 (R.2.1 : Nat), .int .i64 R.2.2]) ∧ OrdsIn w' 0 (.slice oa n oc) R.1.os ∧ Below w.heap.size w w' := by
  by_cases hl : 8192 < xs.length
  · exact rread_long ad cap z w hB hx R hl (by rw [hR]; unfold cread; rw [if_pos hl])
  cases xs with
  | nil => exact rread_none ad cap z w hB hx R rfl hR
  | cons c ys =>
    rw [cread_cons c ys z (by omega)] at hR
    have hc8 := h8 c (by simp)
    have hl2 : (c :: ys).length ≤ 8192 := by omega
    cases hk : known (c : Int) with
    | false =>
      rw [hk, if_pos rfl] at hR
      exact rread_strange ad cap z w hB hx R (by simp) hl2 hc8 c rfl hk hR
    | true =>
      rw [hk, if_neg (by decide)] at hR
      cases hw : writes (c : Int) with
      | false =>
        rw [hw, if_pos rfl] at hR
        by_cases hys : ys = []
        · subst hys
          rw [if_neg (by simp)] at hR
          exact rread_bare ad cap z w hB hx R (by simp) hl2 hc8 c rfl hk hw rfl hR
        · rw [if_pos hys] at hR
          have hpos : 0 < ys.length := List.length_pos_iff.2 hys
          exact rread_more ad cap z w hB hx R (by simp) hl2 hc8 c rfl hk hw (by simp; omega) hR
      | true =>
        rw [hw, if_neg (by decide)] at hR
        cases ys with
        | nil => exact rread_cut ad cap z w hB hx R (by simp) hl2 hc8 c rfl hk hw rfl hR
        | cons b r =>
          have hb8 := h8 b (by simp)
          simp only at hR
          cases hn : noWrite b with
          | true =>
            rw [hn, if_pos rfl] at hR
            exact rread_wcc ad cap z w hB hx R (by simp) hl2 hc8 c rfl hk hw (by simp) b rfl hb8 hn hR
          | false =>
            rw [hn, if_neg (by decide)] at hR
            obtain ⟨a, u, s, rfl⟩ := write_cases b hb8 hn
            have hn2 := wnum_lt a u s
            have hbit : (put (wnum a u s) % 64 / 4 % 2 == 1) = a ∧ (put (wnum a u s) % 64 / 2 % 2 == 1) = u ∧ (put (wnum a u s) % 64 % 2 == 1) = s := by
              rw [put_low _ (by omega)]
              cases a <;> cases u <;> cases s <;> decide
            rw [hbit.1, hbit.2.1, hbit.2.2] at hR
            exact rread_orders ad cap z w hB hx R (by simp) hl2 hc8 c rfl h8 hk hw (by simp) a u s rfl (ords z r.length 2 r) rfl hR
end Str
end Go.Proofs.YtmllmmamdkjndaaGreatDoor
