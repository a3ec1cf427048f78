/- Do of package keys. Written by tools/gen_kyb_code.py. -/
import Derived.Test.YtpgbnnnfeaodmaaGreatDoorSKybTurn
import Derived.Test.YtpgbnnnfeaodmaaGreatDoorSKybWork
import Derived.Test.YtpgbnnnfeaodmaaGreatDoorSAttrKey
import Derived.Deep.RegionHeld3
import Derived.Deep.Cut
import Derived.IntWalk
namespace Go.Proofs.YtpgbnnnfeaodmaaGreatDoor
open Go.RowKit Sha Six Apd Cut Err Att Grd Fld Scr
set_option linter.unusedVariables false
namespace Kyb
open Edt
set_option maxRecDepth 100000 in
set_option maxHeartbeats 8000000 in
theorem do_17a (s : S) (ad : Option Addr) (k c : Nat) (w : World) (h : CelsIn w (.slice ad s.cs.length k) s.cs) (hr : sright s = true) (h8 : Sound s.cs) (hl : s.cs.length < 10000) (hc8 : c < 256) (ha : Att.aid c = false) :
    Calls Tryz.prog 10 #[.agg #[.int .i64 s.rows, .int .i64 s.cols, .slice ad s.cs.length k, .int .i64 s.cur, .bool s.lk, .bool s.ins], .agg #[.int .i64 17, .int .u8 (c : Int)]] w fun e w' => GaveK w w' s false 3 (-1) e := by
  have HP := Lib.hid (show 0 < s.cs.length by obtain ⟨_, _, h3, h4, _⟩ := sright_parts hr; omega)
  have HA3 := heap_alloc3 w (.cells #[.int .i64 s.rows, .int .i64 s.cols, .slice ad s.cs.length k, .int .i64 s.cur, .bool s.lk, .bool s.ins] 24) (.cells #[.int .i64 17, .int .u8 (c : Int)] 26) (.cells #[.int .i64 0, .int .i64 0, .slice none 0 0, .int .i64 0, .bool false, .bool false] 24)
  have HB := Lib.hid (kept_trans (kept_trans (al_any w (.cells #[.int .i64 s.rows, .int .i64 s.cols, .slice ad s.cs.length k, .int .i64 s.cur, .bool s.lk, .bool s.ins] 24)) (al_any _ (.cells #[.int .i64 17, .int .u8 (c : Int)] 26))) (al_any _ (.cells #[.int .i64 0, .int .i64 0, .slice none 0 0, .int .i64 0, .bool false, .bool false] 24)))
  have HX := Lib.hid HA3.1
  have HY := Lib.hid HA3.2.1
  have HZ := Lib.hid HA3.2.2
  have HH := Lib.hid h
  have HAI := Lib.hid fun W => Att.aid_any c W hc8
  rw [show Att.aid c = false from ha] at HAI
  clear h hr h8 hl HA3
  go_enter Tryz.func10, Tryz.ntmps10
  go_upto_region 1 with (fail)
  generalize ((w.alloc _).alloc _).alloc _ = w1 at *
  have hzx := Lib.hid (there_lt HZ.out)
  obtain ⟨c0, c1, c2, c3, c4, c5⟩ := cells6 HX.out
  obtain ⟨y0, y1⟩ := cells2 HY.out
  go_wp2_with fail
  with_reducible refine (HAI.out _).mono ?_
  rintro e w2 ⟨rfl, rfl⟩
  have SG := Lib.hid (lay_E (t := s) HZ.out (HH.out.below HB.out) (show Err.Told w1 (.iface 48 (.int .i64 3)) 3 (-1) from .inr (.inl ⟨rfl, rfl⟩)) HB.out (show w.heap.size ≤ w.heap.size + 2 by omega) HP.out)
  obtain ⟨f0, f1, f2, f3, f4, f5⟩ := free6 HZ.out
  obtain ⟨z0, z1, z2, z3, z4, z5⟩ := cells6 HZ.out
  go_wp2_with fail
  clear z0 z1 z2 z3 z4 z5 f0 f1 f2 f3 f4 f5 c0 c1 c2 c3 c4 c5 y0 y1
  generalize (((((w1.setCell _ _).setCell _ _).setCell _ _).setCell _ _).setCell _ _).setCell _ _ = w9 at *
  exact bodyPost_ret (v := .tuple #[.agg (six ad k s), .bool false, .iface 48 (.int .i64 3)]) (results_cell_2 rfl _ _ _ (w.heap.size + 2) _ rfl (run_loadVar_row w9 (w.heap.size + 2) 24 24 _ (0, 0) _ SG.out.1 Tryz.underlying24 rfl (by kernel_rfl)) (.bool false) (.iface 48 (.int .i64 3)) rfl rfl) rfl ⟨ad, k, _, rfl, SG.out.2.1, SG.out.2.2.1, fun h0 => absurd h0 (by decide), SG.out.2.2.2⟩
set_option maxRecDepth 100000 in
set_option maxHeartbeats 8000000 in
theorem do_17l (s : S) (ad : Option Addr) (k c : Nat) (w : World) (h : CelsIn w (.slice ad s.cs.length k) s.cs) (hr : sright s = true) (h8 : Sound s.cs) (hl : s.cs.length < 10000) (hc8 : c < 256) (ha : Att.aid c = true) (hlk : s.lk = true) :
    Calls Tryz.prog 10 #[.agg #[.int .i64 s.rows, .int .i64 s.cols, .slice ad s.cs.length k, .int .i64 s.cur, .bool s.lk, .bool s.ins], .agg #[.int .i64 17, .int .u8 (c : Int)]] w fun e w' => GaveK w w' s false 7 (-1) e := by
  obtain ⟨r, cc, cs, cur, lk, ins⟩ := s
  simp only at *
  subst hlk
  have HP := Lib.hid (show 0 < cs.length by obtain ⟨_, _, h3, h4, _⟩ := sright_parts hr; simp only at h3 h4; omega)
  have HA3 := heap_alloc3 w (.cells #[.int .i64 r, .int .i64 cc, .slice ad cs.length k, .int .i64 cur, .bool true, .bool ins] 24) (.cells #[.int .i64 17, .int .u8 (c : Int)] 26) (.cells #[.int .i64 0, .int .i64 0, .slice none 0 0, .int .i64 0, .bool false, .bool false] 24)
  have HB := Lib.hid (kept_trans (kept_trans (al_any w (.cells #[.int .i64 r, .int .i64 cc, .slice ad cs.length k, .int .i64 cur, .bool true, .bool ins] 24)) (al_any _ (.cells #[.int .i64 17, .int .u8 (c : Int)] 26))) (al_any _ (.cells #[.int .i64 0, .int .i64 0, .slice none 0 0, .int .i64 0, .bool false, .bool false] 24)))
  have HX := Lib.hid HA3.1
  have HY := Lib.hid HA3.2.1
  have HZ := Lib.hid HA3.2.2
  have HH := Lib.hid h
  have HAI := Lib.hid fun W => Att.aid_any c W hc8
  rw [show Att.aid c = true from ha] at HAI
  clear h hr h8 hl HA3
  go_enter Tryz.func10, Tryz.ntmps10
  go_upto_region 1 with (fail)
  generalize ((w.alloc _).alloc _).alloc _ = w1 at *
  have hzx := Lib.hid (there_lt HZ.out)
  obtain ⟨c0, c1, c2, c3, c4, c5⟩ := cells6 HX.out
  obtain ⟨y0, y1⟩ := cells2 HY.out
  go_wp2_with fail
  with_reducible refine (HAI.out _).mono ?_
  rintro e w2 ⟨rfl, rfl⟩
  have SG := Lib.hid (lay_E (t := (⟨r, cc, cs, cur, true, ins⟩ : S)) HZ.out (HH.out.below HB.out) (show Err.Told w1 (.iface 48 (.int .i64 7)) 7 (-1) from .inr (.inl ⟨rfl, rfl⟩)) HB.out (show w.heap.size ≤ w.heap.size + 2 by omega) HP.out)
  obtain ⟨f0, f1, f2, f3, f4, f5⟩ := free6 HZ.out
  obtain ⟨z0, z1, z2, z3, z4, z5⟩ := cells6 HZ.out
  go_wp2_with fail
  clear z0 z1 z2 z3 z4 z5 f0 f1 f2 f3 f4 f5 c0 c1 c2 c3 c4 c5 y0 y1
  generalize (((((w1.setCell _ _).setCell _ _).setCell _ _).setCell _ _).setCell _ _).setCell _ _ = w9 at *
  exact bodyPost_ret (v := .tuple #[.agg (six ad k (⟨r, cc, cs, cur, true, ins⟩ : S)), .bool false, .iface 48 (.int .i64 7)]) (results_cell_2 rfl _ _ _ (w.heap.size + 2) _ rfl (run_loadVar_row w9 (w.heap.size + 2) 24 24 _ (0, 0) _ SG.out.1 Tryz.underlying24 rfl (by kernel_rfl)) (.bool false) (.iface 48 (.int .i64 7)) rfl rfl) rfl ⟨ad, k, _, rfl, SG.out.2.1, SG.out.2.2.1, fun h0 => absurd h0 (by decide), SG.out.2.2.2⟩
set_option maxRecDepth 100000 in
set_option maxHeartbeats 8000000 in
theorem do_15l (s : S) (ad : Option Addr) (k c : Nat) (w : World) (h : CelsIn w (.slice ad s.cs.length k) s.cs) (hr : sright s = true) (h8 : Sound s.cs) (hl : s.cs.length < 10000) (hlk : s.lk = true) :
    Calls Tryz.prog 10 #[.agg #[.int .i64 s.rows, .int .i64 s.cols, .slice ad s.cs.length k, .int .i64 s.cur, .bool s.lk, .bool s.ins], .agg #[.int .i64 15, .int .u8 (c : Int)]] w fun e w' => GaveK w w' s false 7 (-1) e := by
  obtain ⟨r, cc, cs, cur, lk, ins⟩ := s
  simp only at *
  subst hlk
  have HP := Lib.hid (show 0 < cs.length by obtain ⟨_, _, h3, h4, _⟩ := sright_parts hr; simp only at h3 h4; omega)
  have HA3 := heap_alloc3 w (.cells #[.int .i64 r, .int .i64 cc, .slice ad cs.length k, .int .i64 cur, .bool true, .bool ins] 24) (.cells #[.int .i64 15, .int .u8 (c : Int)] 26) (.cells #[.int .i64 0, .int .i64 0, .slice none 0 0, .int .i64 0, .bool false, .bool false] 24)
  have HB := Lib.hid (kept_trans (kept_trans (al_any w (.cells #[.int .i64 r, .int .i64 cc, .slice ad cs.length k, .int .i64 cur, .bool true, .bool ins] 24)) (al_any _ (.cells #[.int .i64 15, .int .u8 (c : Int)] 26))) (al_any _ (.cells #[.int .i64 0, .int .i64 0, .slice none 0 0, .int .i64 0, .bool false, .bool false] 24)))
  have HX := Lib.hid HA3.1
  have HY := Lib.hid HA3.2.1
  have HZ := Lib.hid HA3.2.2
  have HH := Lib.hid h
  clear h hr h8 hl HA3
  go_enter Tryz.func10, Tryz.ntmps10
  go_upto_region 1 with (fail)
  generalize ((w.alloc _).alloc _).alloc _ = w1 at *
  have hzx := Lib.hid (there_lt HZ.out)
  obtain ⟨c0, c1, c2, c3, c4, c5⟩ := cells6 HX.out
  obtain ⟨y0, y1⟩ := cells2 HY.out
  have SG := Lib.hid (lay_E (t := (⟨r, cc, cs, cur, true, ins⟩ : S)) HZ.out (HH.out.below HB.out) (show Err.Told w1 (.iface 48 (.int .i64 7)) 7 (-1) from .inr (.inl ⟨rfl, rfl⟩)) HB.out (show w.heap.size ≤ w.heap.size + 2 by omega) HP.out)
  obtain ⟨f0, f1, f2, f3, f4, f5⟩ := free6 HZ.out
  obtain ⟨z0, z1, z2, z3, z4, z5⟩ := cells6 HZ.out
  go_wp2_with fail
  clear z0 z1 z2 z3 z4 z5 f0 f1 f2 f3 f4 f5 c0 c1 c2 c3 c4 c5 y0 y1
  generalize (((((w1.setCell _ _).setCell _ _).setCell _ _).setCell _ _).setCell _ _).setCell _ _ = w9 at *
  exact bodyPost_ret (v := .tuple #[.agg (six ad k (⟨r, cc, cs, cur, true, ins⟩ : S)), .bool false, .iface 48 (.int .i64 7)]) (results_cell_2 rfl _ _ _ (w.heap.size + 2) _ rfl (run_loadVar_row w9 (w.heap.size + 2) 24 24 _ (0, 0) _ SG.out.1 Tryz.underlying24 rfl (by kernel_rfl)) (.bool false) (.iface 48 (.int .i64 7)) rfl rfl) rfl ⟨ad, k, _, rfl, SG.out.2.1, SG.out.2.2.1, fun h0 => absurd h0 (by decide), SG.out.2.2.2⟩
set_option maxRecDepth 100000 in
set_option maxHeartbeats 8000000 in
theorem do_16 (s : S) (ad : Option Addr) (k c : Nat) (w : World) (h : CelsIn w (.slice ad s.cs.length k) s.cs) (hr : sright s = true) (h8 : Sound s.cs) (hl : s.cs.length < 10000) :
    Calls Tryz.prog 10 #[.agg #[.int .i64 s.rows, .int .i64 s.cols, .slice ad s.cs.length k, .int .i64 s.cur, .bool s.lk, .bool s.ins], .agg #[.int .i64 16, .int .u8 (c : Int)]] w fun e w' => GaveK w w' (⟨s.rows, s.cols, s.cs, s.cur, false, false⟩) false 0 (-1) e := by
  have HP := Lib.hid (show 0 < s.cs.length by obtain ⟨_, _, h3, h4, _⟩ := sright_parts hr; omega)
  have HA3 := heap_alloc3 w (.cells #[.int .i64 s.rows, .int .i64 s.cols, .slice ad s.cs.length k, .int .i64 s.cur, .bool s.lk, .bool s.ins] 24) (.cells #[.int .i64 16, .int .u8 (c : Int)] 26) (.cells #[.int .i64 0, .int .i64 0, .slice none 0 0, .int .i64 0, .bool false, .bool false] 24)
  have HB := Lib.hid (kept_trans (kept_trans (al_any w (.cells #[.int .i64 s.rows, .int .i64 s.cols, .slice ad s.cs.length k, .int .i64 s.cur, .bool s.lk, .bool s.ins] 24)) (al_any _ (.cells #[.int .i64 16, .int .u8 (c : Int)] 26))) (al_any _ (.cells #[.int .i64 0, .int .i64 0, .slice none 0 0, .int .i64 0, .bool false, .bool false] 24)))
  have HX := Lib.hid HA3.1
  have HY := Lib.hid HA3.2.1
  have HZ := Lib.hid HA3.2.2
  have HH := Lib.hid h
  have HTN := Lib.hid fun W (hb : Below w.heap.size w W) => turn_16 s ad k c W (HH.out.below hb) HP.out hl
  have HTP := Lib.hid (show 0 < (⟨s.rows, s.cols, s.cs, s.cur, false, false⟩ : S).cs.length by exact HP.out)
  generalize ht : (⟨s.rows, s.cols, s.cs, s.cur, false, false⟩ : S) = t at *
  replace ht := Lib.hid ht
  simp only [GaveA] at HTN
  clear h hr h8 hl HA3
  go_enter Tryz.func10, Tryz.ntmps10
  go_upto_region 1 with (fail)
  generalize ((w.alloc _).alloc _).alloc _ = w1 at *
  have hzx := Lib.hid (there_lt HZ.out)
  obtain ⟨c0, c1, c2, c3, c4, c5⟩ := cells6 HX.out
  obtain ⟨y0, y1⟩ := cells2 HY.out
  have HS := Lib.hid (show ∀ W', Below w1.heap.size w1 W' → (W'.cell? ⟨w.heap.size, 0, none⟩ = some (.int .i64 s.rows) ∧ W'.cell? ⟨w.heap.size, 1, none⟩ = some (.int .i64 s.cols) ∧ W'.cell? ⟨w.heap.size, 2, none⟩ = some (.slice ad s.cs.length k) ∧ W'.cell? ⟨w.heap.size, 3, none⟩ = some (.int .i64 s.cur) ∧ W'.cell? ⟨w.heap.size, 4, none⟩ = some (.bool s.lk) ∧ W'.cell? ⟨w.heap.size, 5, none⟩ = some (.bool s.ins)) ∧ W'.cell? ⟨w.heap.size + 1, 0, none⟩ = some (.int .i64 16) ∧ W'.cell? ⟨w.heap.size + 1, 1, none⟩ = some (.int .u8 (c : Int)) from fun W' hW => ⟨cells6 (blk HX.out hW), cells2 (blk HY.out hW)⟩)
  have HST := Lib.hid (show ∀ W' va vc, Below w1.heap.size w1 W' → (((((((W'.setCell ⟨w.heap.size + 2, 0, none⟩ (.int .i64 t.rows)).setCell ⟨w.heap.size + 2, 1, none⟩ (.int .i64 t.cols)).setCell ⟨w.heap.size + 2, 2, none⟩ (.slice va t.cs.length vc)).setCell ⟨w.heap.size + 2, 3, none⟩ (.int .i64 t.cur)).setCell ⟨w.heap.size + 2, 4, none⟩ (.bool t.lk)).setCell ⟨w.heap.size + 2, 5, none⟩ (.bool t.ins)).cell? ⟨w.heap.size, 0, none⟩ = some (.int .i64 s.rows) ∧ ((((((W'.setCell ⟨w.heap.size + 2, 0, none⟩ (.int .i64 t.rows)).setCell ⟨w.heap.size + 2, 1, none⟩ (.int .i64 t.cols)).setCell ⟨w.heap.size + 2, 2, none⟩ (.slice va t.cs.length vc)).setCell ⟨w.heap.size + 2, 3, none⟩ (.int .i64 t.cur)).setCell ⟨w.heap.size + 2, 4, none⟩ (.bool t.lk)).setCell ⟨w.heap.size + 2, 5, none⟩ (.bool t.ins)).cell? ⟨w.heap.size, 1, none⟩ = some (.int .i64 s.cols) ∧ ((((((W'.setCell ⟨w.heap.size + 2, 0, none⟩ (.int .i64 t.rows)).setCell ⟨w.heap.size + 2, 1, none⟩ (.int .i64 t.cols)).setCell ⟨w.heap.size + 2, 2, none⟩ (.slice va t.cs.length vc)).setCell ⟨w.heap.size + 2, 3, none⟩ (.int .i64 t.cur)).setCell ⟨w.heap.size + 2, 4, none⟩ (.bool t.lk)).setCell ⟨w.heap.size + 2, 5, none⟩ (.bool t.ins)).cell? ⟨w.heap.size, 2, none⟩ = some (.slice ad s.cs.length k) ∧ ((((((W'.setCell ⟨w.heap.size + 2, 0, none⟩ (.int .i64 t.rows)).setCell ⟨w.heap.size + 2, 1, none⟩ (.int .i64 t.cols)).setCell ⟨w.heap.size + 2, 2, none⟩ (.slice va t.cs.length vc)).setCell ⟨w.heap.size + 2, 3, none⟩ (.int .i64 t.cur)).setCell ⟨w.heap.size + 2, 4, none⟩ (.bool t.lk)).setCell ⟨w.heap.size + 2, 5, none⟩ (.bool t.ins)).cell? ⟨w.heap.size, 3, none⟩ = some (.int .i64 s.cur) ∧ ((((((W'.setCell ⟨w.heap.size + 2, 0, none⟩ (.int .i64 t.rows)).setCell ⟨w.heap.size + 2, 1, none⟩ (.int .i64 t.cols)).setCell ⟨w.heap.size + 2, 2, none⟩ (.slice va t.cs.length vc)).setCell ⟨w.heap.size + 2, 3, none⟩ (.int .i64 t.cur)).setCell ⟨w.heap.size + 2, 4, none⟩ (.bool t.lk)).setCell ⟨w.heap.size + 2, 5, none⟩ (.bool t.ins)).cell? ⟨w.heap.size, 4, none⟩ = some (.bool s.lk) ∧ ((((((W'.setCell ⟨w.heap.size + 2, 0, none⟩ (.int .i64 t.rows)).setCell ⟨w.heap.size + 2, 1, none⟩ (.int .i64 t.cols)).setCell ⟨w.heap.size + 2, 2, none⟩ (.slice va t.cs.length vc)).setCell ⟨w.heap.size + 2, 3, none⟩ (.int .i64 t.cur)).setCell ⟨w.heap.size + 2, 4, none⟩ (.bool t.lk)).setCell ⟨w.heap.size + 2, 5, none⟩ (.bool t.ins)).cell? ⟨w.heap.size, 5, none⟩ = some (.bool s.ins)) ∧ ((((((W'.setCell ⟨w.heap.size + 2, 0, none⟩ (.int .i64 t.rows)).setCell ⟨w.heap.size + 2, 1, none⟩ (.int .i64 t.cols)).setCell ⟨w.heap.size + 2, 2, none⟩ (.slice va t.cs.length vc)).setCell ⟨w.heap.size + 2, 3, none⟩ (.int .i64 t.cur)).setCell ⟨w.heap.size + 2, 4, none⟩ (.bool t.lk)).setCell ⟨w.heap.size + 2, 5, none⟩ (.bool t.ins)).cell? ⟨w.heap.size + 1, 0, none⟩ = some (.int .i64 16) ∧ ((((((W'.setCell ⟨w.heap.size + 2, 0, none⟩ (.int .i64 t.rows)).setCell ⟨w.heap.size + 2, 1, none⟩ (.int .i64 t.cols)).setCell ⟨w.heap.size + 2, 2, none⟩ (.slice va t.cs.length vc)).setCell ⟨w.heap.size + 2, 3, none⟩ (.int .i64 t.cur)).setCell ⟨w.heap.size + 2, 4, none⟩ (.bool t.lk)).setCell ⟨w.heap.size + 2, 5, none⟩ (.bool t.ins)).cell? ⟨w.heap.size + 1, 1, none⟩ = some (.int .u8 (c : Int)) from fun W' va vc hW => by
    have SO := over6 W' (w.heap.size + 2) 24 _ _ _ _ _ _ (.int .i64 t.rows) (.int .i64 t.cols) (.slice va t.cs.length vc) (.int .i64 t.cur) (.bool t.lk) (.bool t.ins) (blk HZ.out hW)
    exact ⟨cells6 (blk_g (blk HX.out hW) SO.2 (by intro e; injection e with e; omega)), cells2 (blk_g (blk HY.out hW) SO.2 (by intro e; injection e with e; omega))⟩)
  go_upto_region 9 with (fail)
  simp only [Nat.add_assoc, Nat.reduceAdd]
  refine wp_region_held_drew (S := (fun W' => (W'.cell? ⟨w.heap.size, 0, none⟩ = some (.int .i64 s.rows) ∧ W'.cell? ⟨w.heap.size, 1, none⟩ = some (.int .i64 s.cols) ∧ W'.cell? ⟨w.heap.size, 2, none⟩ = some (.slice ad s.cs.length k) ∧ W'.cell? ⟨w.heap.size, 3, none⟩ = some (.int .i64 s.cur) ∧ W'.cell? ⟨w.heap.size, 4, none⟩ = some (.bool s.lk) ∧ W'.cell? ⟨w.heap.size, 5, none⟩ = some (.bool s.ins)) ∧ W'.cell? ⟨w.heap.size + 1, 0, none⟩ = some (.int .i64 16) ∧ W'.cell? ⟨w.heap.size + 1, 1, none⟩ = some (.int .u8 (c : Int)))) (by kernel_rfl) (HS.out _ ((Below.refl _ _).drew)) (fun hHeld => ?_)
  refine' wpAnyH_take (i := 0) (oi := _) (v := _) ?hi0 (by kernel_rfl) (by kernel_rfl) (by kernel_rfl) ?hq0 ?hy0 (by assumption) ?rest0
  case hi0 => (simp only [List.getElem?_toArray, List.getElem?_cons_zero]; rfl)
  case hy0 =>
    refine Or.inl ⟨by rfl, ?_⟩
    intro w' hSw
    try dsimp only at hSw
    go_simp
    try with_reducible rfl
  case hq0 => exact fun _ _ _ h => h
  simp only [Act.put, List.setIfInBounds_toArray, List.set_cons_zero, List.set_cons_succ]
  refine' wpAnyH_take (i := 1) (oi := _) (v := _) ?hi1 (by kernel_rfl) (by kernel_rfl) (by kernel_rfl) ?hq1 ?hy1 (by assumption) ?rest1
  case hi1 => (simp only [List.getElem?_toArray, List.getElem?_cons_succ, List.getElem?_cons_zero]; rfl)
  case hy1 =>
    refine Or.inl ⟨by rfl, ?_⟩
    intro w' hSw
    try dsimp only at hSw
    go_simp
    try with_reducible rfl
  case hq1 => exact fun _ _ _ h => h
  simp only [Act.put, List.setIfInBounds_toArray, List.set_cons_zero, List.set_cons_succ]
  refine' wpAnyH_take (i := 3) (oi := _) (v := _) ?hi3 (by kernel_rfl) (by kernel_rfl) (by kernel_rfl) ?hq3 ?hy3 (by assumption) ?rest3
  case hi3 => (simp only [List.getElem?_toArray, List.getElem?_cons_succ, List.getElem?_cons_zero]; rfl)
  case hy3 =>
    refine Or.inl ⟨by rfl, ?_⟩
    intro w' hSw
    try dsimp only at hSw
    go_simp
    try with_reducible rfl
  case hq3 => exact fun _ _ _ h => h
  simp only [Act.put, List.setIfInBounds_toArray, List.set_cons_zero, List.set_cons_succ]
  refine' wpAnyH_take (i := 4) (oi := _) (v := _) ?hi4 (by kernel_rfl) (by kernel_rfl) (by kernel_rfl) ?hq4 ?hy4 (by assumption) ?rest4
  case hi4 => (simp only [List.getElem?_toArray, List.getElem?_cons_succ, List.getElem?_cons_zero]; rfl)
  case hy4 =>
    refine Or.inl ⟨by rfl, ?_⟩
    intro w' hSw
    try dsimp only at hSw
    go_simp
    try with_reducible rfl
  case hq4 => exact fun _ _ _ h => h
  simp only [Act.put, List.setIfInBounds_toArray, List.set_cons_zero, List.set_cons_succ]
  refine' wpAnyH_take (i := 5) (oi := _) (v := _) ?hi5 (by kernel_rfl) (by kernel_rfl) (by kernel_rfl) ?hq5 ?hy5 (by assumption) ?rest5
  case hi5 => (simp only [List.getElem?_toArray, List.getElem?_cons_succ, List.getElem?_cons_zero]; rfl)
  case hy5 =>
    refine Or.inl ⟨by rfl, ?_⟩
    intro w' hSw
    try dsimp only at hSw
    go_simp
    try with_reducible rfl
  case hq5 => exact fun _ _ _ h => h
  simp only [Act.put, List.setIfInBounds_toArray, List.set_cons_zero, List.set_cons_succ]
  refine wpAnyH_ready (rs := [2]) (by kernel_rfl) (by simp) (AllReadyH.cons rfl (fun K hK => ?_) AllReadyH.nil)
  go_simp
  go_at_call 21
  with_reducible refine (HTN.out _ (kept_trans HB.out (Below.refl _ _).drew)).mono ?_
  rintro e w3 ⟨va, vc, rfl, ho, hb⟩
  obtain ⟨z0, z1, z2, z3, z4, z5⟩ := cells6 (blk HZ.out (kept_trans (Below.refl w1.heap.size w1).drew hb))
  obtain ⟨f0, f1, f2, f3, f4, f5⟩ := free6 (blk HZ.out (kept_trans (Below.refl w1.heap.size w1).drew hb))
  have hS := HS.out _ (kept_trans (Below.refl w1.heap.size w1).drew hb)
  refine hK.out _ _ hS (fun hHeld => ?_)
  clear hK K hS
  try simp only [Act.put, List.setIfInBounds_toArray, List.set_cons_zero, List.set_cons_succ]
  refine wpAnyH_ready (rs := [6]) (by kernel_rfl) (by simp) (AllReadyH.cons rfl (fun K hK => ?_) AllReadyH.nil)
  go_simp
  have hS := HST.out _ va vc (kept_trans (Below.refl w1.heap.size w1).drew hb)
  refine hK.out _ _ hS (fun hHeld => ?_)
  clear hK K hS
  try simp only [Act.put, List.setIfInBounds_toArray, List.set_cons_zero, List.set_cons_succ]
  refine' wpAnyH_take (i := 7) (oi := _) (v := _) ?hi7 (by kernel_rfl) (by kernel_rfl) (by kernel_rfl) ?hq7 ?hy7 (by assumption) ?rest7
  case hi7 => (simp only [List.getElem?_toArray, List.getElem?_cons_succ, List.getElem?_cons_zero]; rfl)
  case hy7 =>
    refine Or.inl ⟨by rfl, ?_⟩
    intro w' hSw
    try dsimp only at hSw
    go_simp
    try with_reducible rfl
  case hq7 => exact fun _ _ _ h => h
  simp only [Act.put, List.setIfInBounds_toArray, List.set_cons_zero, List.set_cons_succ]
  refine' wpAnyH_take (i := 8) (oi := _) (v := _) ?hi8 (by kernel_rfl) (by kernel_rfl) (by kernel_rfl) ?hq8 ?hy8 (by assumption) ?rest8
  case hi8 => (simp only [List.getElem?_toArray, List.getElem?_cons_succ, List.getElem?_cons_zero]; rfl)
  case hy8 =>
    refine Or.inl ⟨by rfl, ?_⟩
    intro w' hSw
    try dsimp only at hSw
    go_simp
    try with_reducible rfl
  case hq8 => exact fun _ _ _ h => h
  simp only [Act.put, List.setIfInBounds_toArray, List.set_cons_zero, List.set_cons_succ]
  refine wpAnyH_done (by kernel_rfl) ?_ _
  all_goals
    replace hb := kept_trans (Below.refl w1.heap.size w1).drew hb
    have Z3 := Lib.hid (blk HZ.out hb)
    have K3 := kept_hid HB hb
    have O3 := Lib.hid (show OwnCels w3 w1.heap.size (.slice va t.cs.length vc) t.cs from ho)
    have SG := Lib.hid (lay_G (w := w) (w1 := w1) (t := t) Z3.out O3.out.to (show Err.Told w3 .nilIface 0 (-1) from .inl ⟨rfl, rfl, rfl⟩) (fun _ => ⟨rfl, O3.out⟩) K3.out (show w.heap.size ≤ w.heap.size + 2 by omega) HTP.out hzx.out HB.out.size)
    clear hb ho c0 c1 c2 c3 c4 c5 z0 z1 z2 z3 z4 z5 f0 f1 f2 f3 f4 f5 y0 y1
    generalize (((((w3.setCell _ _).setCell _ _).setCell _ _).setCell _ _).setCell _ _).setCell _ _ = w9 at *
    go_wp2_with fail
    exact bodyPost_ret (v := .tuple #[.agg (six va vc t), .bool false, .nilIface]) (results_cell_2 rfl _ _ _ (w.heap.size + 2) _ rfl (run_loadVar_row _ (w.heap.size + 2) 24 24 _ (0, 0) _ (by first | exact SG.out.1 | exact blk SG.out.1 (Below.refl _ _).drew) Tryz.underlying24 rfl (by kernel_rfl)) (.bool false) .nilIface rfl rfl) rfl ⟨va, vc, .nilIface, rfl, SG.out.2.1, SG.out.2.2.1, fun _ => ⟨rfl, (SG.out.2.2.2.1 (by first | rfl | trivial)).2⟩, SG.out.2.2.2.2⟩
set_option maxRecDepth 100000 in
set_option maxHeartbeats 8000000 in
theorem do_15 (s : S) (ad : Option Addr) (k c : Nat) (w : World) (h : CelsIn w (.slice ad s.cs.length k) s.cs) (hr : sright s = true) (h8 : Sound s.cs) (hl : s.cs.length < 10000) (hlk : s.lk = false) :
    Calls Tryz.prog 10 #[.agg #[.int .i64 s.rows, .int .i64 s.cols, .slice ad s.cs.length k, .int .i64 s.cur, .bool s.lk, .bool s.ins], .agg #[.int .i64 15, .int .u8 (c : Int)]] w fun e w' => GaveK w w' (⟨s.rows, s.cols, s.cs, s.cur, false, true⟩) false 0 (-1) e := by
  obtain ⟨r, cc, cs, cur, lk, ins⟩ := s
  simp only at *
  subst hlk
  have HP := Lib.hid (show 0 < cs.length by obtain ⟨_, _, h3, h4, _⟩ := sright_parts hr; simp only at h3 h4; omega)
  have HA3 := heap_alloc3 w (.cells #[.int .i64 r, .int .i64 cc, .slice ad cs.length k, .int .i64 cur, .bool false, .bool ins] 24) (.cells #[.int .i64 15, .int .u8 (c : Int)] 26) (.cells #[.int .i64 0, .int .i64 0, .slice none 0 0, .int .i64 0, .bool false, .bool false] 24)
  have HB := Lib.hid (kept_trans (kept_trans (al_any w (.cells #[.int .i64 r, .int .i64 cc, .slice ad cs.length k, .int .i64 cur, .bool false, .bool ins] 24)) (al_any _ (.cells #[.int .i64 15, .int .u8 (c : Int)] 26))) (al_any _ (.cells #[.int .i64 0, .int .i64 0, .slice none 0 0, .int .i64 0, .bool false, .bool false] 24)))
  have HX := Lib.hid HA3.1
  have HY := Lib.hid HA3.2.1
  have HZ := Lib.hid HA3.2.2
  have HH := Lib.hid h
  have HTN := Lib.hid fun W (hb : Below w.heap.size w W) => turn_15 (⟨r, cc, cs, cur, false, ins⟩ : S) ad k c W (HH.out.below hb) HP.out hl
  have HTP := Lib.hid (show 0 < (⟨r, cc, cs, cur, false, true⟩ : S).cs.length by exact HP.out)
  generalize ht : (⟨r, cc, cs, cur, false, true⟩ : S) = t at *
  replace ht := Lib.hid ht
  simp only [GaveA] at HTN
  clear h hr h8 hl HA3
  go_enter Tryz.func10, Tryz.ntmps10
  go_upto_region 1 with (fail)
  generalize ((w.alloc _).alloc _).alloc _ = w1 at *
  have hzx := Lib.hid (there_lt HZ.out)
  obtain ⟨c0, c1, c2, c3, c4, c5⟩ := cells6 HX.out
  obtain ⟨y0, y1⟩ := cells2 HY.out
  have HS := Lib.hid (show ∀ W', Below w1.heap.size w1 W' → (W'.cell? ⟨w.heap.size, 0, none⟩ = some (.int .i64 r) ∧ W'.cell? ⟨w.heap.size, 1, none⟩ = some (.int .i64 cc) ∧ W'.cell? ⟨w.heap.size, 2, none⟩ = some (.slice ad cs.length k) ∧ W'.cell? ⟨w.heap.size, 3, none⟩ = some (.int .i64 cur) ∧ W'.cell? ⟨w.heap.size, 4, none⟩ = some (.bool false) ∧ W'.cell? ⟨w.heap.size, 5, none⟩ = some (.bool ins)) ∧ W'.cell? ⟨w.heap.size + 1, 0, none⟩ = some (.int .i64 15) ∧ W'.cell? ⟨w.heap.size + 1, 1, none⟩ = some (.int .u8 (c : Int)) from fun W' hW => ⟨cells6 (blk HX.out hW), cells2 (blk HY.out hW)⟩)
  have HST := Lib.hid (show ∀ W' va vc, Below w1.heap.size w1 W' → (((((((W'.setCell ⟨w.heap.size + 2, 0, none⟩ (.int .i64 t.rows)).setCell ⟨w.heap.size + 2, 1, none⟩ (.int .i64 t.cols)).setCell ⟨w.heap.size + 2, 2, none⟩ (.slice va t.cs.length vc)).setCell ⟨w.heap.size + 2, 3, none⟩ (.int .i64 t.cur)).setCell ⟨w.heap.size + 2, 4, none⟩ (.bool t.lk)).setCell ⟨w.heap.size + 2, 5, none⟩ (.bool t.ins)).cell? ⟨w.heap.size, 0, none⟩ = some (.int .i64 r) ∧ ((((((W'.setCell ⟨w.heap.size + 2, 0, none⟩ (.int .i64 t.rows)).setCell ⟨w.heap.size + 2, 1, none⟩ (.int .i64 t.cols)).setCell ⟨w.heap.size + 2, 2, none⟩ (.slice va t.cs.length vc)).setCell ⟨w.heap.size + 2, 3, none⟩ (.int .i64 t.cur)).setCell ⟨w.heap.size + 2, 4, none⟩ (.bool t.lk)).setCell ⟨w.heap.size + 2, 5, none⟩ (.bool t.ins)).cell? ⟨w.heap.size, 1, none⟩ = some (.int .i64 cc) ∧ ((((((W'.setCell ⟨w.heap.size + 2, 0, none⟩ (.int .i64 t.rows)).setCell ⟨w.heap.size + 2, 1, none⟩ (.int .i64 t.cols)).setCell ⟨w.heap.size + 2, 2, none⟩ (.slice va t.cs.length vc)).setCell ⟨w.heap.size + 2, 3, none⟩ (.int .i64 t.cur)).setCell ⟨w.heap.size + 2, 4, none⟩ (.bool t.lk)).setCell ⟨w.heap.size + 2, 5, none⟩ (.bool t.ins)).cell? ⟨w.heap.size, 2, none⟩ = some (.slice ad cs.length k) ∧ ((((((W'.setCell ⟨w.heap.size + 2, 0, none⟩ (.int .i64 t.rows)).setCell ⟨w.heap.size + 2, 1, none⟩ (.int .i64 t.cols)).setCell ⟨w.heap.size + 2, 2, none⟩ (.slice va t.cs.length vc)).setCell ⟨w.heap.size + 2, 3, none⟩ (.int .i64 t.cur)).setCell ⟨w.heap.size + 2, 4, none⟩ (.bool t.lk)).setCell ⟨w.heap.size + 2, 5, none⟩ (.bool t.ins)).cell? ⟨w.heap.size, 3, none⟩ = some (.int .i64 cur) ∧ ((((((W'.setCell ⟨w.heap.size + 2, 0, none⟩ (.int .i64 t.rows)).setCell ⟨w.heap.size + 2, 1, none⟩ (.int .i64 t.cols)).setCell ⟨w.heap.size + 2, 2, none⟩ (.slice va t.cs.length vc)).setCell ⟨w.heap.size + 2, 3, none⟩ (.int .i64 t.cur)).setCell ⟨w.heap.size + 2, 4, none⟩ (.bool t.lk)).setCell ⟨w.heap.size + 2, 5, none⟩ (.bool t.ins)).cell? ⟨w.heap.size, 4, none⟩ = some (.bool false) ∧ ((((((W'.setCell ⟨w.heap.size + 2, 0, none⟩ (.int .i64 t.rows)).setCell ⟨w.heap.size + 2, 1, none⟩ (.int .i64 t.cols)).setCell ⟨w.heap.size + 2, 2, none⟩ (.slice va t.cs.length vc)).setCell ⟨w.heap.size + 2, 3, none⟩ (.int .i64 t.cur)).setCell ⟨w.heap.size + 2, 4, none⟩ (.bool t.lk)).setCell ⟨w.heap.size + 2, 5, none⟩ (.bool t.ins)).cell? ⟨w.heap.size, 5, none⟩ = some (.bool ins)) ∧ ((((((W'.setCell ⟨w.heap.size + 2, 0, none⟩ (.int .i64 t.rows)).setCell ⟨w.heap.size + 2, 1, none⟩ (.int .i64 t.cols)).setCell ⟨w.heap.size + 2, 2, none⟩ (.slice va t.cs.length vc)).setCell ⟨w.heap.size + 2, 3, none⟩ (.int .i64 t.cur)).setCell ⟨w.heap.size + 2, 4, none⟩ (.bool t.lk)).setCell ⟨w.heap.size + 2, 5, none⟩ (.bool t.ins)).cell? ⟨w.heap.size + 1, 0, none⟩ = some (.int .i64 15) ∧ ((((((W'.setCell ⟨w.heap.size + 2, 0, none⟩ (.int .i64 t.rows)).setCell ⟨w.heap.size + 2, 1, none⟩ (.int .i64 t.cols)).setCell ⟨w.heap.size + 2, 2, none⟩ (.slice va t.cs.length vc)).setCell ⟨w.heap.size + 2, 3, none⟩ (.int .i64 t.cur)).setCell ⟨w.heap.size + 2, 4, none⟩ (.bool t.lk)).setCell ⟨w.heap.size + 2, 5, none⟩ (.bool t.ins)).cell? ⟨w.heap.size + 1, 1, none⟩ = some (.int .u8 (c : Int)) from fun W' va vc hW => by
    have SO := over6 W' (w.heap.size + 2) 24 _ _ _ _ _ _ (.int .i64 t.rows) (.int .i64 t.cols) (.slice va t.cs.length vc) (.int .i64 t.cur) (.bool t.lk) (.bool t.ins) (blk HZ.out hW)
    exact ⟨cells6 (blk_g (blk HX.out hW) SO.2 (by intro e; injection e with e; omega)), cells2 (blk_g (blk HY.out hW) SO.2 (by intro e; injection e with e; omega))⟩)
  go_upto_region 9 with (fail)
  simp only [Nat.add_assoc, Nat.reduceAdd]
  refine wp_region_held_drew (S := (fun W' => (W'.cell? ⟨w.heap.size, 0, none⟩ = some (.int .i64 r) ∧ W'.cell? ⟨w.heap.size, 1, none⟩ = some (.int .i64 cc) ∧ W'.cell? ⟨w.heap.size, 2, none⟩ = some (.slice ad cs.length k) ∧ W'.cell? ⟨w.heap.size, 3, none⟩ = some (.int .i64 cur) ∧ W'.cell? ⟨w.heap.size, 4, none⟩ = some (.bool false) ∧ W'.cell? ⟨w.heap.size, 5, none⟩ = some (.bool ins)) ∧ W'.cell? ⟨w.heap.size + 1, 0, none⟩ = some (.int .i64 15) ∧ W'.cell? ⟨w.heap.size + 1, 1, none⟩ = some (.int .u8 (c : Int)))) (by kernel_rfl) (HS.out _ ((Below.refl _ _).drew)) (fun hHeld => ?_)
  refine' wpAnyH_take (i := 0) (oi := _) (v := _) ?hi0 (by kernel_rfl) (by kernel_rfl) (by kernel_rfl) ?hq0 ?hy0 (by assumption) ?rest0
  case hi0 => (simp only [List.getElem?_toArray, List.getElem?_cons_zero]; rfl)
  case hy0 =>
    refine Or.inl ⟨by rfl, ?_⟩
    intro w' hSw
    try dsimp only at hSw
    go_simp
    try with_reducible rfl
  case hq0 => exact fun _ _ _ h => h
  simp only [Act.put, List.setIfInBounds_toArray, List.set_cons_zero, List.set_cons_succ]
  refine' wpAnyH_take (i := 1) (oi := _) (v := _) ?hi1 (by kernel_rfl) (by kernel_rfl) (by kernel_rfl) ?hq1 ?hy1 (by assumption) ?rest1
  case hi1 => (simp only [List.getElem?_toArray, List.getElem?_cons_succ, List.getElem?_cons_zero]; rfl)
  case hy1 =>
    refine Or.inl ⟨by rfl, ?_⟩
    intro w' hSw
    try dsimp only at hSw
    go_simp
    try with_reducible rfl
  case hq1 => exact fun _ _ _ h => h
  simp only [Act.put, List.setIfInBounds_toArray, List.set_cons_zero, List.set_cons_succ]
  refine' wpAnyH_take (i := 3) (oi := _) (v := _) ?hi3 (by kernel_rfl) (by kernel_rfl) (by kernel_rfl) ?hq3 ?hy3 (by assumption) ?rest3
  case hi3 => (simp only [List.getElem?_toArray, List.getElem?_cons_succ, List.getElem?_cons_zero]; rfl)
  case hy3 =>
    refine Or.inl ⟨by rfl, ?_⟩
    intro w' hSw
    try dsimp only at hSw
    go_simp
    try with_reducible rfl
  case hq3 => exact fun _ _ _ h => h
  simp only [Act.put, List.setIfInBounds_toArray, List.set_cons_zero, List.set_cons_succ]
  refine' wpAnyH_take (i := 4) (oi := _) (v := _) ?hi4 (by kernel_rfl) (by kernel_rfl) (by kernel_rfl) ?hq4 ?hy4 (by assumption) ?rest4
  case hi4 => (simp only [List.getElem?_toArray, List.getElem?_cons_succ, List.getElem?_cons_zero]; rfl)
  case hy4 =>
    refine Or.inl ⟨by rfl, ?_⟩
    intro w' hSw
    try dsimp only at hSw
    go_simp
    try with_reducible rfl
  case hq4 => exact fun _ _ _ h => h
  simp only [Act.put, List.setIfInBounds_toArray, List.set_cons_zero, List.set_cons_succ]
  refine' wpAnyH_take (i := 5) (oi := _) (v := _) ?hi5 (by kernel_rfl) (by kernel_rfl) (by kernel_rfl) ?hq5 ?hy5 (by assumption) ?rest5
  case hi5 => (simp only [List.getElem?_toArray, List.getElem?_cons_succ, List.getElem?_cons_zero]; rfl)
  case hy5 =>
    refine Or.inl ⟨by rfl, ?_⟩
    intro w' hSw
    try dsimp only at hSw
    go_simp
    try with_reducible rfl
  case hq5 => exact fun _ _ _ h => h
  simp only [Act.put, List.setIfInBounds_toArray, List.set_cons_zero, List.set_cons_succ]
  refine wpAnyH_ready (rs := [2]) (by kernel_rfl) (by simp) (AllReadyH.cons rfl (fun K hK => ?_) AllReadyH.nil)
  go_simp
  go_at_call 21
  with_reducible refine (HTN.out _ (kept_trans HB.out (Below.refl _ _).drew)).mono ?_
  rintro e w3 ⟨va, vc, rfl, ho, hb⟩
  obtain ⟨z0, z1, z2, z3, z4, z5⟩ := cells6 (blk HZ.out (kept_trans (Below.refl w1.heap.size w1).drew hb))
  obtain ⟨f0, f1, f2, f3, f4, f5⟩ := free6 (blk HZ.out (kept_trans (Below.refl w1.heap.size w1).drew hb))
  have hS := HS.out _ (kept_trans (Below.refl w1.heap.size w1).drew hb)
  refine hK.out _ _ hS (fun hHeld => ?_)
  clear hK K hS
  try simp only [Act.put, List.setIfInBounds_toArray, List.set_cons_zero, List.set_cons_succ]
  refine wpAnyH_ready (rs := [6]) (by kernel_rfl) (by simp) (AllReadyH.cons rfl (fun K hK => ?_) AllReadyH.nil)
  go_simp
  have hS := HST.out _ va vc (kept_trans (Below.refl w1.heap.size w1).drew hb)
  refine hK.out _ _ hS (fun hHeld => ?_)
  clear hK K hS
  try simp only [Act.put, List.setIfInBounds_toArray, List.set_cons_zero, List.set_cons_succ]
  refine' wpAnyH_take (i := 7) (oi := _) (v := _) ?hi7 (by kernel_rfl) (by kernel_rfl) (by kernel_rfl) ?hq7 ?hy7 (by assumption) ?rest7
  case hi7 => (simp only [List.getElem?_toArray, List.getElem?_cons_succ, List.getElem?_cons_zero]; rfl)
  case hy7 =>
    refine Or.inl ⟨by rfl, ?_⟩
    intro w' hSw
    try dsimp only at hSw
    go_simp
    try with_reducible rfl
  case hq7 => exact fun _ _ _ h => h
  simp only [Act.put, List.setIfInBounds_toArray, List.set_cons_zero, List.set_cons_succ]
  refine' wpAnyH_take (i := 8) (oi := _) (v := _) ?hi8 (by kernel_rfl) (by kernel_rfl) (by kernel_rfl) ?hq8 ?hy8 (by assumption) ?rest8
  case hi8 => (simp only [List.getElem?_toArray, List.getElem?_cons_succ, List.getElem?_cons_zero]; rfl)
  case hy8 =>
    refine Or.inl ⟨by rfl, ?_⟩
    intro w' hSw
    try dsimp only at hSw
    go_simp
    try with_reducible rfl
  case hq8 => exact fun _ _ _ h => h
  simp only [Act.put, List.setIfInBounds_toArray, List.set_cons_zero, List.set_cons_succ]
  refine wpAnyH_done (by kernel_rfl) ?_ _
  all_goals
    replace hb := kept_trans (Below.refl w1.heap.size w1).drew hb
    have Z3 := Lib.hid (blk HZ.out hb)
    have K3 := kept_hid HB hb
    have O3 := Lib.hid (show OwnCels w3 w1.heap.size (.slice va t.cs.length vc) t.cs from ho)
    have SG := Lib.hid (lay_G (w := w) (w1 := w1) (t := t) Z3.out O3.out.to (show Err.Told w3 .nilIface 0 (-1) from .inl ⟨rfl, rfl, rfl⟩) (fun _ => ⟨rfl, O3.out⟩) K3.out (show w.heap.size ≤ w.heap.size + 2 by omega) HTP.out hzx.out HB.out.size)
    clear hb ho c0 c1 c2 c3 c4 c5 z0 z1 z2 z3 z4 z5 f0 f1 f2 f3 f4 f5 y0 y1
    generalize (((((w3.setCell _ _).setCell _ _).setCell _ _).setCell _ _).setCell _ _).setCell _ _ = w9 at *
    go_wp2_with fail
    exact bodyPost_ret (v := .tuple #[.agg (six va vc t), .bool false, .nilIface]) (results_cell_2 rfl _ _ _ (w.heap.size + 2) _ rfl (run_loadVar_row _ (w.heap.size + 2) 24 24 _ (0, 0) _ (by first | exact SG.out.1 | exact blk SG.out.1 (Below.refl _ _).drew) Tryz.underlying24 rfl (by kernel_rfl)) (.bool false) .nilIface rfl rfl) rfl ⟨va, vc, .nilIface, rfl, SG.out.2.1, SG.out.2.2.1, fun _ => ⟨rfl, (SG.out.2.2.2.1 (by first | rfl | trivial)).2⟩, SG.out.2.2.2.2⟩
set_option maxRecDepth 100000 in
set_option maxHeartbeats 8000000 in
theorem do_17 (s : S) (ad : Option Addr) (k c : Nat) (w : World) (h : CelsIn w (.slice ad s.cs.length k) s.cs) (hr : sright s = true) (h8 : Sound s.cs) (hl : s.cs.length < 10000) (hc8 : c < 256) (ha : Att.aid c = true) (hlk : s.lk = false) :
    Calls Tryz.prog 10 #[.agg #[.int .i64 s.rows, .int .i64 s.cols, .slice ad s.cs.length k, .int .i64 s.cur, .bool s.lk, .bool s.ins], .agg #[.int .i64 17, .int .u8 (c : Int)]] w fun e w' => GaveK w w' (asked s c) true 0 (-1) e := by
  obtain ⟨r, cc, cs, cur, lk, ins⟩ := s
  simp only at *
  subst hlk
  have HP := Lib.hid (show 0 < cs.length by obtain ⟨_, _, h3, h4, _⟩ := sright_parts hr; simp only at h3 h4; omega)
  have HA3 := heap_alloc3 w (.cells #[.int .i64 r, .int .i64 cc, .slice ad cs.length k, .int .i64 cur, .bool false, .bool ins] 24) (.cells #[.int .i64 17, .int .u8 (c : Int)] 26) (.cells #[.int .i64 0, .int .i64 0, .slice none 0 0, .int .i64 0, .bool false, .bool false] 24)
  have HB := Lib.hid (kept_trans (kept_trans (al_any w (.cells #[.int .i64 r, .int .i64 cc, .slice ad cs.length k, .int .i64 cur, .bool false, .bool ins] 24)) (al_any _ (.cells #[.int .i64 17, .int .u8 (c : Int)] 26))) (al_any _ (.cells #[.int .i64 0, .int .i64 0, .slice none 0 0, .int .i64 0, .bool false, .bool false] 24)))
  have HX := Lib.hid HA3.1
  have HY := Lib.hid HA3.2.1
  have HZ := Lib.hid HA3.2.2
  have HH := Lib.hid h
  have HAI := Lib.hid fun W => Att.aid_any c W hc8
  rw [show Att.aid c = true from ha] at HAI
  have HTN := Lib.hid fun W (hb : Below w.heap.size w W) => turn_17 (⟨r, cc, cs, cur, false, ins⟩ : S) ad k c W (HH.out.below hb) HP.out hl
  have HTP := Lib.hid (show 0 < (asked (⟨r, cc, cs, cur, false, ins⟩ : S) c : S).cs.length by rw [asked_length]; exact HP.out)
  generalize ht : (asked (⟨r, cc, cs, cur, false, ins⟩ : S) c : S) = t at *
  replace ht := Lib.hid ht
  simp only [GaveA] at HTN
  clear h hr h8 hl HA3
  go_enter Tryz.func10, Tryz.ntmps10
  go_upto_region 1 with (fail)
  generalize ((w.alloc _).alloc _).alloc _ = w1 at *
  have hzx := Lib.hid (there_lt HZ.out)
  obtain ⟨c0, c1, c2, c3, c4, c5⟩ := cells6 HX.out
  obtain ⟨y0, y1⟩ := cells2 HY.out
  go_wp2_with fail
  with_reducible refine (HAI.out _).mono ?_
  rintro e w2 ⟨rfl, rfl⟩
  have HS := Lib.hid (show ∀ W', Below w1.heap.size w1 W' → (W'.cell? ⟨w.heap.size, 0, none⟩ = some (.int .i64 r) ∧ W'.cell? ⟨w.heap.size, 1, none⟩ = some (.int .i64 cc) ∧ W'.cell? ⟨w.heap.size, 2, none⟩ = some (.slice ad cs.length k) ∧ W'.cell? ⟨w.heap.size, 3, none⟩ = some (.int .i64 cur) ∧ W'.cell? ⟨w.heap.size, 4, none⟩ = some (.bool false) ∧ W'.cell? ⟨w.heap.size, 5, none⟩ = some (.bool ins)) ∧ W'.cell? ⟨w.heap.size + 1, 0, none⟩ = some (.int .i64 17) ∧ W'.cell? ⟨w.heap.size + 1, 1, none⟩ = some (.int .u8 (c : Int)) from fun W' hW => ⟨cells6 (blk HX.out hW), cells2 (blk HY.out hW)⟩)
  have HST := Lib.hid (show ∀ W' va vc, Below w1.heap.size w1 W' → (((((((W'.setCell ⟨w.heap.size + 2, 0, none⟩ (.int .i64 t.rows)).setCell ⟨w.heap.size + 2, 1, none⟩ (.int .i64 t.cols)).setCell ⟨w.heap.size + 2, 2, none⟩ (.slice va t.cs.length vc)).setCell ⟨w.heap.size + 2, 3, none⟩ (.int .i64 t.cur)).setCell ⟨w.heap.size + 2, 4, none⟩ (.bool t.lk)).setCell ⟨w.heap.size + 2, 5, none⟩ (.bool t.ins)).cell? ⟨w.heap.size, 0, none⟩ = some (.int .i64 r) ∧ ((((((W'.setCell ⟨w.heap.size + 2, 0, none⟩ (.int .i64 t.rows)).setCell ⟨w.heap.size + 2, 1, none⟩ (.int .i64 t.cols)).setCell ⟨w.heap.size + 2, 2, none⟩ (.slice va t.cs.length vc)).setCell ⟨w.heap.size + 2, 3, none⟩ (.int .i64 t.cur)).setCell ⟨w.heap.size + 2, 4, none⟩ (.bool t.lk)).setCell ⟨w.heap.size + 2, 5, none⟩ (.bool t.ins)).cell? ⟨w.heap.size, 1, none⟩ = some (.int .i64 cc) ∧ ((((((W'.setCell ⟨w.heap.size + 2, 0, none⟩ (.int .i64 t.rows)).setCell ⟨w.heap.size + 2, 1, none⟩ (.int .i64 t.cols)).setCell ⟨w.heap.size + 2, 2, none⟩ (.slice va t.cs.length vc)).setCell ⟨w.heap.size + 2, 3, none⟩ (.int .i64 t.cur)).setCell ⟨w.heap.size + 2, 4, none⟩ (.bool t.lk)).setCell ⟨w.heap.size + 2, 5, none⟩ (.bool t.ins)).cell? ⟨w.heap.size, 2, none⟩ = some (.slice ad cs.length k) ∧ ((((((W'.setCell ⟨w.heap.size + 2, 0, none⟩ (.int .i64 t.rows)).setCell ⟨w.heap.size + 2, 1, none⟩ (.int .i64 t.cols)).setCell ⟨w.heap.size + 2, 2, none⟩ (.slice va t.cs.length vc)).setCell ⟨w.heap.size + 2, 3, none⟩ (.int .i64 t.cur)).setCell ⟨w.heap.size + 2, 4, none⟩ (.bool t.lk)).setCell ⟨w.heap.size + 2, 5, none⟩ (.bool t.ins)).cell? ⟨w.heap.size, 3, none⟩ = some (.int .i64 cur) ∧ ((((((W'.setCell ⟨w.heap.size + 2, 0, none⟩ (.int .i64 t.rows)).setCell ⟨w.heap.size + 2, 1, none⟩ (.int .i64 t.cols)).setCell ⟨w.heap.size + 2, 2, none⟩ (.slice va t.cs.length vc)).setCell ⟨w.heap.size + 2, 3, none⟩ (.int .i64 t.cur)).setCell ⟨w.heap.size + 2, 4, none⟩ (.bool t.lk)).setCell ⟨w.heap.size + 2, 5, none⟩ (.bool t.ins)).cell? ⟨w.heap.size, 4, none⟩ = some (.bool false) ∧ ((((((W'.setCell ⟨w.heap.size + 2, 0, none⟩ (.int .i64 t.rows)).setCell ⟨w.heap.size + 2, 1, none⟩ (.int .i64 t.cols)).setCell ⟨w.heap.size + 2, 2, none⟩ (.slice va t.cs.length vc)).setCell ⟨w.heap.size + 2, 3, none⟩ (.int .i64 t.cur)).setCell ⟨w.heap.size + 2, 4, none⟩ (.bool t.lk)).setCell ⟨w.heap.size + 2, 5, none⟩ (.bool t.ins)).cell? ⟨w.heap.size, 5, none⟩ = some (.bool ins)) ∧ ((((((W'.setCell ⟨w.heap.size + 2, 0, none⟩ (.int .i64 t.rows)).setCell ⟨w.heap.size + 2, 1, none⟩ (.int .i64 t.cols)).setCell ⟨w.heap.size + 2, 2, none⟩ (.slice va t.cs.length vc)).setCell ⟨w.heap.size + 2, 3, none⟩ (.int .i64 t.cur)).setCell ⟨w.heap.size + 2, 4, none⟩ (.bool t.lk)).setCell ⟨w.heap.size + 2, 5, none⟩ (.bool t.ins)).cell? ⟨w.heap.size + 1, 0, none⟩ = some (.int .i64 17) ∧ ((((((W'.setCell ⟨w.heap.size + 2, 0, none⟩ (.int .i64 t.rows)).setCell ⟨w.heap.size + 2, 1, none⟩ (.int .i64 t.cols)).setCell ⟨w.heap.size + 2, 2, none⟩ (.slice va t.cs.length vc)).setCell ⟨w.heap.size + 2, 3, none⟩ (.int .i64 t.cur)).setCell ⟨w.heap.size + 2, 4, none⟩ (.bool t.lk)).setCell ⟨w.heap.size + 2, 5, none⟩ (.bool t.ins)).cell? ⟨w.heap.size + 1, 1, none⟩ = some (.int .u8 (c : Int)) from fun W' va vc hW => by
    have SO := over6 W' (w.heap.size + 2) 24 _ _ _ _ _ _ (.int .i64 t.rows) (.int .i64 t.cols) (.slice va t.cs.length vc) (.int .i64 t.cur) (.bool t.lk) (.bool t.ins) (blk HZ.out hW)
    exact ⟨cells6 (blk_g (blk HX.out hW) SO.2 (by intro e; injection e with e; omega)), cells2 (blk_g (blk HY.out hW) SO.2 (by intro e; injection e with e; omega))⟩)
  go_upto_region 9 with (fail)
  simp only [Nat.add_assoc, Nat.reduceAdd]
  refine wp_region_held_drew (S := (fun W' => (W'.cell? ⟨w.heap.size, 0, none⟩ = some (.int .i64 r) ∧ W'.cell? ⟨w.heap.size, 1, none⟩ = some (.int .i64 cc) ∧ W'.cell? ⟨w.heap.size, 2, none⟩ = some (.slice ad cs.length k) ∧ W'.cell? ⟨w.heap.size, 3, none⟩ = some (.int .i64 cur) ∧ W'.cell? ⟨w.heap.size, 4, none⟩ = some (.bool false) ∧ W'.cell? ⟨w.heap.size, 5, none⟩ = some (.bool ins)) ∧ W'.cell? ⟨w.heap.size + 1, 0, none⟩ = some (.int .i64 17) ∧ W'.cell? ⟨w.heap.size + 1, 1, none⟩ = some (.int .u8 (c : Int)))) (by kernel_rfl) (HS.out _ ((Below.refl _ _).drew)) (fun hHeld => ?_)
  refine' wpAnyH_take (i := 0) (oi := _) (v := _) ?hi0 (by kernel_rfl) (by kernel_rfl) (by kernel_rfl) ?hq0 ?hy0 (by assumption) ?rest0
  case hi0 => (simp only [List.getElem?_toArray, List.getElem?_cons_zero]; rfl)
  case hy0 =>
    refine Or.inl ⟨by rfl, ?_⟩
    intro w' hSw
    try dsimp only at hSw
    go_simp
    try with_reducible rfl
  case hq0 => exact fun _ _ _ h => h
  simp only [Act.put, List.setIfInBounds_toArray, List.set_cons_zero, List.set_cons_succ]
  refine' wpAnyH_take (i := 1) (oi := _) (v := _) ?hi1 (by kernel_rfl) (by kernel_rfl) (by kernel_rfl) ?hq1 ?hy1 (by assumption) ?rest1
  case hi1 => (simp only [List.getElem?_toArray, List.getElem?_cons_succ, List.getElem?_cons_zero]; rfl)
  case hy1 =>
    refine Or.inl ⟨by rfl, ?_⟩
    intro w' hSw
    try dsimp only at hSw
    go_simp
    try with_reducible rfl
  case hq1 => exact fun _ _ _ h => h
  simp only [Act.put, List.setIfInBounds_toArray, List.set_cons_zero, List.set_cons_succ]
  refine' wpAnyH_take (i := 3) (oi := _) (v := _) ?hi3 (by kernel_rfl) (by kernel_rfl) (by kernel_rfl) ?hq3 ?hy3 (by assumption) ?rest3
  case hi3 => (simp only [List.getElem?_toArray, List.getElem?_cons_succ, List.getElem?_cons_zero]; rfl)
  case hy3 =>
    refine Or.inl ⟨by rfl, ?_⟩
    intro w' hSw
    try dsimp only at hSw
    go_simp
    try with_reducible rfl
  case hq3 => exact fun _ _ _ h => h
  simp only [Act.put, List.setIfInBounds_toArray, List.set_cons_zero, List.set_cons_succ]
  refine' wpAnyH_take (i := 4) (oi := _) (v := _) ?hi4 (by kernel_rfl) (by kernel_rfl) (by kernel_rfl) ?hq4 ?hy4 (by assumption) ?rest4
  case hi4 => (simp only [List.getElem?_toArray, List.getElem?_cons_succ, List.getElem?_cons_zero]; rfl)
  case hy4 =>
    refine Or.inl ⟨by rfl, ?_⟩
    intro w' hSw
    try dsimp only at hSw
    go_simp
    try with_reducible rfl
  case hq4 => exact fun _ _ _ h => h
  simp only [Act.put, List.setIfInBounds_toArray, List.set_cons_zero, List.set_cons_succ]
  refine' wpAnyH_take (i := 5) (oi := _) (v := _) ?hi5 (by kernel_rfl) (by kernel_rfl) (by kernel_rfl) ?hq5 ?hy5 (by assumption) ?rest5
  case hi5 => (simp only [List.getElem?_toArray, List.getElem?_cons_succ, List.getElem?_cons_zero]; rfl)
  case hy5 =>
    refine Or.inl ⟨by rfl, ?_⟩
    intro w' hSw
    try dsimp only at hSw
    go_simp
    try with_reducible rfl
  case hq5 => exact fun _ _ _ h => h
  simp only [Act.put, List.setIfInBounds_toArray, List.set_cons_zero, List.set_cons_succ]
  refine wpAnyH_ready (rs := [2]) (by kernel_rfl) (by simp) (AllReadyH.cons rfl (fun K hK => ?_) AllReadyH.nil)
  go_simp
  go_at_call 21
  with_reducible refine (HTN.out _ (kept_trans HB.out (Below.refl _ _).drew)).mono ?_
  rintro e w3 ⟨va, vc, rfl, ho, hb⟩
  obtain ⟨z0, z1, z2, z3, z4, z5⟩ := cells6 (blk HZ.out (kept_trans (Below.refl w1.heap.size w1).drew hb))
  obtain ⟨f0, f1, f2, f3, f4, f5⟩ := free6 (blk HZ.out (kept_trans (Below.refl w1.heap.size w1).drew hb))
  have hS := HS.out _ (kept_trans (Below.refl w1.heap.size w1).drew hb)
  refine hK.out _ _ hS (fun hHeld => ?_)
  clear hK K hS
  try simp only [Act.put, List.setIfInBounds_toArray, List.set_cons_zero, List.set_cons_succ]
  refine wpAnyH_ready (rs := [6]) (by kernel_rfl) (by simp) (AllReadyH.cons rfl (fun K hK => ?_) AllReadyH.nil)
  go_simp
  have hS := HST.out _ va vc (kept_trans (Below.refl w1.heap.size w1).drew hb)
  refine hK.out _ _ hS (fun hHeld => ?_)
  clear hK K hS
  try simp only [Act.put, List.setIfInBounds_toArray, List.set_cons_zero, List.set_cons_succ]
  refine' wpAnyH_take (i := 7) (oi := _) (v := _) ?hi7 (by kernel_rfl) (by kernel_rfl) (by kernel_rfl) ?hq7 ?hy7 (by assumption) ?rest7
  case hi7 => (simp only [List.getElem?_toArray, List.getElem?_cons_succ, List.getElem?_cons_zero]; rfl)
  case hy7 =>
    refine Or.inl ⟨by rfl, ?_⟩
    intro w' hSw
    try dsimp only at hSw
    go_simp
    try with_reducible rfl
  case hq7 => exact fun _ _ _ h => h
  simp only [Act.put, List.setIfInBounds_toArray, List.set_cons_zero, List.set_cons_succ]
  refine' wpAnyH_take (i := 8) (oi := _) (v := _) ?hi8 (by kernel_rfl) (by kernel_rfl) (by kernel_rfl) ?hq8 ?hy8 (by assumption) ?rest8
  case hi8 => (simp only [List.getElem?_toArray, List.getElem?_cons_succ, List.getElem?_cons_zero]; rfl)
  case hy8 =>
    refine Or.inl ⟨by rfl, ?_⟩
    intro w' hSw
    try dsimp only at hSw
    go_simp
    try with_reducible rfl
  case hq8 => exact fun _ _ _ h => h
  simp only [Act.put, List.setIfInBounds_toArray, List.set_cons_zero, List.set_cons_succ]
  refine wpAnyH_done (by kernel_rfl) ?_ _
  all_goals
    replace hb := kept_trans (Below.refl w1.heap.size w1).drew hb
    have Z3 := Lib.hid (blk HZ.out hb)
    have K3 := kept_hid HB hb
    have O3 := Lib.hid (show OwnCels w3 w1.heap.size (.slice va t.cs.length vc) t.cs from ho)
    have SG := Lib.hid (lay_G (w := w) (w1 := w1) (t := t) Z3.out O3.out.to (show Err.Told w3 .nilIface 0 (-1) from .inl ⟨rfl, rfl, rfl⟩) (fun _ => ⟨rfl, O3.out⟩) K3.out (show w.heap.size ≤ w.heap.size + 2 by omega) HTP.out hzx.out HB.out.size)
    clear hb ho c0 c1 c2 c3 c4 c5 z0 z1 z2 z3 z4 z5 f0 f1 f2 f3 f4 f5 y0 y1
    generalize (((((w3.setCell _ _).setCell _ _).setCell _ _).setCell _ _).setCell _ _).setCell _ _ = w9 at *
    go_wp2_with fail
    exact bodyPost_ret (v := .tuple #[.agg (six va vc t), .bool true, .nilIface]) (results_cell_2 rfl _ _ _ (w.heap.size + 2) _ rfl (run_loadVar_row _ (w.heap.size + 2) 24 24 _ (0, 0) _ (by first | exact SG.out.1 | exact blk SG.out.1 (Below.refl _ _).drew) Tryz.underlying24 rfl (by kernel_rfl)) (.bool true) .nilIface rfl rfl) rfl ⟨va, vc, .nilIface, rfl, SG.out.2.1, SG.out.2.2.1, fun _ => ⟨rfl, (SG.out.2.2.2.1 (by first | rfl | trivial)).2⟩, SG.out.2.2.2.2⟩
set_option maxRecDepth 100000 in
set_option maxHeartbeats 8000000 in
theorem do_wk (s : S) (ad : Option Addr) (k c : Nat) (kind : Int) (w : World) (h : CelsIn w (.slice ad s.cs.length k) s.cs) (hr : sright s = true) (h8 : Sound s.cs) (hl : s.cs.length < 10000) (hc8 : c < 256) (h5 : kind ≠ 15) (h6 : kind ≠ 16) (h7 : kind ≠ 17) :
    Calls Tryz.prog 10 #[.agg #[.int .i64 s.rows, .int .i64 s.cols, .slice ad s.cs.length k, .int .i64 s.cur, .bool s.lk, .bool s.ins], .agg #[.int .i64 kind, .int .u8 (c : Int)]] w fun e w' => GaveK w w' (kdo s kind c).1 false ((kdo s kind c).2.2.1 : Nat) (kdo s kind c).2.2.2 e := by
  have HP := Lib.hid (show 0 < s.cs.length by obtain ⟨_, _, h3, h4, _⟩ := sright_parts hr; omega)
  have HA3 := heap_alloc3 w (.cells #[.int .i64 s.rows, .int .i64 s.cols, .slice ad s.cs.length k, .int .i64 s.cur, .bool s.lk, .bool s.ins] 24) (.cells #[.int .i64 kind, .int .u8 (c : Int)] 26) (.cells #[.int .i64 0, .int .i64 0, .slice none 0 0, .int .i64 0, .bool false, .bool false] 24)
  have HB := Lib.hid (kept_trans (kept_trans (al_any w (.cells #[.int .i64 s.rows, .int .i64 s.cols, .slice ad s.cs.length k, .int .i64 s.cur, .bool s.lk, .bool s.ins] 24)) (al_any _ (.cells #[.int .i64 kind, .int .u8 (c : Int)] 26))) (al_any _ (.cells #[.int .i64 0, .int .i64 0, .slice none 0 0, .int .i64 0, .bool false, .bool false] 24)))
  have HX := Lib.hid HA3.1
  have HY := Lib.hid HA3.2.1
  have HZ := Lib.hid HA3.2.2
  have HH := Lib.hid h
  have e17 : (kind == 17) = false := by simpa using h7
  have e15 : (kind == 15) = false := by simpa using h5
  have e16 : (kind == 16) = false := by simpa using h6
  have HTP := Lib.hid (show 0 < (kdo s kind c).1.cs.length by rw [(kdo_length s kind c).1]; exact HP.out)
  have Q := Lib.hid fun W (hb : Below w.heap.size w W) => work_any s ad k c kind W (HH.out.below hb) hr h8 hl hc8 h5 h6 h7
  simp only [GaveE] at Q
  generalize (kdo s kind c).2.2.2 = wh at *
  generalize (kdo s kind c).2.2.1 = code at *
  generalize (kdo s kind c).1 = t at *
  clear h5 h6 h7
  clear h hr h8 hl HA3
  go_enter Tryz.func10, Tryz.ntmps10
  go_upto_region 1 with (fail)
  generalize ((w.alloc _).alloc _).alloc _ = w1 at *
  have hzx := Lib.hid (there_lt HZ.out)
  obtain ⟨c0, c1, c2, c3, c4, c5⟩ := cells6 HX.out
  obtain ⟨y0, y1⟩ := cells2 HY.out
  have hxx := Lib.hid (there_lt HX.out)
  go_wp2_with fail
  with_reducible refine (Q.out _ HB.out).mono ?_
  rintro e w2 ⟨va, vc, ev, rfl, hc, ht, hn, hb⟩
  clear c0 c1 c2 c3 c4 c5 y0 y1 Q
  have X2 := Lib.hid (blk HX.out hb)
  have SG := lay_G (w := w) (w1 := w1) (t := t) X2.out hc ht hn (kept_trans HB.out hb) (Nat.le_refl _) HTP.out hxx.out HB.out.size
  have SO := over6 w2 w.heap.size 24 _ _ _ _ _ _ (.int .i64 t.rows) (.int .i64 t.cols) (.slice va t.cs.length vc) (.int .i64 t.cur) (.bool t.lk) (.bool t.ins) X2.out
  have Z3 := Lib.hid (blk_g (blk HZ.out hb) SO.2 (by intro e; injection e with e; omega))
  have X3 := Lib.hid SG.1
  have C3 := Lib.hid SG.2.1
  have T3 := Lib.hid SG.2.2.1
  have HN3 := Lib.hid SG.2.2.2.1
  have HV := Lib.hid (show ∀ h : (code : Int) = 0, ∀ g, (Value.slice va t.cs.length vc).ownBlock = some g → g ≠ w.heap.size + 2 from fun h g e => by have := own_ge (hn h).2 _ e; have := hzx.out; omega)
  have K3 := Lib.hid SG.2.2.2.2
  clear SO SG hc ht hn hb
  obtain ⟨c0, c1, c2, c3, c4, c5⟩ := cells6 X2.out
  obtain ⟨f0, f1, f2, f3, f4, f5⟩ := free6 X2.out
  go_upto_region 11 with (fail)
  clear c0 c1 c2 c3 c4 c5 f0 f1 f2 f3 f4 f5 X2 HX HZ HY
  generalize (((((w2.setCell _ _).setCell _ _).setCell _ _).setCell _ _).setCell _ _).setCell _ _ = w3 at *
  have SG := Lib.hid (lay_E (w := w) (t := t) Z3.out C3.out T3.out K3.out (show w.heap.size ≤ w.heap.size + 2 by omega) HTP.out)
  have SO := over6 w3 (w.heap.size + 2) 24 _ _ _ _ _ _ (.int .i64 t.rows) (.int .i64 t.cols) (.slice va t.cs.length vc) (.int .i64 t.cur) (.bool t.lk) (.bool t.ins) Z3.out
  have HO9 := Lib.hid (fun h => (HN3.out h).2.away SO.2 (by intro e; exact HV.out h _ e rfl))
  clear SO
  obtain ⟨c0, c1, c2, c3, c4, c5⟩ := cells6 X3.out
  obtain ⟨f0, f1, f2, f3, f4, f5⟩ := free6 Z3.out
  obtain ⟨z0, z1, z2, z3, z4, z5⟩ := cells6 Z3.out
  go_wp2_with fail
  clear z0 z1 z2 z3 z4 z5 f0 f1 f2 f3 f4 f5 c0 c1 c2 c3 c4 c5
  generalize (((((w3.setCell _ _).setCell _ _).setCell _ _).setCell _ _).setCell _ _).setCell _ _ = w9 at *
  exact bodyPost_ret (v := .tuple #[.agg (six va vc t), .bool false, ev]) (results_cell_2 rfl _ _ _ (w.heap.size + 2) _ rfl (run_loadVar_row w9 (w.heap.size + 2) 24 24 _ (0, 0) _ SG.out.1 Tryz.underlying24 rfl (by kernel_rfl)) (.bool false) ev rfl rfl) rfl ⟨va, vc, ev, rfl, SG.out.2.1, SG.out.2.2.1, fun h => ⟨(HN3.out h).1, HO9.out h⟩, SG.out.2.2.2⟩
theorem do_any (s : S) (ad : Option Addr) (k c : Nat) (kind : Int) (w : World) (h : CelsIn w (.slice ad s.cs.length k) s.cs) (hr : sright s = true) (h8 : Sound s.cs) (hl : s.cs.length < 10000) (hc : c < 256) :
    Calls Tryz.prog 10 #[.agg #[.int .i64 s.rows, .int .i64 s.cols, .slice ad s.cs.length k, .int .i64 s.cur, .bool s.lk, .bool s.ins], .agg #[.int .i64 kind, .int .u8 (c : Int)]] w fun e w' => GaveK w w' (kdo s kind c).1 (kdo s kind c).2.1 ((kdo s kind c).2.2.1 : Nat) (kdo s kind c).2.2.2 e := by
  by_cases h7 : kind = 17
  · subst h7
    rw [kdo_17]
    by_cases ha : Att.aid c = false
    · rw [if_pos ha]; exact do_17a s ad k c w h hr h8 hl hc ha
    · rw [if_neg ha]
      have ha : Att.aid c = true := by simpa using ha
      by_cases hk : s.lk = true
      · rw [if_pos hk]; exact do_17l s ad k c w h hr h8 hl hc ha hk
      · rw [if_neg hk]; exact do_17 s ad k c w h hr h8 hl hc ha (by simpa using hk)
  by_cases h5 : kind = 15
  · subst h5
    rw [kdo_15]
    by_cases hk : s.lk = true
    · rw [if_pos hk]; exact do_15l s ad k c w h hr h8 hl hk
    · rw [if_neg hk]
      have hk : s.lk = false := by simpa using hk
      have := do_15 s ad k c w h hr h8 hl hk
      rw [show ({ s with ins := true } : S) = ⟨s.rows, s.cols, s.cs, s.cur, false, true⟩ by rw [← hk]]
      exact this
  by_cases h6 : kind = 16
  · subst h6
    rw [kdo_16]; exact do_16 s ad k c w h hr h8 hl
  have := do_wk s ad k c kind w h hr h8 hl hc h5 h6 h7
  rw [kdo_asks h7]
  exact this
end Kyb
end Go.Proofs.YtpgbnnnfeaodmaaGreatDoor
