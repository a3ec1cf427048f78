/- Modified, by the code. Written by tools/gen_red_landed.py. -/
import Derived.Test.YtpdlpmbjhopnnaaDoorRedGave
import Derived.Test.YtpdlpmbjhopnnaaDoorRedImc
import Derived.Test.YtpdlpmbjhopnnaaDoorRedFls
import Derived.Test.YtpdlpmbjhopnnaaDoorBunLow
import Derived.Test.YtpdlpmbjhopnnaaDoorBunLow
import Derived.Test.YtpdlpmbjhopnnaaDoorBunFlc
import Derived.Deep.Cut
import Derived.Deep.LoopGhost
import Derived.Deep.RegionLaw
import Derived.Deep.RegionHeld3
import Derived.IntWalk
namespace Go.Proofs.YtpdlpmbjhopnnaaDoor
open Go.RowKit Sha Six Apd Cut Err Att Grd Fld
set_option linter.unusedVariables false
namespace Red
set_option maxRecDepth 100000 in
set_option maxHeartbeats 8000000 in
theorem modified_no (s : S) (ad : Option Addr) (k c : Nat) (w : World) (h : CelsIn w (.slice ad s.cs.length k) s.cs) (hz : 0 < s.cs.length) (hl : s.cs.length < 10000) (h8 : Sound s.cs) (hr : sright s = true) (hc : c < 256) (ha : Att.aid c = false) :
    Calls Tryd.prog 9 #[.agg #[.int .i64 s.rows, .int .i64 s.cols, .slice ad s.cs.length k, .int .i64 s.cur, .bool s.lk, .bool s.ins], .int .u8 (c : Int)] w fun e w' => GaveM w w' (Inp.noneI) 3 e := by
  have HA := Lib.hid fun W => aid_any c W hc
  have HBR := Lib.hid fun W => bare_any c W hc
  have HB := Lib.hid (al_any w (.cells #[.int .i64 s.rows, .int .i64 s.cols, .slice ad s.cs.length k, .int .i64 s.cur, .bool s.lk, .bool s.ins] 24))
  have HX := Lib.hid (heap_alloc_new w (.cells #[.int .i64 s.rows, .int .i64 s.cols, .slice ad s.cs.length k, .int .i64 s.cur, .bool s.lk, .bool s.ins] 24))
  have ES : (w.alloc (.cells #[.int .i64 s.rows, .int .i64 s.cols, .slice ad s.cs.length k, .int .i64 s.cur, .bool s.lk, .bool s.ins] 24)).heap.size = w.heap.size + 1 := by simp
  rw [ha] at HA
  clear h hz hl h8 hr hc ha HBR
  go_enter Tryd.func9, Tryd.ntmps9
  go_upto_region 1 with (fail)
  generalize w.alloc _ = w1 at *
  have HD := al_any w1 (.cells #[.int .u8 0, .int .i64 0, .slice none 0 0] 29)
  have X2 := Lib.hid (blk HX.out HD)
  have Y2 := Lib.hid (heap_alloc_new w1 (.cells #[.int .u8 0, .int .i64 0, .slice none 0 0] 29))
  rw [ES] at Y2
  have K2 := kept_hid HB HD
  clear HD HX HB ES
  generalize w1.alloc _ = w2 at *
  go_wp2_with fail
  with_reducible refine (HA.out _).mono ?_
  rintro e w3 ⟨rfl, rfl⟩
  have SF := Lib.hid (over3 w2 (w.heap.size + 1) 29 _ _ _ (.int .u8 0) (.int .i64 0) (.slice none 0 0) Y2.out)
  obtain ⟨y0, y1, y2⟩ := cells3 Y2.out
  obtain ⟨f0, f1, f2⟩ := free3 Y2.out
  go_wp2_with fail
  clear y0 y1 y2 f0 f1 f2
  generalize ((w2.setCell _ _).setCell _ _).setCell _ _ = w9 at *
  exact bodyPost_ret (v := .tuple #[.agg #[.int .u8 0, .int .i64 0, .slice none 0 0], .iface 58 (.int .i64 3)]) (results_cell_row_tmp rfl _ _ _ (w.heap.size + 1) _ rfl (run_loadVar_row _ (w.heap.size + 1) 29 29 _ (0, 0) _ SF.out.1 Tryd.underlying29 rfl (by kernel_rfl)) (.iface 58 (.int .i64 3)) rfl) rfl (⟨none, 0, rfl, Inp.ownFlds_nil _ _, K2.out.grown SF.out.2 K2.out.size (by intro g hg; injection hg with hg; omega)⟩)
set_option maxRecDepth 100000 in
set_option maxHeartbeats 8000000 in
theorem modified_bare_ (s : S) (ad : Option Addr) (k c : Nat) (w : World) (h : CelsIn w (.slice ad s.cs.length k) s.cs) (hz : 0 < s.cs.length) (hl : s.cs.length < 10000) (h8 : Sound s.cs) (hr : sright s = true) (hc : c < 256) (ha : Att.aid c = true) (hb : Att.bare c = true) :
    Calls Tryd.prog 9 #[.agg #[.int .i64 s.rows, .int .i64 s.cols, .slice ad s.cs.length k, .int .i64 s.cur, .bool s.lk, .bool s.ins], .int .u8 (c : Int)] w fun e w' => GaveM w w' (⟨c, 0, []⟩) 0 e := by
  have HA := Lib.hid fun W => aid_any c W hc
  have HBR := Lib.hid fun W => bare_any c W hc
  have HB := Lib.hid (al_any w (.cells #[.int .i64 s.rows, .int .i64 s.cols, .slice ad s.cs.length k, .int .i64 s.cur, .bool s.lk, .bool s.ins] 24))
  have HX := Lib.hid (heap_alloc_new w (.cells #[.int .i64 s.rows, .int .i64 s.cols, .slice ad s.cs.length k, .int .i64 s.cur, .bool s.lk, .bool s.ins] 24))
  have ES : (w.alloc (.cells #[.int .i64 s.rows, .int .i64 s.cols, .slice ad s.cs.length k, .int .i64 s.cur, .bool s.lk, .bool s.ins] 24)).heap.size = w.heap.size + 1 := by simp
  rw [ha] at HA
  rw [hb] at HBR
  clear h hz hl h8 hr hc ha hb
  go_enter Tryd.func9, Tryd.ntmps9
  go_upto_region 1 with (fail)
  generalize w.alloc _ = w1 at *
  have HD := al_any w1 (.cells #[.int .u8 0, .int .i64 0, .slice none 0 0] 29)
  have X2 := Lib.hid (blk HX.out HD)
  have Y2 := Lib.hid (heap_alloc_new w1 (.cells #[.int .u8 0, .int .i64 0, .slice none 0 0] 29))
  rw [ES] at Y2
  have K2 := kept_hid HB HD
  clear HD HX HB ES
  generalize w1.alloc _ = w2 at *
  go_wp2_with fail
  with_reducible refine (HA.out _).mono ?_
  rintro e w3 ⟨rfl, rfl⟩
  go_wp2_with fail
  with_reducible refine (HBR.out _).mono ?_
  rintro e w3 ⟨rfl, rfl⟩
  have SF := Lib.hid (over3 w2 (w.heap.size + 1) 29 _ _ _ (.int .u8 (c : Int)) (.int .i64 0) (.slice none 0 0) Y2.out)
  obtain ⟨y0, y1, y2⟩ := cells3 Y2.out
  obtain ⟨f0, f1, f2⟩ := free3 Y2.out
  go_wp2_with fail
  clear y0 y1 y2 f0 f1 f2
  generalize ((w2.setCell _ _).setCell _ _).setCell _ _ = w9 at *
  exact bodyPost_ret (v := .tuple #[.agg #[.int .u8 (c : Int), .int .i64 0, .slice none 0 0], .nilIface]) (results_cell_row_tmp rfl _ _ _ (w.heap.size + 1) _ rfl (run_loadVar_row _ (w.heap.size + 1) 29 29 _ (0, 0) _ SF.out.1 Tryd.underlying29 rfl (by kernel_rfl)) (.nilIface) rfl) rfl (⟨none, 0, rfl, Inp.ownFlds_nil _ _, K2.out.grown SF.out.2 K2.out.size (by intro g hg; injection hg with hg; omega)⟩)
set_option maxRecDepth 100000 in
set_option maxHeartbeats 8000000 in
theorem modified_fields (s : S) (ad : Option Addr) (k c : Nat) (w : World) (h : CelsIn w (.slice ad s.cs.length k) s.cs) (hz : 0 < s.cs.length) (hl : s.cs.length < 10000) (h8 : Sound s.cs) (hr : sright s = true) (hc : c < 256) (ha : Att.aid c = true) (hb : Att.bare c = false) (hf : fmt s.cs = true) :
    Calls Tryd.prog 9 #[.agg #[.int .i64 s.rows, .int .i64 s.cols, .slice ad s.cs.length k, .int .i64 s.cur, .bool s.lk, .bool s.ins], .int .u8 (c : Int)] w fun e w' => GaveM w w' (⟨c, s.cur, (modBs s.cs).map (fieldOf s.cs)⟩) 0 e := by
  have HA := Lib.hid fun W => aid_any c W hc
  have HBR := Lib.hid fun W => bare_any c W hc
  have HB := Lib.hid (al_any w (.cells #[.int .i64 s.rows, .int .i64 s.cols, .slice ad s.cs.length k, .int .i64 s.cur, .bool s.lk, .bool s.ins] 24))
  have HX := Lib.hid (heap_alloc_new w (.cells #[.int .i64 s.rows, .int .i64 s.cols, .slice ad s.cs.length k, .int .i64 s.cur, .bool s.lk, .bool s.ins] 24))
  have ES : (w.alloc (.cells #[.int .i64 s.rows, .int .i64 s.cols, .slice ad s.cs.length k, .int .i64 s.cur, .bool s.lk, .bool s.ins] 24)).heap.size = w.heap.size + 1 := by simp
  rw [ha] at HA
  rw [hb] at HBR
  have HFM := Lib.hid fun W (hb : Below w.heap.size w W) => ffmt_any s ad k W (h.below hb) h8 hz hl
  rw [hf] at HFM
  have HQ := Lib.hid fun W (hb : Below w.heap.size w W) => fields_any s ad k W (h.below hb) h8 hz hl
  generalize (modBs s.cs).map (fieldOf s.cs) = fs at *
  simp only [GaveF] at HQ
  clear h hz hl h8 hr hc ha hb hf
  go_enter Tryd.func9, Tryd.ntmps9
  go_upto_region 1 with (fail)
  generalize w.alloc _ = w1 at *
  have HD := al_any w1 (.cells #[.int .u8 0, .int .i64 0, .slice none 0 0] 29)
  have X2 := Lib.hid (blk HX.out HD)
  have Y2 := Lib.hid (heap_alloc_new w1 (.cells #[.int .u8 0, .int .i64 0, .slice none 0 0] 29))
  rw [ES] at Y2
  have K2 := kept_hid HB HD
  clear HD HX HB ES
  generalize w1.alloc _ = w2 at *
  go_wp2_with fail
  with_reducible refine (HA.out _).mono ?_
  rintro e w3 ⟨rfl, rfl⟩
  go_wp2_with fail
  with_reducible refine (HBR.out _).mono ?_
  rintro e w3 ⟨rfl, rfl⟩
  obtain ⟨c0, c1, c2, c3, c4, c5⟩ := cells6 X2.out
  go_wp2_with fail
  with_reducible refine (HFM.out _ K2.out).mono ?_
  rintro e w4 ⟨rfl, hb⟩
  have X4 := Lib.hid (blk X2.out hb)
  have Y4 := Lib.hid (blk Y2.out hb)
  have K4 := kept_hid K2 hb
  clear hb c0 c1 c2 c3 c4 c5 X2 Y2 K2 HFM HA HBR
  have hzx := Lib.hid (there_lt X4.out)
  obtain ⟨c0, c1, c2, c3, c4, c5⟩ := cells6 X4.out
  have HS := Lib.hid (show ∀ W', Below w4.heap.size w4 W' → (W'.cell? ⟨w.heap.size, 0, none⟩ = some (.int .i64 s.rows) ∧ W'.cell? ⟨w.heap.size, 1, none⟩ = some (.int .i64 s.cols) ∧ W'.cell? ⟨w.heap.size, 2, none⟩ = some (.slice ad s.cs.length k) ∧ W'.cell? ⟨w.heap.size, 3, none⟩ = some (.int .i64 s.cur) ∧ W'.cell? ⟨w.heap.size, 4, none⟩ = some (.bool s.lk) ∧ W'.cell? ⟨w.heap.size, 5, none⟩ = some (.bool s.ins)) from fun W' hW => cells6 (blk X4.out hW))
  have HST := Lib.hid (show ∀ W' va vc, Below w4.heap.size w4 W' → ((((W'.setCell ⟨w.heap.size + 1, 0, none⟩ (.int .u8 (c : Int))).setCell ⟨w.heap.size + 1, 1, none⟩ (.int .i64 s.cur)).setCell ⟨w.heap.size + 1, 2, none⟩ (.slice va fs.length vc)).cell? ⟨w.heap.size, 0, none⟩ = some (.int .i64 s.rows) ∧ (((W'.setCell ⟨w.heap.size + 1, 0, none⟩ (.int .u8 (c : Int))).setCell ⟨w.heap.size + 1, 1, none⟩ (.int .i64 s.cur)).setCell ⟨w.heap.size + 1, 2, none⟩ (.slice va fs.length vc)).cell? ⟨w.heap.size, 1, none⟩ = some (.int .i64 s.cols) ∧ (((W'.setCell ⟨w.heap.size + 1, 0, none⟩ (.int .u8 (c : Int))).setCell ⟨w.heap.size + 1, 1, none⟩ (.int .i64 s.cur)).setCell ⟨w.heap.size + 1, 2, none⟩ (.slice va fs.length vc)).cell? ⟨w.heap.size, 2, none⟩ = some (.slice ad s.cs.length k) ∧ (((W'.setCell ⟨w.heap.size + 1, 0, none⟩ (.int .u8 (c : Int))).setCell ⟨w.heap.size + 1, 1, none⟩ (.int .i64 s.cur)).setCell ⟨w.heap.size + 1, 2, none⟩ (.slice va fs.length vc)).cell? ⟨w.heap.size, 3, none⟩ = some (.int .i64 s.cur) ∧ (((W'.setCell ⟨w.heap.size + 1, 0, none⟩ (.int .u8 (c : Int))).setCell ⟨w.heap.size + 1, 1, none⟩ (.int .i64 s.cur)).setCell ⟨w.heap.size + 1, 2, none⟩ (.slice va fs.length vc)).cell? ⟨w.heap.size, 4, none⟩ = some (.bool s.lk) ∧ (((W'.setCell ⟨w.heap.size + 1, 0, none⟩ (.int .u8 (c : Int))).setCell ⟨w.heap.size + 1, 1, none⟩ (.int .i64 s.cur)).setCell ⟨w.heap.size + 1, 2, none⟩ (.slice va fs.length vc)).cell? ⟨w.heap.size, 5, none⟩ = some (.bool s.ins)) from fun W' va vc hW => cells6 (blk_g (blk X4.out hW) (over3 W' (w.heap.size + 1) 29 _ _ _ (.int .u8 (c : Int)) (.int .i64 s.cur) (.slice va fs.length vc) (blk Y4.out hW)).2 (by intro e; injection e with e; omega)))
  go_upto_region 6 with (fail)
  refine wp_region_held_drew (S := (fun W' => W'.cell? ⟨w.heap.size, 0, none⟩ = some (.int .i64 s.rows) ∧ W'.cell? ⟨w.heap.size, 1, none⟩ = some (.int .i64 s.cols) ∧ W'.cell? ⟨w.heap.size, 2, none⟩ = some (.slice ad s.cs.length k) ∧ W'.cell? ⟨w.heap.size, 3, none⟩ = some (.int .i64 s.cur) ∧ W'.cell? ⟨w.heap.size, 4, none⟩ = some (.bool s.lk) ∧ W'.cell? ⟨w.heap.size, 5, none⟩ = some (.bool s.ins))) (by kernel_rfl) (HS.out _ ((Below.refl _ _).drew)) (fun hHeld => ?_)
  refine' wpAnyH_take (i := 0) (oi := _) (v := _) ?hi0 (by kernel_rfl) (by kernel_rfl) (by kernel_rfl) ?hq0 ?hy0 (by assumption) ?rest0
  case hi0 => (simp only [List.getElem?_toArray, List.getElem?_cons_zero]; rfl)
  case hy0 =>
    refine Or.inl ⟨by rfl, ?_⟩
    intro w' hSw
    try dsimp only at hSw
    go_simp
    try with_reducible rfl
  case hq0 => exact fun _ _ _ h => h
  simp only [Act.put, List.setIfInBounds_toArray, List.set_cons_zero, List.set_cons_succ]
  refine' wpAnyH_take (i := 1) (oi := _) (v := _) ?hi1 (by kernel_rfl) (by kernel_rfl) (by kernel_rfl) ?hq1 ?hy1 (by assumption) ?rest1
  case hi1 => (simp only [List.getElem?_toArray, List.getElem?_cons_succ, List.getElem?_cons_zero]; rfl)
  case hy1 =>
    refine Or.inl ⟨by rfl, ?_⟩
    intro w' hSw
    try dsimp only at hSw
    go_simp
    try with_reducible rfl
  case hq1 => exact fun _ _ _ h => h
  simp only [Act.put, List.setIfInBounds_toArray, List.set_cons_zero, List.set_cons_succ]
  refine' wpAnyH_take (i := 2) (oi := _) (v := _) ?hi2 (by kernel_rfl) (by kernel_rfl) (by kernel_rfl) ?hq2 ?hy2 (by assumption) ?rest2
  case hi2 => (simp only [List.getElem?_toArray, List.getElem?_cons_succ, List.getElem?_cons_zero]; rfl)
  case hy2 =>
    refine Or.inl ⟨by rfl, ?_⟩
    intro w' hSw
    try dsimp only at hSw
    go_simp
    try with_reducible rfl
  case hq2 => exact fun _ _ _ h => h
  simp only [Act.put, List.setIfInBounds_toArray, List.set_cons_zero, List.set_cons_succ]
  refine' wpAnyH_take (i := 3) (oi := _) (v := _) ?hi3 (by kernel_rfl) (by kernel_rfl) (by kernel_rfl) ?hq3 ?hy3 (by assumption) ?rest3
  case hi3 => (simp only [List.getElem?_toArray, List.getElem?_cons_succ, List.getElem?_cons_zero]; rfl)
  case hy3 =>
    refine Or.inl ⟨by rfl, ?_⟩
    intro w' hSw
    try dsimp only at hSw
    go_simp
    try with_reducible rfl
  case hq3 => exact fun _ _ _ h => h
  simp only [Act.put, List.setIfInBounds_toArray, List.set_cons_zero, List.set_cons_succ]
  refine wpAnyH_ready (rs := [4]) (by kernel_rfl) (by simp) (AllReadyH.cons rfl (fun K hK => ?_) AllReadyH.nil)
  go_simp
  go_at_call 24
  with_reducible refine (HQ.out _ (kept_trans K4.out (Below.refl _ _).drew)).mono ?_
  rintro e w5 ⟨va, vc, rfl, ho, hb⟩
  obtain ⟨y0, y1, y2⟩ := cells3 (blk Y4.out (kept_trans (Below.refl w4.heap.size w4).drew hb))
  obtain ⟨f0, f1, f2⟩ := free3 (blk Y4.out (kept_trans (Below.refl w4.heap.size w4).drew hb))
  have hS := HS.out _ (kept_trans (Below.refl w4.heap.size w4).drew hb)
  refine hK.out _ _ hS (fun hHeld => ?_)
  clear hK K hS
  try simp only [Act.put, List.setIfInBounds_toArray, List.set_cons_zero, List.set_cons_succ]
  refine' wpAnyH_take (i := 5) (oi := _) (v := _) ?hi5 (by kernel_rfl) (by kernel_rfl) (by kernel_rfl) ?hq5 ?hy5 (by assumption) ?rest5
  case hi5 => (simp only [List.getElem?_toArray, List.getElem?_cons_succ, List.getElem?_cons_zero]; rfl)
  case hy5 =>
    refine Or.inl ⟨by rfl, ?_⟩
    intro w' hSw
    try dsimp only at hSw
    go_simp
    try with_reducible rfl
  case hq5 => exact fun _ _ _ h => h
  simp only [Act.put, List.setIfInBounds_toArray, List.set_cons_zero, List.set_cons_succ]
  refine wpAnyH_ready (rs := [6]) (by kernel_rfl) (by simp) (AllReadyH.cons rfl (fun K hK => ?_) AllReadyH.nil)
  go_simp
  have hS := HST.out _ va vc (kept_trans (Below.refl w4.heap.size w4).drew hb)
  refine hK.out _ _ hS (fun hHeld => ?_)
  clear hK K hS
  try simp only [Act.put, List.setIfInBounds_toArray, List.set_cons_zero, List.set_cons_succ]
  refine' wpAnyH_take (i := 7) (oi := _) (v := _) ?hi7 (by kernel_rfl) (by kernel_rfl) (by kernel_rfl) ?hq7 ?hy7 (by assumption) ?rest7
  case hi7 => (simp only [List.getElem?_toArray, List.getElem?_cons_succ, List.getElem?_cons_zero]; rfl)
  case hy7 =>
    refine Or.inl ⟨by rfl, ?_⟩
    intro w' hSw
    try dsimp only at hSw
    go_simp
    try with_reducible rfl
  case hq7 => exact fun _ _ _ h => h
  simp only [Act.put, List.setIfInBounds_toArray, List.set_cons_zero, List.set_cons_succ]
  refine wpAnyH_done (by kernel_rfl) ?_ _
  all_goals
    replace hb := kept_trans (Below.refl w4.heap.size w4).drew hb
    have Y5 := Lib.hid (blk Y4.out hb)
    have K5 := kept_hid K4 hb
    have O5 := Lib.hid (show Inp.OwnFlds w5 w4.heap.size (.slice va fs.length vc) fs from ho)
    have SF := Lib.hid (over3 w5 (w.heap.size + 1) 29 _ _ _ (.int .u8 (c : Int)) (.int .i64 s.cur) (.slice va fs.length vc) Y5.out)
    have L4 := Lib.hid (there_lt Y4.out)
    have O9 := Lib.hid (flds_mono (O5.out.other SF.out.2 L4.out) K4.out.size)
    clear hb ho y0 y1 y2 f0 f1 f2 c0 c1 c2 c3 c4 c5
    generalize ((w5.setCell _ _).setCell _ _).setCell _ _ = w9 at *
    go_wp2_with fail
    exact bodyPost_ret (v := .tuple #[.agg #[.int .u8 (c : Int), .int .i64 s.cur, .slice va fs.length vc], .nilIface]) (results_cell_row_tmp rfl _ _ _ (w.heap.size + 1) _ rfl (run_loadVar_row _ (w.heap.size + 1) 29 29 _ (0, 0) _ SF.out.1 Tryd.underlying29 rfl (by kernel_rfl)) (.nilIface) rfl) rfl (⟨va, vc, rfl, O9.out, K5.out.grown SF.out.2 K5.out.size (by intro g hg; injection hg with hg; omega)⟩)
set_option maxRecDepth 100000 in
set_option maxHeartbeats 8000000 in
theorem modified_alone (s : S) (ad : Option Addr) (k c : Nat) (w : World) (h : CelsIn w (.slice ad s.cs.length k) s.cs) (hz : 0 < s.cs.length) (hl : s.cs.length < 10000) (h8 : Sound s.cs) (hr : sright s = true) (hc : c < 256) (ha : Att.aid c = true) (hb : Att.bare c = false) (hf : fmt s.cs = false) :
    Calls Tryd.prog 9 #[.agg #[.int .i64 s.rows, .int .i64 s.cols, .slice ad s.cs.length k, .int .i64 s.cur, .bool s.lk, .bool s.ins], .int .u8 (c : Int)] w fun e w' => GaveM w w' (⟨c, s.cur, alone s.cs⟩) 0 e := by
  have HA := Lib.hid fun W => aid_any c W hc
  have HBR := Lib.hid fun W => bare_any c W hc
  have HB := Lib.hid (al_any w (.cells #[.int .i64 s.rows, .int .i64 s.cols, .slice ad s.cs.length k, .int .i64 s.cur, .bool s.lk, .bool s.ins] 24))
  have HX := Lib.hid (heap_alloc_new w (.cells #[.int .i64 s.rows, .int .i64 s.cols, .slice ad s.cs.length k, .int .i64 s.cur, .bool s.lk, .bool s.ins] 24))
  have ES : (w.alloc (.cells #[.int .i64 s.rows, .int .i64 s.cols, .slice ad s.cs.length k, .int .i64 s.cur, .bool s.lk, .bool s.ins] 24)).heap.size = w.heap.size + 1 := by simp
  rw [ha] at HA
  rw [hb] at HBR
  have HFM := Lib.hid fun W (hb : Below w.heap.size w W) => ffmt_any s ad k W (h.below hb) h8 hz hl
  rw [hf] at HFM
  have HQ := Lib.hid fun W (hb : Below w.heap.size w W) => whole_any s ad k W (h.below hb) h8 hr hl hf
  generalize alone s.cs = fs at *
  simp only [GaveF] at HQ
  clear h hz hl h8 hr hc ha hb hf
  go_enter Tryd.func9, Tryd.ntmps9
  go_upto_region 1 with (fail)
  generalize w.alloc _ = w1 at *
  have HD := al_any w1 (.cells #[.int .u8 0, .int .i64 0, .slice none 0 0] 29)
  have X2 := Lib.hid (blk HX.out HD)
  have Y2 := Lib.hid (heap_alloc_new w1 (.cells #[.int .u8 0, .int .i64 0, .slice none 0 0] 29))
  rw [ES] at Y2
  have K2 := kept_hid HB HD
  clear HD HX HB ES
  generalize w1.alloc _ = w2 at *
  go_wp2_with fail
  with_reducible refine (HA.out _).mono ?_
  rintro e w3 ⟨rfl, rfl⟩
  go_wp2_with fail
  with_reducible refine (HBR.out _).mono ?_
  rintro e w3 ⟨rfl, rfl⟩
  obtain ⟨c0, c1, c2, c3, c4, c5⟩ := cells6 X2.out
  go_wp2_with fail
  with_reducible refine (HFM.out _ K2.out).mono ?_
  rintro e w4 ⟨rfl, hb⟩
  have X4 := Lib.hid (blk X2.out hb)
  have Y4 := Lib.hid (blk Y2.out hb)
  have K4 := kept_hid K2 hb
  clear hb c0 c1 c2 c3 c4 c5 X2 Y2 K2 HFM HA HBR
  have hzx := Lib.hid (there_lt X4.out)
  obtain ⟨c0, c1, c2, c3, c4, c5⟩ := cells6 X4.out
  have HS := Lib.hid (show ∀ W', Below w4.heap.size w4 W' → (W'.cell? ⟨w.heap.size, 0, none⟩ = some (.int .i64 s.rows) ∧ W'.cell? ⟨w.heap.size, 1, none⟩ = some (.int .i64 s.cols) ∧ W'.cell? ⟨w.heap.size, 2, none⟩ = some (.slice ad s.cs.length k) ∧ W'.cell? ⟨w.heap.size, 3, none⟩ = some (.int .i64 s.cur) ∧ W'.cell? ⟨w.heap.size, 4, none⟩ = some (.bool s.lk) ∧ W'.cell? ⟨w.heap.size, 5, none⟩ = some (.bool s.ins)) from fun W' hW => cells6 (blk X4.out hW))
  have HST := Lib.hid (show ∀ W' va vc, Below w4.heap.size w4 W' → ((((W'.setCell ⟨w.heap.size + 1, 0, none⟩ (.int .u8 (c : Int))).setCell ⟨w.heap.size + 1, 1, none⟩ (.int .i64 s.cur)).setCell ⟨w.heap.size + 1, 2, none⟩ (.slice va fs.length vc)).cell? ⟨w.heap.size, 0, none⟩ = some (.int .i64 s.rows) ∧ (((W'.setCell ⟨w.heap.size + 1, 0, none⟩ (.int .u8 (c : Int))).setCell ⟨w.heap.size + 1, 1, none⟩ (.int .i64 s.cur)).setCell ⟨w.heap.size + 1, 2, none⟩ (.slice va fs.length vc)).cell? ⟨w.heap.size, 1, none⟩ = some (.int .i64 s.cols) ∧ (((W'.setCell ⟨w.heap.size + 1, 0, none⟩ (.int .u8 (c : Int))).setCell ⟨w.heap.size + 1, 1, none⟩ (.int .i64 s.cur)).setCell ⟨w.heap.size + 1, 2, none⟩ (.slice va fs.length vc)).cell? ⟨w.heap.size, 2, none⟩ = some (.slice ad s.cs.length k) ∧ (((W'.setCell ⟨w.heap.size + 1, 0, none⟩ (.int .u8 (c : Int))).setCell ⟨w.heap.size + 1, 1, none⟩ (.int .i64 s.cur)).setCell ⟨w.heap.size + 1, 2, none⟩ (.slice va fs.length vc)).cell? ⟨w.heap.size, 3, none⟩ = some (.int .i64 s.cur) ∧ (((W'.setCell ⟨w.heap.size + 1, 0, none⟩ (.int .u8 (c : Int))).setCell ⟨w.heap.size + 1, 1, none⟩ (.int .i64 s.cur)).setCell ⟨w.heap.size + 1, 2, none⟩ (.slice va fs.length vc)).cell? ⟨w.heap.size, 4, none⟩ = some (.bool s.lk) ∧ (((W'.setCell ⟨w.heap.size + 1, 0, none⟩ (.int .u8 (c : Int))).setCell ⟨w.heap.size + 1, 1, none⟩ (.int .i64 s.cur)).setCell ⟨w.heap.size + 1, 2, none⟩ (.slice va fs.length vc)).cell? ⟨w.heap.size, 5, none⟩ = some (.bool s.ins)) from fun W' va vc hW => cells6 (blk_g (blk X4.out hW) (over3 W' (w.heap.size + 1) 29 _ _ _ (.int .u8 (c : Int)) (.int .i64 s.cur) (.slice va fs.length vc) (blk Y4.out hW)).2 (by intro e; injection e with e; omega)))
  go_upto_region 7 with (fail)
  refine wp_region_held_drew (S := (fun W' => W'.cell? ⟨w.heap.size, 0, none⟩ = some (.int .i64 s.rows) ∧ W'.cell? ⟨w.heap.size, 1, none⟩ = some (.int .i64 s.cols) ∧ W'.cell? ⟨w.heap.size, 2, none⟩ = some (.slice ad s.cs.length k) ∧ W'.cell? ⟨w.heap.size, 3, none⟩ = some (.int .i64 s.cur) ∧ W'.cell? ⟨w.heap.size, 4, none⟩ = some (.bool s.lk) ∧ W'.cell? ⟨w.heap.size, 5, none⟩ = some (.bool s.ins))) (by kernel_rfl) (HS.out _ ((Below.refl _ _).drew)) (fun hHeld => ?_)
  refine' wpAnyH_take (i := 0) (oi := _) (v := _) ?hi0 (by kernel_rfl) (by kernel_rfl) (by kernel_rfl) ?hq0 ?hy0 (by assumption) ?rest0
  case hi0 => (simp only [List.getElem?_toArray, List.getElem?_cons_zero]; rfl)
  case hy0 =>
    refine Or.inl ⟨by rfl, ?_⟩
    intro w' hSw
    try dsimp only at hSw
    go_simp
    try with_reducible rfl
  case hq0 => exact fun _ _ _ h => h
  simp only [Act.put, List.setIfInBounds_toArray, List.set_cons_zero, List.set_cons_succ]
  refine' wpAnyH_take (i := 1) (oi := _) (v := _) ?hi1 (by kernel_rfl) (by kernel_rfl) (by kernel_rfl) ?hq1 ?hy1 (by assumption) ?rest1
  case hi1 => (simp only [List.getElem?_toArray, List.getElem?_cons_succ, List.getElem?_cons_zero]; rfl)
  case hy1 =>
    refine Or.inl ⟨by rfl, ?_⟩
    intro w' hSw
    try dsimp only at hSw
    go_simp
    try with_reducible rfl
  case hq1 => exact fun _ _ _ h => h
  simp only [Act.put, List.setIfInBounds_toArray, List.set_cons_zero, List.set_cons_succ]
  refine' wpAnyH_take (i := 2) (oi := _) (v := _) ?hi2 (by kernel_rfl) (by kernel_rfl) (by kernel_rfl) ?hq2 ?hy2 (by assumption) ?rest2
  case hi2 => (simp only [List.getElem?_toArray, List.getElem?_cons_succ, List.getElem?_cons_zero]; rfl)
  case hy2 =>
    refine Or.inl ⟨by rfl, ?_⟩
    intro w' hSw
    try dsimp only at hSw
    go_simp
    try with_reducible rfl
  case hq2 => exact fun _ _ _ h => h
  simp only [Act.put, List.setIfInBounds_toArray, List.set_cons_zero, List.set_cons_succ]
  refine' wpAnyH_take (i := 3) (oi := _) (v := _) ?hi3 (by kernel_rfl) (by kernel_rfl) (by kernel_rfl) ?hq3 ?hy3 (by assumption) ?rest3
  case hi3 => (simp only [List.getElem?_toArray, List.getElem?_cons_succ, List.getElem?_cons_zero]; rfl)
  case hy3 =>
    refine Or.inl ⟨by rfl, ?_⟩
    intro w' hSw
    try dsimp only at hSw
    go_simp
    try with_reducible rfl
  case hq3 => exact fun _ _ _ h => h
  simp only [Act.put, List.setIfInBounds_toArray, List.set_cons_zero, List.set_cons_succ]
  refine wpAnyH_ready (rs := [4]) (by kernel_rfl) (by simp) (AllReadyH.cons rfl (fun K hK => ?_) AllReadyH.nil)
  go_simp
  go_at_call 25
  with_reducible refine (HQ.out _ (kept_trans K4.out (Below.refl _ _).drew)).mono ?_
  rintro e w5 ⟨va, vc, rfl, ho, hb⟩
  obtain ⟨y0, y1, y2⟩ := cells3 (blk Y4.out (kept_trans (Below.refl w4.heap.size w4).drew hb))
  obtain ⟨f0, f1, f2⟩ := free3 (blk Y4.out (kept_trans (Below.refl w4.heap.size w4).drew hb))
  have hS := HS.out _ (kept_trans (Below.refl w4.heap.size w4).drew hb)
  refine hK.out _ _ hS (fun hHeld => ?_)
  clear hK K hS
  try simp only [Act.put, List.setIfInBounds_toArray, List.set_cons_zero, List.set_cons_succ]
  refine' wpAnyH_take (i := 5) (oi := _) (v := _) ?hi5 (by kernel_rfl) (by kernel_rfl) (by kernel_rfl) ?hq5 ?hy5 (by assumption) ?rest5
  case hi5 => (simp only [List.getElem?_toArray, List.getElem?_cons_succ, List.getElem?_cons_zero]; rfl)
  case hy5 =>
    refine Or.inl ⟨by rfl, ?_⟩
    intro w' hSw
    try dsimp only at hSw
    go_simp
    try with_reducible rfl
  case hq5 => exact fun _ _ _ h => h
  simp only [Act.put, List.setIfInBounds_toArray, List.set_cons_zero, List.set_cons_succ]
  refine wpAnyH_ready (rs := [6]) (by kernel_rfl) (by simp) (AllReadyH.cons rfl (fun K hK => ?_) AllReadyH.nil)
  go_simp
  have hS := HST.out _ va vc (kept_trans (Below.refl w4.heap.size w4).drew hb)
  refine hK.out _ _ hS (fun hHeld => ?_)
  clear hK K hS
  try simp only [Act.put, List.setIfInBounds_toArray, List.set_cons_zero, List.set_cons_succ]
  refine' wpAnyH_take (i := 7) (oi := _) (v := _) ?hi7 (by kernel_rfl) (by kernel_rfl) (by kernel_rfl) ?hq7 ?hy7 (by assumption) ?rest7
  case hi7 => (simp only [List.getElem?_toArray, List.getElem?_cons_succ, List.getElem?_cons_zero]; rfl)
  case hy7 =>
    refine Or.inl ⟨by rfl, ?_⟩
    intro w' hSw
    try dsimp only at hSw
    go_simp
    try with_reducible rfl
  case hq7 => exact fun _ _ _ h => h
  simp only [Act.put, List.setIfInBounds_toArray, List.set_cons_zero, List.set_cons_succ]
  refine wpAnyH_done (by kernel_rfl) ?_ _
  all_goals
    replace hb := kept_trans (Below.refl w4.heap.size w4).drew hb
    have Y5 := Lib.hid (blk Y4.out hb)
    have K5 := kept_hid K4 hb
    have O5 := Lib.hid (show Inp.OwnFlds w5 w4.heap.size (.slice va fs.length vc) fs from ho)
    have SF := Lib.hid (over3 w5 (w.heap.size + 1) 29 _ _ _ (.int .u8 (c : Int)) (.int .i64 s.cur) (.slice va fs.length vc) Y5.out)
    have L4 := Lib.hid (there_lt Y4.out)
    have O9 := Lib.hid (flds_mono (O5.out.other SF.out.2 L4.out) K4.out.size)
    clear hb ho y0 y1 y2 f0 f1 f2 c0 c1 c2 c3 c4 c5
    generalize ((w5.setCell _ _).setCell _ _).setCell _ _ = w9 at *
    go_wp2_with fail
    exact bodyPost_ret (v := .tuple #[.agg #[.int .u8 (c : Int), .int .i64 s.cur, .slice va fs.length vc], .nilIface]) (results_cell_row_tmp rfl _ _ _ (w.heap.size + 1) _ rfl (run_loadVar_row _ (w.heap.size + 1) 29 29 _ (0, 0) _ SF.out.1 Tryd.underlying29 rfl (by kernel_rfl)) (.nilIface) rfl) rfl (⟨va, vc, rfl, O9.out, K5.out.grown SF.out.2 K5.out.size (by intro g hg; injection hg with hg; omega)⟩)
theorem modified_any (s : S) (ad : Option Addr) (k c : Nat) (w : World) (h : CelsIn w (.slice ad s.cs.length k) s.cs) (hz : 0 < s.cs.length) (hl : s.cs.length < 10000) (h8 : Sound s.cs) (hr : sright s = true) (hc : c < 256) :
    Calls Tryd.prog 9 #[.agg #[.int .i64 s.rows, .int .i64 s.cols, .slice ad s.cs.length k, .int .i64 s.cur, .bool s.lk, .bool s.ins], .int .u8 (c : Int)] w fun e w' => GaveM w w' (asks s c) (asksE c) e := by
  unfold asks asksE
  cases ha : Att.aid c with
  | false => exact modified_no s ad k c w h hz hl h8 hr hc ha
  | true =>
    simp only [if_true]
    cases hb : Att.bare c with
    | true =>
      rw [modified_bare s c hb]
      exact modified_bare_ s ad k c w h hz hl h8 hr hc ha hb
    | false =>
      cases hf : fmt s.cs with
      | true =>
        have e : modified s c = ⟨c, s.cur, (modBs s.cs).map (fieldOf s.cs)⟩ := by unfold modified; rw [hb, hf]; rfl
        rw [e]
        exact modified_fields s ad k c w h hz hl h8 hr hc ha hb hf
      | false =>
        have e : modified s c = ⟨c, s.cur, alone s.cs⟩ := by unfold modified; rw [hb, hf]; rfl
        rw [e]
        exact modified_alone s ad k c w h hz hl h8 hr hc ha hb hf
end Red
end Go.Proofs.YtpdlpmbjhopnnaaDoor
