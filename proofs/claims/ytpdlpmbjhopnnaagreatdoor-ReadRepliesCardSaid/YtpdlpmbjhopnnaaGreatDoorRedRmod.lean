/- The document's Modified. Written by tools/gen_red_ref.py. -/
import Derived.Test.YtpdlpmbjhopnnaaGreatDoorBunRdm
import Derived.Test.YtpdlpmbjhopnnaaGreatDoorBunInp
import Derived.Test.YtpdlpmbjhopnnaaGreatDoorInpRlet
import Derived.Test.YtpdlpmbjhopnnaaGreatDoorBunScr
import Derived.Test.YtpdlpmbjhopnnaaGreatDoorBunFld
import Derived.Test.YtpdlpmbjhopnnaaGreatDoorBunFld
import Derived.Test.YtpdlpmbjhopnnaaGreatDoorBunGrd
import Derived.Deep.Cut
import Derived.Deep.LoopGhost
import Derived.Deep.RegionLaw
import Derived.IntWalk
namespace Go.Proofs.YtpdlpmbjhopnnaaGreatDoor
open Go.RowKit Sha Six Apd Cut Err Att Grd Fld
set_option linter.unusedVariables false
namespace Red
set_option maxRecDepth 100000 in
set_option maxHeartbeats 8000000 in
theorem rmodified_bare (s : S) (ad : Option Addr) (k c : Nat) (w : World) (h : CelsIn w (.slice ad s.cs.length k) s.cs) (hz : 0 < s.cs.length) (hl : s.cs.length < 10000) (h8 : Sound s.cs) (hc : c < 256) (hb : Att.bare c = true) :
    Calls Tryz.prog 15 #[.agg #[.int .i64 s.rows, .int .i64 s.cols, .slice ad s.cs.length k, .int .i64 s.cur, .bool s.lk, .bool s.ins], .int .u8 (c : Int)] w fun e w' => GaveI w w' (modified s c) e := by
  have HBB := Lib.hid hb
  have HL := Lib.hid hl
  have HZ := Lib.hid hz
  have HNE := Lib.hid (Scr.celsIn_lt h hz)
  have HBR := Lib.hid fun W => rbare_any c W hc
  rw [hb] at HBR
  have HB := Lib.hid (al_any w (.cells #[.int .i64 s.rows, .int .i64 s.cols, .slice ad s.cs.length k, .int .i64 s.cur, .bool s.lk, .bool s.ins] 24))
  have HX := Lib.hid (heap_alloc_new w (.cells #[.int .i64 s.rows, .int .i64 s.cols, .slice ad s.cs.length k, .int .i64 s.cur, .bool s.lk, .bool s.ins] 24))
  have HI := Lib.hid (h.below HB.out)
  have ES : (w.alloc (.cells #[.int .i64 s.rows, .int .i64 s.cols, .slice ad s.cs.length k, .int .i64 s.cur, .bool s.lk, .bool s.ins] 24)).heap.size = w.heap.size + 1 := by simp
  clear hc hb
  rw [show modified s c = ⟨c, 0, []⟩ from modified_bare s c HBB.out]
  go_enter Tryz.func15, Tryz.ntmps15
  go_upto_region 1 with (fail)
  generalize w.alloc _ = w1 at *
  have HA := al_any w1 (.cells #[.int .u8 0, .int .i64 0, .slice none 0 0] 46)
  have X2 := Lib.hid (blk HX.out HA)
  have Y2 := Lib.hid (heap_alloc_new w1 (.cells #[.int .u8 0, .int .i64 0, .slice none 0 0] 46))
  rw [ES] at Y2
  have I2 := Lib.hid (HI.out.below HA)
  have K2 := kept_hid HB HA
  have L2 := Lib.hid (there_lt Y2.out)
  clear HA HX HI HB ES
  generalize w1.alloc _ = w2 at *
  go_wp2_with fail
  with_reducible refine (HBR.out _).mono ?_
  rintro e w3 ⟨rfl, rfl⟩
  obtain ⟨y0, y1, y2⟩ := cells3 Y2.out
  obtain ⟨f0, f1, f2⟩ := free3 Y2.out
  go_wp2_with fail
  clear y0 y1 y2 f0 f1 f2
  have SF := Lib.hid (over3 w2 (w.heap.size + 1) 46 _ _ _ (.int .u8 (c : Int)) (.int .i64 0) (.slice none 0 0) Y2.out)
  generalize ((w2.setCell _ _).setCell _ _).setCell _ _ = w9 at *
  refine bodyPost_ret (v := .agg #[.int .u8 (c : Int), .int .i64 0, .slice none 0 0]) (results_cell_row rfl _ _ (w.heap.size + 1) 46 _ (0, 0) _ rfl SF.out.1 Tryz.underlying46 rfl (by kernel_rfl)) rfl ?_
  exact ⟨none, 0, rfl, Inp.ownFlds_nil _ _, K2.out.grown SF.out.2 K2.out.size (by intro g hg; injection hg with hg; omega)⟩
set_option maxRecDepth 100000 in
set_option maxHeartbeats 8000000 in
theorem rmodified_alone (s : S) (ad : Option Addr) (k c : Nat) (w : World) (h : CelsIn w (.slice ad s.cs.length k) s.cs) (hz : 0 < s.cs.length) (hl : s.cs.length < 10000) (h8 : Sound s.cs) (hc : c < 256) (hb : Att.bare c = false) (hf : fmt s.cs = false) :
    Calls Tryz.prog 15 #[.agg #[.int .i64 s.rows, .int .i64 s.cols, .slice ad s.cs.length k, .int .i64 s.cur, .bool s.lk, .bool s.ins], .int .u8 (c : Int)] w fun e w' => GaveI w w' (⟨c, s.cur, alone s.cs⟩) e := by
  have HFM := Lib.hid fun W (hb : Below w.heap.size w W) => rfmt_any s ad k W (h.below (hb)) hz (show s.cs.length < 100000000 by omega)
  rw [hf] at HFM
  have HL := Lib.hid hl
  have HZ := Lib.hid hz
  have HNE := Lib.hid (Scr.celsIn_lt h hz)
  have HBR := Lib.hid fun W => rbare_any c W hc
  rw [hb] at HBR
  have HB := Lib.hid (al_any w (.cells #[.int .i64 s.rows, .int .i64 s.cols, .slice ad s.cs.length k, .int .i64 s.cur, .bool s.lk, .bool s.ins] 24))
  have HX := Lib.hid (heap_alloc_new w (.cells #[.int .i64 s.rows, .int .i64 s.cols, .slice ad s.cs.length k, .int .i64 s.cur, .bool s.lk, .bool s.ins] 24))
  have HI := Lib.hid (h.below HB.out)
  have ES : (w.alloc (.cells #[.int .i64 s.rows, .int .i64 s.cols, .slice ad s.cs.length k, .int .i64 s.cur, .bool s.lk, .bool s.ins] 24)).heap.size = w.heap.size + 1 := by simp
  clear hc hb
  go_enter Tryz.func15, Tryz.ntmps15
  go_upto_region 1 with (fail)
  generalize w.alloc _ = w1 at *
  have HA := al_any w1 (.cells #[.int .u8 0, .int .i64 0, .slice none 0 0] 46)
  have X2 := Lib.hid (blk HX.out HA)
  have Y2 := Lib.hid (heap_alloc_new w1 (.cells #[.int .u8 0, .int .i64 0, .slice none 0 0] 46))
  rw [ES] at Y2
  have I2 := Lib.hid (HI.out.below HA)
  have K2 := kept_hid HB HA
  have L2 := Lib.hid (there_lt Y2.out)
  clear HA HX HI HB ES
  generalize w1.alloc _ = w2 at *
  go_wp2_with fail
  with_reducible refine (HBR.out _).mono ?_
  rintro e w3 ⟨rfl, rfl⟩
  obtain ⟨c0, c1, c2, c3, c4, c5⟩ := cells6 X2.out
  have HA := al_any w2 (.cells #[.int .u8 (c : Int), .int .i64 s.cur, .slice none 0 0] 46)
  have X3 := Lib.hid (blk X2.out HA)
  have Y3 := Lib.hid (blk Y2.out HA)
  have Z3 := Lib.hid (heap_alloc_new w2 (.cells #[.int .u8 (c : Int), .int .i64 s.cur, .slice none 0 0] 46))
  have I3 := Lib.hid (I2.out.below HA)
  have K3 := kept_hid K2 HA
  have L3 := Lib.hid (there_lt Z3.out)
  clear HA X2 Y2 I2 K2
  go_upto_region 4 with (fail)
  clear c0 c1 c2 c3 c4 c5
  generalize w2.alloc _ = w3 at *
  generalize w2.heap.size = g5 at *
  clear w2
  obtain ⟨c0, c1, c2, c3, c4, c5⟩ := cells6 X3.out
  go_wp2_with fail
  with_reducible refine (HFM.out _ K3.out).mono ?_
  rintro e w4 ⟨rfl, hb⟩
  have X4 := Lib.hid (blk X3.out hb)
  have Y4 := Lib.hid (blk Y3.out hb)
  have Z4 := Lib.hid (blk Z3.out hb)
  have I4 := Lib.hid (I3.out.below hb)
  have K4 := kept_hid K3 hb
  have L4 := Lib.hid (Nat.lt_of_lt_of_le L3.out hb.size)
  clear hb X3 Y3 Z3 I3 K3 L3 HFM HBR c0 c1 c2 c3 c4 c5
  go_wp2_with fail
  have H8 := Lib.hid h8
  clear h hz hl h8
  go_loopg [6, 7] (s.cs.length + 1) (fun mm tt ii wr => ∃ (q : Nat) (ts : List Nat) (ta : Option Addr) (tc : Nat), q ≤ s.cs.length ∧ mm = s.cs.length + 1 - q ∧ ii = .int .i64 q ∧ tt = .slice ta ts.length tc ∧ Hid (wr.ownsRow w4.heap.size 5 1 (.slice ta ts.length tc) ts.length (u8s ts)) ∧ Hid (ts = lettersAll (s.cs.take q)) ∧ Hid (ts.length ≤ q) ∧ Hid (Below w4.heap.size w4 wr))
  case atStart => exact ⟨0, [], none, 0, Nat.zero_le _, rfl, rfl, rfl, Lib.hid (own_no _ _), Lib.hid rfl, Lib.hid (Nat.zero_le _), Lib.hid (Below.refl _ _)⟩
  case round =>
    obtain ⟨q, ts, ta, tc, hq, rfl, rfl, rfl, OT, HT, HTL, KZ⟩ := hrel
    have ew : IntKind.i64.wrap ((q : Int) + 1) = (q : Int) + 1 := by
      have := HL.out
      rw [IntWalk.i64_in] <;> omega
    have XZ := Lib.hid (blk X4.out KZ.out)
    have IZ := Lib.hid (I4.out.below KZ.out)
    obtain ⟨c0, c1, c2, c3, c4, c5⟩ := cells6 XZ.out
    by_cases hlt : q < s.cs.length
    · have HQ := Lib.hid hlt
      have hi0 : (0 : Int) ≤ (q : Int) := by omega
      have hi1 : (q : Int) < (s.cs.length : Int) := by omega
      obtain ⟨yf, yp, yn, ys, ym, yc, ey⟩ := c_eta (s.cs.getD q noC)
      obtain ⟨b1, o1, rfl, q0, q1, q2, q3, q4, q5⟩ := IZ.out.cells hlt ey
      have h8q : yc < 256 := by have := sound_at H8.out q; rw [ey] at this; exact this
      have HR := Lib.hid fun W => Inp.rletter_any yc W h8q
      have HTN := letters_step s.cs hlt
      rw [ey, ← HT.out] at HTN
      replace HTN := Lib.hid HTN
      cases hl : Inp.letter yc with
      | false =>
        rw [hl] at HR
        simp only [hl] at HTN
        clear hl ey hlt h8q hq
        go_wp2_with fail
        with_reducible refine (HR.out _).mono ?_
        rintro e w5 ⟨rfl, rfl⟩
        go_wp2_with fail
        go_roundg (s.cs.length + 1 - (q + 1))
        case measure => have := HQ.out; omega
        case rel => exact ⟨q + 1, ts, ta, tc, HQ.out, rfl, by first | rfl | go_num, rfl, OT, Lib.hid HTN.out.symm, Lib.hid (Nat.le_succ_of_le HTL.out), KZ⟩
      | true =>
        rw [hl] at HR
        simp only [hl, if_true] at HTN
        clear hl ey hlt h8q hq
        go_wp2_with fail
        with_reducible refine (HR.out _).mono ?_
        rintro e w5 ⟨rfl, rfl⟩
        have HA := al_any wr (.cells (u8s [yc]).toArray 5)
        have KS := Lib.hid (kept_trans KZ.out HA)
        have OS := Lib.hid (own_below OT.out HA)
        have LT := Lib.hid (lit_in wr [yc])
        have HG := Lib.hid (own_ge OS.out)
        have HWB := Lib.hid (show ts.length < 100000 from by have := HTL.out; have := HL.out; have := HQ.out; omega)
        have HLS := Lib.hid (show w4.heap.size ≤ (wr.alloc (.cells (u8s [yc]).toArray 5)).heap.size from KS.out.size)
        clear HA OT HR XZ IZ
        go_wp2_with (at_builtin; refine wpList_mark ?_)
        refine Lib.hid ?_
        refine append_own rfl (.tmp 37) (.tmp 44) rfl w4.heap.size (.slice ta ts.length tc) ts.length (u8s ts) rfl OS.out (some ⟨wr.heap.size, 0, none⟩) 1 1 [yc] rfl rfl nofun (bytes_src LT.out) (by have := HWB.out; omega) HLS.out ?_
        intro v' wA hown hgr _
        have OA := Lib.hid (show wA.ownsRow w4.heap.size 5 1 v' (ts ++ [yc]).length (u8s (ts ++ [yc])) from by
          rw [List.length_append]
          have e : u8s (ts ++ [yc]) = u8s ts ++ u8s [yc] := by simp [u8s]
          rw [e]
          exact hown)
        have KA := Lib.hid (KS.out.grown hgr KS.out.size HG.out)
        obtain ⟨v7, k7, rfl⟩ := own_form OA.out
        clear hown hgr OS KS LT HG HLS c0 c1 c2 c3 c4 c5 q0 q1 q2 q3 q4 q5
        go_wp2_with fail
        go_roundg (s.cs.length + 1 - (q + 1))
        case measure => have := HQ.out; omega
        case rel => exact ⟨q + 1, ts ++ [yc], v7, k7, HQ.out, rfl, by first | rfl | go_num, by rw [List.length_append]; first | rfl | simp, OA, Lib.hid HTN.out.symm, Lib.hid (by rw [List.length_append]; have := HTL.out; simp only [List.length_cons, List.length_nil]; omega), KA⟩
    · obtain rfl : q = s.cs.length := by omega
      have hn0 : ¬ (s.cs.length : Int) < (s.cs.length : Int) := by omega
      rw [List.take_length] at HT
      have YZ := Lib.hid (blk Y4.out KZ.out)
      have ZZ := Lib.hid (blk Z4.out KZ.out)
      have KW := kept_hid K4 KZ.out
      have LZ := Lib.hid (Nat.lt_of_lt_of_le L4.out KZ.out.size)
      have HAL := Lib.hid (show alone s.cs = if ts = [] then [] else [⟨-1, ts⟩] from by rw [HT.out]; rfl)
      clear hlt hq
      cases ts with
      | nil =>
        have HAL := Lib.hid (show alone s.cs = [] from HAL.out)
        have hn1 : ¬ ((([] : List Nat).length : Nat) : Int) > 0 := by simp
        obtain ⟨z0, z1, z2⟩ := cells3 ZZ.out
        obtain ⟨y0, y1, y2⟩ := cells3 YZ.out
        obtain ⟨f0, f1, f2⟩ := free3 YZ.out
        go_wp2_with fail
        clear z0 z1 z2 y0 y1 y2 f0 f1 f2
        have SF := Lib.hid (over3 wr (w.heap.size + 1) 46 _ _ _ (.int .u8 (c : Int)) (.int .i64 s.cur) (.slice none 0 0) YZ.out)
        generalize ((wr.setCell _ _).setCell _ _).setCell _ _ = w9 at *
        refine bodyPost_ret (v := .agg #[.int .u8 (c : Int), .int .i64 s.cur, .slice none 0 0]) (results_cell_row rfl _ _ (w.heap.size + 1) 46 _ (0, 0) _ rfl SF.out.1 Tryz.underlying46 rfl (by kernel_rfl)) rfl ?_
        show GaveI w w9 ⟨c, s.cur, alone s.cs⟩ _
        rw [HAL.out]
        exact ⟨none, 0, rfl, Inp.ownFlds_nil _ _, KW.out.grown SF.out.2 KW.out.size (by intro g hg; injection hg with hg; omega)⟩
      | cons t0 tr =>
        have HAL := Lib.hid (show alone s.cs = [⟨-1, t0 :: tr⟩] from by rw [HAL.out, if_neg nofun])
        generalize hts : t0 :: tr = ts at *
        have HP := Lib.hid (show 0 < ts.length from by rw [← hts]; simp)
        clear hts
        have hn1 : (ts.length : Int) > 0 := by have := HP.out; omega
        obtain ⟨z0, z1, z2⟩ := cells3 ZZ.out
        obtain ⟨f0, f1, f2⟩ := free3 ZZ.out
        have HA := al_any wr (.cells (Inp.fcells ⟨-1, ts⟩ (.slice ta ts.length tc)).toArray 67)
        have LB := Lib.hid (heap_alloc_new wr (.cells (Inp.fcells ⟨-1, ts⟩ (.slice ta ts.length tc)).toArray 67))
        have OS := Lib.hid (own_mono (own_below OT.out HA) (show g5 + 1 ≤ w4.heap.size from L4.out))
        have YS := Lib.hid (blk YZ.out HA)
        have ZS := Lib.hid (blk ZZ.out HA)
        have KS := kept_hid KW HA
        have LS := Lib.hid (show g5 + 1 ≤ (wr.alloc _).heap.size from Nat.le_trans LZ.out HA.size)
        clear HA OT
        go_wp2_with (at_builtin; refine wpList_mark ?_)
        refine Lib.hid ?_
        refine Inp.append_fld rfl (.tmp 50) (.tmp 53) rfl (g5 + 1) (.slice none 0 0) [] rfl (Inp.ownFlds_nil _ _) wr.heap.size ⟨-1, ts⟩ ta ts.length tc rfl LB.out OS.out (by simp) LS.out ?_
        intro v' wA hown hgr
        have hB := belowg hgr
        have OA := Lib.hid hown
        obtain ⟨v7, k7, rfl⟩ := hown.form
        have YA := Lib.hid (blk YS.out hB)
        have ZA := Lib.hid (blk ZS.out hB)
        have KA := kept_hid KS hB
        clear hown hgr hB OS YS ZS KS LS LB z0 z1 z2 f0 f1 f2 c0 c1 c2 c3 c4 c5
        obtain ⟨z0, z1, z2⟩ := cells3 ZA.out
        obtain ⟨f0, f1, f2⟩ := free3 ZA.out
        go_upto_region 13 with (fail)
        have G7 := gsetCell wA g5 2 (.slice v7 1 k7)
        have Z7 := Lib.hid (heap_setCell_same wA g5 2 _ 46 (.slice v7 1 k7) ZA.out)
        have Y7 := Lib.hid (blk_g YA.out G7 (by intro e; injection e with e; have := L2.out; omega))
        have O7 := Lib.hid (OA.out.other G7 (Nat.lt_succ_self _))
        have K7 := Lib.hid (KA.out.grown G7 KA.out.size (by intro g hg; injection hg with hg; have := L2.out; omega))
        clear G7 OA YA ZA KA z0 z1 z2 f0 f1 f2
        generalize World.setCell wA _ _ = w7 at *
        obtain ⟨z0, z1, z2⟩ := cells3 Z7.out
        obtain ⟨y0, y1, y2⟩ := cells3 Y7.out
        obtain ⟨f0, f1, f2⟩ := free3 Y7.out
        go_wp2_with fail
        clear z0 z1 z2 y0 y1 y2 f0 f1 f2
        have SF := Lib.hid (over3 w7 (w.heap.size + 1) 46 _ _ _ (.int .u8 (c : Int)) (.int .i64 s.cur) (.slice v7 1 k7) Y7.out)
        generalize ((w7.setCell _ _).setCell _ _).setCell _ _ = w9 at *
        refine bodyPost_ret (v := .agg #[.int .u8 (c : Int), .int .i64 s.cur, .slice v7 1 k7]) (results_cell_row rfl _ _ (w.heap.size + 1) 46 _ (0, 0) _ rfl SF.out.1 Tryz.underlying46 rfl (by kernel_rfl)) rfl ?_
        show GaveI w w9 ⟨c, s.cur, alone s.cs⟩ _
        rw [HAL.out]
        exact ⟨v7, k7, rfl, flds_mono (O7.out.other SF.out.2 (show w.heap.size + 1 < g5 + 1 by have := L2.out; omega)) (show w.heap.size ≤ g5 + 1 by have := L2.out; omega), K7.out.grown SF.out.2 K7.out.size (by intro g hg; injection hg with hg; omega)⟩
set_option maxRecDepth 100000 in
set_option maxHeartbeats 8000000 in
theorem rmodified_fields (s : S) (ad : Option Addr) (k c : Nat) (w : World) (h : CelsIn w (.slice ad s.cs.length k) s.cs) (hz : 0 < s.cs.length) (hl : s.cs.length < 10000) (h8 : Sound s.cs) (hc : c < 256) (hb : Att.bare c = false) (hf : fmt s.cs = true) :
    Calls Tryz.prog 15 #[.agg #[.int .i64 s.rows, .int .i64 s.cols, .slice ad s.cs.length k, .int .i64 s.cur, .bool s.lk, .bool s.ins], .int .u8 (c : Int)] w fun e w' => GaveI w w' (⟨c, s.cur, (modBs s.cs).map (fieldOf s.cs)⟩) e := by
  have HFM := Lib.hid fun W (hb : Below w.heap.size w W) => rfmt_any s ad k W (h.below (hb)) hz (show s.cs.length < 100000000 by omega)
  have HCL := Lib.hid fun W (hb : Below w.heap.size w W) q hq => rcells_any s ad k q W (h.below hb) hz (show s.cs.length < 100000000 by omega) hq
  have HNX := Lib.hid fun W q hq => rnext_any s.rows s.cols ad s.cs.length k s.cur s.lk s.ins q W hq (show s.cs.length < 100000000 by omega)
  have HCV := Lib.hid fun q (hq : q < s.cs.length) (hf : fat s.cs q = true) => (show cells s.cs q = cellsAt s.cs (q : Int) by unfold cells; rw [begin_self hq hf])
  have HCM := Lib.hid fun q (hq : q < s.cs.length) (hf : fat s.cs q = true) x (hx : x ∈ cellsAt s.cs (q : Int)) => (cellsAt_mem hq hf hx).1
  have HCN := Lib.hid fun q (hq : q < s.cs.length) (hf : fat s.cs q = true) => (show (cellsAt s.cs (q : Int)).length ≤ s.cs.length by rw [cells_len]; have := (clen_some hq hf).1; omega)
  rw [hf] at HFM
  have HL := Lib.hid hl
  have HZ := Lib.hid hz
  have HNE := Lib.hid (Scr.celsIn_lt h hz)
  have HBR := Lib.hid fun W => rbare_any c W hc
  rw [hb] at HBR
  have HB := Lib.hid (al_any w (.cells #[.int .i64 s.rows, .int .i64 s.cols, .slice ad s.cs.length k, .int .i64 s.cur, .bool s.lk, .bool s.ins] 24))
  have HX := Lib.hid (heap_alloc_new w (.cells #[.int .i64 s.rows, .int .i64 s.cols, .slice ad s.cs.length k, .int .i64 s.cur, .bool s.lk, .bool s.ins] 24))
  have HI := Lib.hid (h.below HB.out)
  have ES : (w.alloc (.cells #[.int .i64 s.rows, .int .i64 s.cols, .slice ad s.cs.length k, .int .i64 s.cur, .bool s.lk, .bool s.ins] 24)).heap.size = w.heap.size + 1 := by simp
  clear hc hb
  go_enter Tryz.func15, Tryz.ntmps15
  go_upto_region 1 with (fail)
  generalize w.alloc _ = w1 at *
  have HA := al_any w1 (.cells #[.int .u8 0, .int .i64 0, .slice none 0 0] 46)
  have X2 := Lib.hid (blk HX.out HA)
  have Y2 := Lib.hid (heap_alloc_new w1 (.cells #[.int .u8 0, .int .i64 0, .slice none 0 0] 46))
  rw [ES] at Y2
  have I2 := Lib.hid (HI.out.below HA)
  have K2 := kept_hid HB HA
  have L2 := Lib.hid (there_lt Y2.out)
  clear HA HX HI HB ES
  generalize w1.alloc _ = w2 at *
  go_wp2_with fail
  with_reducible refine (HBR.out _).mono ?_
  rintro e w3 ⟨rfl, rfl⟩
  obtain ⟨c0, c1, c2, c3, c4, c5⟩ := cells6 X2.out
  have HA := al_any w2 (.cells #[.int .u8 (c : Int), .int .i64 s.cur, .slice none 0 0] 46)
  have X3 := Lib.hid (blk X2.out HA)
  have Y3 := Lib.hid (blk Y2.out HA)
  have Z3 := Lib.hid (heap_alloc_new w2 (.cells #[.int .u8 (c : Int), .int .i64 s.cur, .slice none 0 0] 46))
  have I3 := Lib.hid (I2.out.below HA)
  have K3 := kept_hid K2 HA
  have L3 := Lib.hid (there_lt Z3.out)
  clear HA X2 Y2 I2 K2
  go_upto_region 4 with (fail)
  clear c0 c1 c2 c3 c4 c5
  generalize w2.alloc _ = w3 at *
  generalize w2.heap.size = g5 at *
  clear w2
  obtain ⟨c0, c1, c2, c3, c4, c5⟩ := cells6 X3.out
  go_wp2_with fail
  with_reducible refine (HFM.out _ K3.out).mono ?_
  rintro e w4 ⟨rfl, hb⟩
  have X4 := Lib.hid (blk X3.out hb)
  have Y4 := Lib.hid (blk Y3.out hb)
  have Z4 := Lib.hid (blk Z3.out hb)
  have I4 := Lib.hid (I3.out.below hb)
  have K4 := kept_hid K3 hb
  have L4 := Lib.hid (Nat.lt_of_lt_of_le L3.out hb.size)
  clear hb X3 Y3 Z3 I3 K3 L3 HFM HBR c0 c1 c2 c3 c4 c5
  go_wp2_with fail
  clear h hz hl h8
  go_loopg [8] (s.cs.length + 1) (fun mm ii wr => ∃ (q : Nat) (os : List Inp.F) (va : Option Addr) (vc : Nat), q ≤ s.cs.length ∧ mm = s.cs.length + 1 - q ∧ ii = .int .i64 q ∧ Hid (os = modsTo s.cs q) ∧ Hid (os.length ≤ q) ∧ Hid (Inp.OwnFlds wr (g5 + 1) (.slice va os.length vc) os) ∧ Hid (wr.heap[g5]? = some (.cells #[.int .u8 (c : Int), .int .i64 s.cur, .slice va os.length vc] 46 (0, 0))) ∧ Hid (wr.heap[w.heap.size]? = some (.cells #[.int .i64 s.rows, .int .i64 s.cols, .slice ad s.cs.length k, .int .i64 s.cur, .bool s.lk, .bool s.ins] 24 (0, 0))) ∧ Hid (wr.heap[w.heap.size + 1]? = some (.cells #[.int .u8 0, .int .i64 0, .slice none 0 0] 46 (0, 0))) ∧ Hid (CelsIn wr (.slice ad s.cs.length k) s.cs) ∧ Hid (Below w.heap.size w wr) ∧ Hid (g5 < wr.heap.size))
  case atStart => exact ⟨0, [], none, 0, Nat.zero_le _, rfl, rfl, Lib.hid rfl, Lib.hid (Nat.le_refl _), Lib.hid (Inp.ownFlds_nil _ _), Z4, X4, Y4, I4, K4, L4⟩
  case round =>
    obtain ⟨q, os, va, vc, hq, rfl, rfl, HOS, HOL, OF, ZR, XR, YR, IR, KR, LR⟩ := hrel
    clear Z4 X4 Y4 I4 K4 L4
    have ew : IntKind.i64.wrap ((q : Int) + 1) = (q : Int) + 1 := by
      have := HL.out
      rw [IntWalk.i64_in] <;> omega
    obtain ⟨c0, c1, c2, c3, c4, c5⟩ := cells6 XR.out
    by_cases hlt : q < s.cs.length
    · have HQ := Lib.hid hlt
      have hi0 : (0 : Int) ≤ (q : Int) := by omega
      have hi1 : (q : Int) < (s.cs.length : Int) := by omega
      obtain ⟨yf, yp, yn, ys, ym, yc, ey⟩ := c_eta (s.cs.getD q noC)
      obtain ⟨b1, o1, rfl, q0, q1, q2, q3, q4, q5⟩ := IR.out.cells hlt ey
      have HST := modsTo_step s.cs q
      have hfa : fat s.cs q = yf := by unfold fat; rw [ey]
      rw [hfa, ey, ← HOS.out] at HST
      by_cases hm : (yf && ym) = true
      · obtain ⟨rfl, rfl⟩ : yf = true ∧ ym = true := by simpa using hm
        have HSN := Lib.hid (show modsTo s.cs (q + 1) = os ++ [fieldOf s.cs q] from by rw [HST]; rfl)
        have HC := Lib.hid fun W hb => HCL.out W hb q hlt
        rw [HCV.out q hlt hfa] at HC
        have HM := Lib.hid (HCM.out q hlt hfa)
        have HLN := Lib.hid (HCN.out q hlt hfa)
        have HFO := Lib.hid (show fieldOf s.cs q = ⟨((on s.cs.length (q : Int) 1 : Nat) : Int), chars s.cs (cellsAt s.cs (q : Int))⟩ from rfl)
        have HN := Lib.hid fun W => HNX.out W q hlt
        clear HCL HCV HCM HCN HNX
        generalize fieldOf s.cs q = fo at *
        generalize on s.cs.length (q : Int) 1 = nx at *
        generalize cellsAt s.cs (q : Int) = L at *
        clear hlt hfa ey HST hm
        go_wp2_with fail
        with_reducible refine (HC.out _ KR.out).mono ?_
        rintro e w5 ⟨vL, rfl, hl5, hb⟩
        obtain ⟨vl, kl, rfl⟩ := hl5.form
        have V5 := Lib.hid hl5
        have O5 := Lib.hid (OF.out.below hb)
        have Z5 := Lib.hid (blk ZR.out hb)
        have X5 := Lib.hid (blk XR.out hb)
        have Y5 := Lib.hid (blk YR.out hb)
        have I5 := Lib.hid (IR.out.below hb)
        have K5 := kept_hid KR hb
        have L5 := Lib.hid (Nat.lt_of_lt_of_le LR.out hb.size)
        clear hb hl5 OF ZR XR YR IR KR LR HC q0 q1 q2 q3 q4 q5 c0 c1 c2 c3 c4 c5
        obtain ⟨c0, c1, c2, c3, c4, c5⟩ := cells6 X5.out
        go_wp2_with fail
        with_reducible refine (HN.out _).mono ?_
        rintro e w6 ⟨rfl, hb⟩
        have V6 := Lib.hid (OwnInts.below V5.out hb)
        have O6 := Lib.hid (O5.out.below hb)
        have Z6 := Lib.hid (blk Z5.out hb)
        have X6 := Lib.hid (blk X5.out hb)
        have Y6 := Lib.hid (blk Y5.out hb)
        have I6 := Lib.hid (I5.out.below hb)
        have K6 := kept_hid K5 hb
        have L6 := Lib.hid (Nat.lt_of_lt_of_le L5.out hb.size)
        clear hb V5 O5 Z5 X5 Y5 I5 K5 L5 HN c0 c1 c2 c3 c4 c5
        have B7 := Lib.hid (al_any w6 (.cells #[.int .i64 (nx : Int), .slice none 0 0] 67))
        have T7 := Lib.hid (heap_alloc_new w6 (.cells #[.int .i64 (nx : Int), .slice none 0 0] 67))
        have L7 := Lib.hid (there_lt T7.out)
        go_upto_region 20 with (fail)
        generalize w6.alloc _ = w7 at *
        go_wp2_with fail
        go_loopg [11] (L.length + 1) (fun m2 jj wz => ∃ (r : Nat) (ts : List Nat) (ta : Option Addr) (tc : Nat), r ≤ L.length ∧ m2 = L.length + 1 - r ∧ jj = .int .i64 r ∧ Hid (ts = chars s.cs (L.take r)) ∧ Hid (ts.length ≤ r) ∧ Hid (wz.ownsRow (w6.heap.size + 1) 5 1 (.slice ta ts.length tc) ts.length (u8s ts)) ∧ Hid (wz.heap[w6.heap.size]? = some (.cells #[.int .i64 (nx : Int), .slice ta ts.length tc] 67 (0, 0))) ∧ Hid (Below w6.heap.size w6 wz) ∧ Hid (w6.heap.size < wz.heap.size))
        case atStart => exact ⟨0, [], none, 0, Nat.zero_le _, rfl, rfl, Lib.hid rfl, Lib.hid (Nat.le_refl _), Lib.hid (own_no _ _), T7, B7, L7⟩
        case round =>
          clear B7 T7 L7
          obtain ⟨r, ts, ta, tc, hr, rfl, rfl, HTS, HTL, OT, TZ, KZ, LZ⟩ := hrel
          have ewr : IntKind.i64.wrap ((r : Int) + 1) = (r : Int) + 1 := by
            have := HL.out; have := HLN.out
            rw [IntWalk.i64_in] <;> omega
          have XZ := Lib.hid (blk X6.out KZ.out)
          have IZ := Lib.hid (I6.out.below KZ.out)
          have VZ := Lib.hid (OwnInts.below V6.out KZ.out)
          by_cases hrt : r < L.length
          · have HR := Lib.hid hrt
            have hpl := HM.out (L.getD r 0) (by rw [List.getD_eq_getElem?_getD, List.getElem?_eq_getElem hrt]; exact List.getElem_mem hrt)
            have HST2 := chars_step s.cs L hrt
            rw [← HTS.out] at HST2
            obtain ⟨u, e1, hu1, hu2, du, _⟩ := OwnInts.cell VZ.out hrt
            subst e1
            rw [Nat.zero_add] at du
            generalize L.getD r 0 = pl at *
            have hi0 : (0 : Int) ≤ (r : Int) := by omega
            have hi1 : (r : Int) < (L.length : Int) := by omega
            have hj0 : (0 : Int) ≤ (pl : Int) := by omega
            have hj1 : (pl : Int) < (s.cs.length : Int) := by omega
            obtain ⟨zf, zp, zn, zs, zm, zc, ez⟩ := c_eta (s.cs.getD pl noC)
            obtain ⟨b2, o2, had, q0, q1, q2, q3, q4, q5⟩ := IZ.out.cells hpl ez
            injection had with had
            injection had with ha1 ha2
            subst ha1 ha2
            rw [ez] at HST2
            obtain ⟨c0, c1, c2, c3, c4, c5⟩ := cells6 XZ.out
            obtain ⟨t0, t1⟩ := cellsP TZ.out
            have ft := (free3 TZ.out).2.1
            have HD := (Below.refl wr.heap.size wr).drew
            have TD := Lib.hid (blk TZ.out HD)
            have OD := Lib.hid (own_below OT.out HD)
            have KD := kept_hid KZ HD
            have LD := Lib.hid (Nat.lt_of_lt_of_le LZ.out HD.size)
            by_cases h0 : zc = 0
            · subst h0
              have HSR := Lib.hid (show ts = chars s.cs (L.take (r + 1)) from by rw [HST2, if_neg (by simp)])
              clear HST2 ez hpl HTS HD
              go_upto_region 23 with (fail)
              go_region
              clear q0 q1 q2 q3 q4 q5 c0 c1 c2 c3 c4 c5 t0 t1 ft du
              generalize wr.drew = wd at *
              go_wp2_with fail
              go_roundg (L.length + 1 - (r + 1))
              case measure => have := HR.out; omega
              case rel => exact ⟨r + 1, ts, ta, tc, HR.out, rfl, by first | rfl | go_num, HSR, Lib.hid (Nat.le_succ_of_le HTL.out), OD, TD, KD, LD⟩
            · have hz0 : ((zc : Int) != 0) = true := by simp; omega
              have HSR := Lib.hid (show ts ++ [zc] = chars s.cs (L.take (r + 1)) from by rw [HST2, if_pos (by simpa using h0)])
              clear HST2 ez hpl HTS h0
              have XD := Lib.hid (blk XZ.out HD)
              have ID := Lib.hid (IZ.out.below HD)
              have VD := Lib.hid (OwnInts.below VZ.out HD)
              have q5' : wr.drew.cell? ⟨b1, o1 + pl * 6 + 5, none⟩ = some (.int .u8 (zc : Int)) := q5
              have du' : wr.drew.cell? ⟨u, r, none⟩ = some (.int .i64 (pl : Int)) := du
              go_upto_region 23 with (fail)
              go_region
              clear q0 q1 q2 q3 q4 q5 c0 c1 c2 c3 c4 c5 t0 t1 ft du
              generalize wr.drew = wd at *
              obtain ⟨c0, c1, c2, c3, c4, c5⟩ := cells6 XD.out
              obtain ⟨t0, t1⟩ := cellsP TD.out
              have ft := (free3 TD.out).2.1
              go_upto_region 24 with (fail)
              have HW : Below wd.heap.size wd (wd.alloc (.cells #[.int .u8 (zc : Int)] 5)).drew := (al_any wd (.cells #[.int .u8 (zc : Int)] 5)).drew
              have OW := Lib.hid (own_below OD.out HW)
              have BW := Lib.hid (show BytesIn (wd.alloc (.cells #[.int .u8 (zc : Int)] 5)).drew (.slice (some ⟨wd.heap.size, 0, none⟩) 1 1) [zc] from bytes_below (lit_in wd [zc]) (Below.refl _ _).drew)
              have SW := Lib.hid (show w6.heap.size + 1 ≤ (wd.alloc (.cells #[.int .u8 (zc : Int)] 5)).drew.heap.size from Nat.le_trans LD.out HW.size)
              have TW := Lib.hid (blk TD.out HW)
              have KW := kept_hid KD HW
              have HG := Lib.hid (own_ge OD.out)
              have h63 : ts.length + 1 < 1000000 := by have := HTL.out; have := HR.out; have := HLN.out; have := HL.out; omega
              have tw : (wd.alloc (.cells #[.int .u8 (zc : Int)] 5)).cell? ⟨w6.heap.size, 1, none⟩ = _ := (cellsP (blk TD.out (al_any wd (.cells #[.int .u8 (zc : Int)] 5)))).2
              clear HD HW XZ IZ VZ OT TZ KZ LZ
              go_region_law (refine Inp.step_app8 rfl (.tmp 105) (.tmp 115) rfl (w6.heap.size + 1) ts.length (u8s ts) (.slice ta ts.length tc) rfl OW.out ⟨_, 0, none⟩ 1 1 [zc] rfl rfl BW.out h63 SW.out ?_; intro v5 w5 hown5 hgr5; have TT := blk_g TW.out hgr5 (by intro e; have := HG.out _ e.symm; omega); have tt1 := (cellsP TT).2; have tt2 := (free3 TT).2.1; obtain ⟨v7, k7, rfl⟩ := own_form hown5)
              all_goals
                clear tt1 tt2 tw c0 c1 c2 c3 c4 c5 t0 t1 ft du' q5'
                have G7 := gsetCell w5 w6.heap.size 1 (.slice v7 (ts.length + 1) k7)
                have T8 := Lib.hid (heap_setCell_same w5 w6.heap.size 1 _ 67 (.slice v7 (ts.length + 1) k7) TT)
                have O8 := Lib.hid (show World.ownsRow _ (w6.heap.size + 1) 5 1 (.slice v7 (ts ++ [zc]).length k7) (ts ++ [zc]).length (u8s (ts ++ [zc])) from by
                  rw [List.length_append]
                  have e : u8s (ts ++ [zc]) = u8s ts ++ u8s [zc] := by simp [u8s]
                  rw [e]
                  exact own_other hown5 G7 (Nat.lt_succ_self _))
                have K7 := KW.out.grown hgr5 KW.out.size (fun g hg => by have := HG.out _ hg; omega)
                have L7 := Nat.lt_of_lt_of_le (Nat.lt_of_succ_le SW.out) hgr5.size
                have K8 := Lib.hid (K7.grown G7 K7.size (fun g hg => by injection hg with hg; omega))
                have L8 := Lib.hid (Nat.lt_of_lt_of_le L7 G7.size)
                clear G7 K7 L7 TT hown5 hgr5 OW BW SW TW KW HG h63 XD ID VD OD TD KD LD
                generalize World.setCell w5 _ _ = w8 at *
                go_wp2_with fail
                go_roundg (L.length + 1 - (r + 1))
                case measure => have := HR.out; omega
                case rel => exact ⟨r + 1, ts ++ [zc], v7, k7, HR.out, rfl, by first | rfl | go_num, HSR, Lib.hid (by rw [List.length_append]; have := HTL.out; simp only [List.length_cons, List.length_nil]; omega), O8, by rw [List.length_append]; exact T8, K8, L8⟩
          · obtain rfl : r = L.length := by omega
            have hn0 : ¬ (L.length : Int) < (L.length : Int) := by omega
            rw [List.take_length] at HTS
            have HSE := Lib.hid (show os ++ [⟨(nx : Int), ts⟩] = modsTo s.cs (q + 1) from by rw [HSN.out, HFO.out, ← HTS.out])
            have ZZ := Lib.hid (blk Z6.out KZ.out)
            have YZ := Lib.hid (blk Y6.out KZ.out)
            have OZ := Lib.hid (O6.out.below KZ.out)
            have KQ := kept_hid K6 KZ.out
            have LQ := Lib.hid (show g5 + 1 ≤ wr.heap.size from by have := L6.out; have := LZ.out; omega)
            obtain ⟨z0, z1, z2⟩ := cells3 ZZ.out
            obtain ⟨f0, f1, f2⟩ := free3 ZZ.out
            obtain ⟨t0, t1⟩ := cellsP TZ.out
            have HA := al_any wr (.cells (Inp.fcells ⟨(nx : Int), ts⟩ (.slice ta ts.length tc)).toArray 67)
            have LB := Lib.hid (heap_alloc_new wr (.cells (Inp.fcells ⟨(nx : Int), ts⟩ (.slice ta ts.length tc)).toArray 67))
            have OS := Lib.hid (own_mono (own_below OT.out HA) (show g5 + 1 ≤ w6.heap.size + 1 from by have := L6.out; omega))
            have OSF := Lib.hid (OZ.out.below HA)
            have XS := Lib.hid (blk XZ.out HA)
            have YS := Lib.hid (blk YZ.out HA)
            have ZS := Lib.hid (blk ZZ.out HA)
            have IS := Lib.hid (IZ.out.below HA)
            have KS := kept_hid KQ HA
            have LS := Lib.hid (Nat.le_trans LQ.out HA.size)
            have HOB := Lib.hid (show os.length < 1000000000 from by have := HOL.out; have := HQ.out; have := HL.out; omega)
            clear HA OT OZ XZ YZ ZZ IZ VZ TZ KZ LZ KQ LQ hrt hr
            go_wp2_with (at_builtin; refine wpList_mark ?_)
            refine Lib.hid ?_
            refine Inp.append_fld rfl (.tmp 119) (.tmp 121) rfl (g5 + 1) (.slice va os.length vc) os rfl OSF.out wr.heap.size ⟨(nx : Int), ts⟩ ta ts.length tc rfl LB.out OS.out HOB.out LS.out ?_
            intro v' wA hown hgr
            have HG := Lib.hid (flds_ge OSF.out)
            have OA := Lib.hid hown
            have XA := Lib.hid (blk_g XS.out hgr (fun e => by have := HG.out _ e.symm; have := L2.out; omega))
            have YA := Lib.hid (blk_g YS.out hgr (fun e => by have := HG.out _ e.symm; have := L2.out; omega))
            have ZA := Lib.hid (blk_g ZS.out hgr (fun e => by have := HG.out _ e.symm; omega))
            have IA := Lib.hid (celsIn_grown_ IS.out (fun x hx => by have := HNE.out x hx; have := L2.out; omega) hgr HG.out)
            have KA := Lib.hid (KS.out.grown hgr KS.out.size (fun g hg => by have := HG.out _ hg; have := L2.out; omega))
            have LA := Lib.hid (Nat.le_trans LS.out hgr.size)
            obtain ⟨v7, k7, rfl⟩ := hown.form
            clear hown hgr OS OSF XS YS ZS IS KS LS LB HG z0 z1 z2 f0 f1 f2 t0 t1
            obtain ⟨z0, z1, z2⟩ := cells3 ZA.out
            obtain ⟨f0, f1, f2⟩ := free3 ZA.out
            have hle : (os ++ [⟨(nx : Int), ts⟩] : List Inp.F).length = os.length + 1 := by simp
            rw [hle] at OA ⊢
            go_upto_region 16 with (fail)
            have G7 := gsetCell wA g5 2 (.slice v7 (os.length + 1) k7)
            have Z7 := Lib.hid (heap_setCell_same wA g5 2 _ 46 (.slice v7 (os.length + 1) k7) ZA.out)
            have X7 := Lib.hid (blk_g XA.out G7 (by intro e; injection e with e; have := L2.out; omega))
            have Y7 := Lib.hid (blk_g YA.out G7 (by intro e; injection e with e; have := L2.out; omega))
            have O7 := Lib.hid (OA.out.other G7 (Nat.lt_succ_self _))
            have I7 := Lib.hid (Scr.celsIn_away IA.out G7 (fun x hx => by have := HNE.out x hx; have := L2.out; omega))
            have K7 := Lib.hid (KA.out.grown G7 KA.out.size (by intro g hg; injection hg with hg; have := L2.out; omega))
            have L7 := Lib.hid (show g5 < _ from Nat.lt_of_lt_of_le LA.out G7.size)
            clear G7 OA XA YA ZA IA KA LA z0 z1 z2 f0 f1 f2
            generalize World.setCell wA _ _ = w9 at *
            go_wp2_with fail
            go_roundg (s.cs.length + 1 - (q + 1))
            case measure => have := HQ.out; omega
            case rel => exact ⟨q + 1, os ++ [⟨(nx : Int), ts⟩], v7, k7, HQ.out, rfl, by first | rfl | go_num, HSE, Lib.hid (by rw [hle]; have := HOL.out; omega), by rw [hle]; exact O7, by rw [hle]; exact Z7, X7, Y7, I7, K7, L7⟩
      · have HSN := Lib.hid (show modsTo s.cs (q + 1) = os from by rw [HST, if_neg hm])
        clear HST hfa ey
        cases yf with
        | false =>
          clear hlt hq
          go_wp2_with fail
          go_roundg (s.cs.length + 1 - (q + 1))
          case measure => have := HQ.out; omega
          case rel => exact ⟨q + 1, os, va, vc, HQ.out, rfl, by first | rfl | go_num, Lib.hid HSN.out.symm, Lib.hid (Nat.le_succ_of_le HOL.out), OF, ZR, XR, YR, IR, KR, LR⟩
        | true =>
          cases ym with
          | true => exact absurd rfl hm
          | false =>
            clear hlt hq
            go_wp2_with fail
            go_roundg (s.cs.length + 1 - (q + 1))
            case measure => have := HQ.out; omega
            case rel => exact ⟨q + 1, os, va, vc, HQ.out, rfl, by first | rfl | go_num, Lib.hid HSN.out.symm, Lib.hid (Nat.le_succ_of_le HOL.out), OF, ZR, XR, YR, IR, KR, LR⟩
    · obtain rfl : q = s.cs.length := by omega
      have hn0 : ¬ (s.cs.length : Int) < (s.cs.length : Int) := by omega
      rw [modsTo_all] at HOS
      clear hlt hq
      obtain ⟨z0, z1, z2⟩ := cells3 ZR.out
      obtain ⟨y0, y1, y2⟩ := cells3 YR.out
      obtain ⟨f0, f1, f2⟩ := free3 YR.out
      go_wp2_with fail
      clear z0 z1 z2 y0 y1 y2 f0 f1 f2
      have SF := Lib.hid (over3 wr (w.heap.size + 1) 46 _ _ _ (.int .u8 (c : Int)) (.int .i64 s.cur) (.slice va os.length vc) YR.out)
      generalize ((wr.setCell _ _).setCell _ _).setCell _ _ = w9 at *
      refine bodyPost_ret (v := .agg #[.int .u8 (c : Int), .int .i64 s.cur, .slice va os.length vc]) (results_cell_row rfl _ _ (w.heap.size + 1) 46 _ (0, 0) _ rfl SF.out.1 Tryz.underlying46 rfl (by kernel_rfl)) rfl ?_
      show GaveI w w9 ⟨c, s.cur, (modBs s.cs).map (fieldOf s.cs)⟩ _
      rw [← HOS.out]
      exact ⟨va, vc, rfl, flds_mono (OF.out.other SF.out.2 (show w.heap.size + 1 < g5 + 1 by have := L2.out; omega)) (show w.heap.size ≤ g5 + 1 by have := L2.out; omega), KR.out.grown SF.out.2 KR.out.size (by intro g hg; injection hg with hg; omega)⟩
theorem rmodified_any (s : S) (ad : Option Addr) (k c : Nat) (w : World) (h : CelsIn w (.slice ad s.cs.length k) s.cs) (hz : 0 < s.cs.length) (hl : s.cs.length < 10000) (h8 : Sound s.cs) (hc : c < 256) :
    Calls Tryz.prog 15 #[.agg #[.int .i64 s.rows, .int .i64 s.cols, .slice ad s.cs.length k, .int .i64 s.cur, .bool s.lk, .bool s.ins], .int .u8 (c : Int)] w fun e w' => GaveI w w' (modified s c) e := by
  cases hb : Att.bare c with
  | true => exact rmodified_bare s ad k c w h hz hl h8 hc hb
  | false =>
    cases hf : fmt s.cs with
    | true =>
      have e : modified s c = ⟨c, s.cur, (modBs s.cs).map (fieldOf s.cs)⟩ := by unfold modified; rw [hb, hf]; rfl
      rw [e]
      exact rmodified_fields s ad k c w h hz hl h8 hc hb hf
    | false =>
      have e : modified s c = ⟨c, s.cur, alone s.cs⟩ := by unfold modified; rw [hb, hf]; rfl
      rw [e]
      exact rmodified_alone s ad k c w h hz hl h8 hc hb hf
end Red
end Go.Proofs.YtpdlpmbjhopnnaaGreatDoor
