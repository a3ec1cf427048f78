/- Image, by the code. Written by tools/gen_red_landed.py. -/
import Derived.Test.YtpdlpmbjhopnnaaDoorRedCell
import Derived.Test.YtpdlpmbjhopnnaaDoorRedGave
import Derived.Test.YtpdlpmbjhopnnaaDoorBunScr
import Derived.Deep.Cut
import Derived.Deep.LoopGhost
import Derived.Deep.RegionLaw
import Derived.Deep.RegionHeld3
import Derived.IntWalk
namespace Go.Proofs.YtpdlpmbjhopnnaaDoor
open Go.RowKit Sha Six Apd Cut Err Att Grd Fld
set_option linter.unusedVariables false
namespace Red
set_option maxRecDepth 100000 in
set_option maxHeartbeats 8000000 in
theorem image_any (s : S) (ad : Option Addr) (k : Nat) (w : World) (h : CelsIn w (.slice ad s.cs.length k) s.cs) (hz : 0 < s.cs.length) (hl : s.cs.length < 10000) (hr : sright s = true) :
    Calls Tryd.prog 15 #[.agg #[.int .i64 s.rows, .int .i64 s.cols, .slice ad s.cs.length k, .int .i64 s.cur, .bool s.lk, .bool s.ins]] w fun e w' => GaveO w w' (image s) e := by
  have HCN := Lib.hid (show 0 ≤ s.cur from (sright_parts hr).2.2.1)
  have HL := Lib.hid hl
  have HNE := Lib.hid (Scr.celsIn_lt h hz)
  have HB := Lib.hid (al_any w (.cells #[.int .i64 s.rows, .int .i64 s.cols, .slice ad s.cs.length k, .int .i64 s.cur, .bool s.lk, .bool s.ins] 24))
  have HX := Lib.hid (heap_alloc_new w (.cells #[.int .i64 s.rows, .int .i64 s.cols, .slice ad s.cs.length k, .int .i64 s.cur, .bool s.lk, .bool s.ins] 24))
  have HI := Lib.hid (h.below HB.out)
  have HIM := Lib.hid (show image s = setO 0 :: (runs [] s.cs ++ ((if 0 < s.cur then [setO s.cur] else []) ++ [curO])) from rfl)
  generalize image s = im at *
  clear h hl hr
  go_enter Tryd.func15, Tryd.ntmps15
  go_upto_region 1 with (fail)
  generalize w.alloc _ = w1 at *
  have HX1 := Lib.hid (there_lt HX.out)
  have HA := al_any w1 (.cells #[.int .i64 3, .slice none 0 0, .bool false, .bool false, .int .i64 0, .bool false, .int .i64 0, .int .u8 0] 51)
  have O2 := Lib.hid (show Last (w1.alloc (.cells #[.int .i64 3, .slice none 0 0, .bool false, .bool false, .int .i64 0, .bool false, .int .i64 0, .int .u8 0] 51)) (w.heap.size + 1) (w.heap.size + 1) (.slice (some ⟨w1.heap.size, 0, none⟩) 1 1) [] (setO 0) none 0 0 from last_lit w1 (setO 0) rfl (w.heap.size + 1) HX1.out)
  have X2 := Lib.hid (blk HX.out HA)
  have I2 := Lib.hid (HI.out.below HA)
  have K2 := kept_hid HB HA
  clear HA HX HI HB
  go_upto_region 2 with (fail)
  generalize w1.heap.size = g1 at *
  generalize w1.alloc _ = w2 at *
  obtain ⟨c0, c1, c2, c3, c4, c5⟩ := cells6 X2.out
  go_wp2_with fail
  clear c0 c1 c2 c3 c4 c5
  go_loopg [3, 11] (s.cs.length + 1) (fun mm vv ii wr => ∃ (r : Nat) (os : List Go.Proofs.YtpdlpmbjhopnnaaDoor.Ord.O) (q : Go.Proofs.YtpdlpmbjhopnnaaDoor.Ord.O) (g vc M : Nat) (ta : Option Addr) (tn tc : Nat), r ≤ s.cs.length ∧ mm = s.cs.length + 1 - r ∧ ii = .int .i64 r ∧ vv = .slice (some ⟨g, 0, none⟩) (os.length + 1) vc ∧ Hid (Last wr (w.heap.size + 1) M (.slice (some ⟨g, 0, none⟩) (os.length + 1) vc) os q ta tn tc) ∧ Hid (Laid s.cs r os q) ∧ Hid (os.length ≤ r) ∧ Hid (q.t.length ≤ r) ∧ Hid (wr.heap[w.heap.size]? = some (.cells #[.int .i64 s.rows, .int .i64 s.cols, .slice ad s.cs.length k, .int .i64 s.cur, .bool s.lk, .bool s.ins] 24 (0, 0))) ∧ Hid (CelsIn wr (.slice ad s.cs.length k) s.cs) ∧ Hid (Below w.heap.size w wr))
  case atStart => exact ⟨0, [], setO 0, g1, 1, w.heap.size + 1, none, 0, 0, Nat.zero_le _, rfl, rfl, rfl, O2, Lib.hid (laid_zero _), Lib.hid (Nat.le_refl _), Lib.hid (Nat.le_refl _), X2, I2, K2⟩
  case round =>
    obtain ⟨r, os, q, g, vc, M, ta, tn, tc, hq, rfl, rfl, rfl, OR, HLA, HO, HQT, XR, IR, KR⟩ := hrel
    clear O2 X2 I2 K2
    have ew : IntKind.i64.wrap ((r : Int) + 1) = (r : Int) + 1 := by
      have := HL.out
      rw [IntWalk.i64_in] <;> omega
    by_cases hlt : r < s.cs.length
    · have HQ := Lib.hid hlt
      have hi0 : (0 : Int) ≤ (r : Int) := by omega
      have hi1 : (r : Int) < (s.cs.length : Int) := by omega
      obtain ⟨yf, yp, yn, ys, ym, yc, ey⟩ := c_eta (s.cs.getD r noC)
      obtain ⟨b1, o1, had, g0, g1, g2, g3, g4, g5⟩ := IR.out.cells hlt ey
      have HA := al_any wr (.cells #[.bool yf, .bool yp, .bool yn, .int .i64 ys, .bool ym, .int .u8 (yc : Int)] 57)
      have LA := Lib.hid (OR.out.below HA)
      have CA := Lib.hid (heap_alloc_new wr (.cells #[.bool yf, .bool yp, .bool yn, .int .i64 ys, .bool ym, .int .u8 (yc : Int)] 57))
      have XA := Lib.hid (blk XR.out HA)
      have IA := Lib.hid (IR.out.below HA)
      have KA := kept_hid KR HA
      have HBN := Lib.hid (Nat.le_trans OR.out.room.1 (Nat.le_trans OR.out.room.2.1 HA.size))
      have HON := Lib.hid (show os.length < 1000000 from by have := HO.out; have := HQ.out; have := HL.out; omega)
      clear HA OR XR IR KR
      subst had
      go_upto_region 5 with (fail)
      clear g0 g1 g2 g3 g4 g5
      generalize wr.heap.size = cb at *
      generalize wr.alloc _ = wa at *
      obtain ⟨c0, c1, c2, c3, c4, c5⟩ := cells6 CA.out
      cases yf with
      | true =>
        have hfa : fat s.cs r = true := by unfold fat; rw [ey]
        have HC := Lib.hid (cell_field os q yp yn ys ym yc g vc (w.heap.size + 1) M ta tn tc wa LA.out HON.out)
        simp only [GaveL] at HC
        go_wp2_with fail
        with_reducible refine HC.out.mono ?_
        rintro e wz ⟨g7, k7, M7, ta7, tn7, tc7, rfl, hL7, hb⟩
        have L7 := Lib.hid hL7
        have X7 := Lib.hid (blk_b XA.out (Nat.lt_succ_self _) hb)
        have I7 := Lib.hid (celsIn_b IA.out (fun x hx => Nat.lt_succ_of_lt (HNE.out x hx)) hb)
        have K7 := Lib.hid (KA.out.trans (hb.mono (Nat.le_succ _)))
        have HLN := Lib.hid (show Laid s.cs (r + 1) (os ++ [q]) (startO ⟨true, yp, yn, ys, ym, yc⟩) from by have := laid_field HLA.out hlt hfa; rw [ey] at this; exact this)
        clear hb hL7 HC c0 c1 c2 c3 c4 c5 LA XA IA KA CA hlt hq
        go_wp2_with fail
        go_roundg (s.cs.length + 1 - (r + 1))
        case measure => have := HQ.out; omega
        case rel => exact ⟨r + 1, os ++ [q], startO ⟨true, yp, yn, ys, ym, yc⟩, g7, k7, M7, ta7, tn7, tc7, HQ.out, rfl, by first | rfl | go_num, by first | rfl | simp, L7, HLN, Lib.hid (by rw [List.length_append]; have := HO.out; simp only [List.length_cons, List.length_nil]; omega), Lib.hid (by exact Nat.zero_le _), X7, I7, K7⟩
      | false =>
        have hfa : fat s.cs r = false := by unfold fat; rw [ey]
        by_cases hk : q.k = 1
        · obtain ⟨t, rfl, hlm⟩ := laid_more HLA.out hlt hfa hk
          rw [ey] at hlm
          have HC := Lib.hid (cell_more os (textO t) yp yn ys ym yc g vc (w.heap.size + 1) M ta tn tc wa LA.out HON.out t rfl (by have h1 : t.length ≤ r := HQT.out; have := HL.out; have := HQ.out; omega))
          simp only [GaveL] at HC
          go_wp2_with fail
          with_reducible refine HC.out.mono ?_
          rintro e wz ⟨g7, k7, M7, ta7, tn7, tc7, rfl, hL7, hb⟩
          have L7 := Lib.hid hL7
          have X7 := Lib.hid (blk_b XA.out (Nat.lt_succ_self _) hb)
          have I7 := Lib.hid (celsIn_b IA.out (fun x hx => Nat.lt_succ_of_lt (HNE.out x hx)) hb)
          have K7 := Lib.hid (KA.out.trans (hb.mono (Nat.le_succ _)))
          have HLN := Lib.hid (hlm)
          clear hb hL7 HC c0 c1 c2 c3 c4 c5 LA XA IA KA CA hlt hq
          go_wp2_with fail
          go_roundg (s.cs.length + 1 - (r + 1))
          case measure => have := HQ.out; omega
          case rel => exact ⟨r + 1, os, textO (t ++ [yc]), g7, k7, M7, ta7, tn7, tc7, HQ.out, rfl, by first | rfl | go_num, by first | rfl | simp, L7, HLN, Lib.hid (by exact Nat.le_succ_of_le HO.out), Lib.hid (by show (t ++ [yc]).length ≤ r + 1; rw [List.length_append]; have : t.length ≤ r := HQT.out; simp only [List.length_cons, List.length_nil]; omega), X7, I7, K7⟩
        · have hlm := laid_new HLA.out hlt hfa hk
          rw [ey] at hlm
          have HC := Lib.hid (cell_new os q yp yn ys ym yc g vc (w.heap.size + 1) M ta tn tc wa LA.out HON.out hk)
          simp only [GaveL] at HC
          go_wp2_with fail
          with_reducible refine HC.out.mono ?_
          rintro e wz ⟨g7, k7, M7, ta7, tn7, tc7, rfl, hL7, hb⟩
          have L7 := Lib.hid hL7
          have X7 := Lib.hid (blk_b XA.out (Nat.lt_succ_self _) hb)
          have I7 := Lib.hid (celsIn_b IA.out (fun x hx => Nat.lt_succ_of_lt (HNE.out x hx)) hb)
          have K7 := Lib.hid (KA.out.trans (hb.mono (Nat.le_succ _)))
          have HLN := Lib.hid (hlm)
          clear hb hL7 HC c0 c1 c2 c3 c4 c5 LA XA IA KA CA hlt hq
          go_wp2_with fail
          go_roundg (s.cs.length + 1 - (r + 1))
          case measure => have := HQ.out; omega
          case rel => exact ⟨r + 1, os ++ [q], textO [yc], g7, k7, M7, ta7, tn7, tc7, HQ.out, rfl, by first | rfl | go_num, by first | rfl | simp, L7, HLN, Lib.hid (by rw [List.length_append]; have := HO.out; simp only [List.length_cons, List.length_nil]; omega), Lib.hid (by show [yc].length ≤ r + 1; simp), X7, I7, K7⟩
    · obtain rfl : r = s.cs.length := by omega
      have hn0 : ¬ (s.cs.length : Int) < (s.cs.length : Int) := by omega
      have HRE := Lib.hid (laid_end HLA.out)
      have OE := Lib.hid OR.out.to
      have LR := Lib.hid (Nat.le_trans OR.out.room.1 OR.out.room.2.1)
      have hle : os.length + 1 = (os ++ [q]).length := by simp
      rw [hle] at OE
      have HOL := Lib.hid (show (os ++ [q]).length < 100000 from by rw [← hle]; have := HO.out; have := HL.out; omega)
      rw [hle]
      clear OR HLA HO HQT hlt hq hle
      generalize os ++ [q] = os at *
      obtain ⟨c0, c1, c2, c3, c4, c5⟩ := cells6 XR.out
      by_cases hc : 0 < s.cur
      · have HCU := Lib.hid hc
        have hcn : (s.cur != 0) = true := by simp; omega
        have HA := al_any wr (.cells #[.int .i64 3, .slice none 0 0, .bool false, .bool false, .int .i64 0, .bool false, .int .i64 s.cur, .int .u8 0] 51)
        have KS := kept_hid KR HA
        have LS := Lib.hid (Nat.le_trans LR.out HA.size)
        have OS := Lib.hid (Str.OwnOrds.below OE.out HA)
        have LB := Lib.hid (heap_alloc_new wr (.cells #[.int .i64 3, .slice none 0 0, .bool false, .bool false, .int .i64 0, .bool false, .int .i64 s.cur, .int .u8 0] 51))
        clear HA OE
        go_wp2_with (at_builtin; refine wpList_mark ?_)
        refine Lib.hid ?_
        refine Str.append_ord rfl (.tmp 22) (.tmp 26) rfl (w.heap.size + 1) (.slice (some ⟨g, 0, none⟩) os.length vc) os rfl OS.out wr.heap.size (setO s.cur) none 0 0 rfl LB.out (own_no _ _) (by have := HOL.out; omega) LS.out ?_
        intro v' wA hown hgr
        have HG := Lib.hid (ords_ge OS.out)
        have OA := Lib.hid hown
        have KA := Lib.hid (KS.out.grown hgr KS.out.size (fun g hg => by have := HG.out _ hg; omega))
        have LA := Lib.hid (Nat.le_trans LS.out hgr.size)
        obtain ⟨v7, k7, rfl⟩ := hown.form
        have HEQ := Lib.hid (show im = (os ++ [setO s.cur]) ++ [curO] from by rw [HIM.out, HRE.out, if_pos HCU.out]; simp)
        clear hown hgr OS KS LS LB HG c0 c1 c2 c3 c4 c5 hc hcn
        generalize hos : os ++ [setO s.cur] = os2 at *
        have HOL2 := Lib.hid (show os2.length < 1000000000 from by rw [← hos, List.length_append]; have := HOL.out; simp only [List.length_cons, List.length_nil]; omega)
        clear hos
        have HA := al_any wA (.cells #[.int .i64 4, .slice none 0 0, .bool false, .bool false, .int .i64 0, .bool false, .int .i64 0, .int .u8 0] 51)
        have KS := kept_hid KA HA
        have LS := Lib.hid (Nat.le_trans LA.out HA.size)
        have OS := Lib.hid (Str.OwnOrds.below OA.out HA)
        have LB := Lib.hid (heap_alloc_new wA (.cells #[.int .i64 4, .slice none 0 0, .bool false, .bool false, .int .i64 0, .bool false, .int .i64 0, .int .u8 0] 51))
        clear HA
        go_wp2_with (at_builtin; refine wpList_mark ?_)
        refine Lib.hid ?_
        refine Str.append_ord rfl (.tmp 28) (.tmp 30) rfl (w.heap.size + 1) (.slice v7 os2.length k7) os2 rfl OS.out wA.heap.size curO none 0 0 rfl LB.out (own_no _ _) HOL2.out LS.out ?_
        intro v' wB hown hgr
        have HG := Lib.hid (ords_ge OS.out)
        have OA := Lib.hid (ords_mono hown (Nat.le_succ _))
        have KB := Lib.hid (KS.out.grown hgr KS.out.size (fun g hg => by have := HG.out _ hg; omega))
        obtain ⟨v8, k8, rfl⟩ := hown.form
        rw [← HEQ.out] at OA
        have hle : (os2 ++ [curO]).length = im.length := by rw [HEQ.out]
        clear hown hgr OS KS LS LB HG
        go_wp2_with fail
        go_ret
        exact ⟨v8, k8, by rw [← hle]; first | rfl | simp, OA.out, KB.out⟩
      · have hcn : (s.cur != 0) = false := by have := HCN.out; simp; omega
        have hi : im = os ++ [curO] := by rw [HIM.out, HRE.out, if_neg hc]; simp
        have HEQ := Lib.hid hi
        have HOL2 := Lib.hid (show os.length < 1000000000 from by have := HOL.out; omega)
        clear hi
        have HA := al_any wr (.cells #[.int .i64 4, .slice none 0 0, .bool false, .bool false, .int .i64 0, .bool false, .int .i64 0, .int .u8 0] 51)
        have KS := kept_hid KR HA
        have LS := Lib.hid (Nat.le_trans LR.out HA.size)
        have OS := Lib.hid (Str.OwnOrds.below OE.out HA)
        have LB := Lib.hid (heap_alloc_new wr (.cells #[.int .i64 4, .slice none 0 0, .bool false, .bool false, .int .i64 0, .bool false, .int .i64 0, .int .u8 0] 51))
        clear HA
        go_wp2_with (at_builtin; refine wpList_mark ?_)
        refine Lib.hid ?_
        refine Str.append_ord rfl (.tmp 28) (.tmp 30) rfl (w.heap.size + 1) (.slice (some ⟨g, 0, none⟩) os.length vc) os rfl OS.out wr.heap.size curO none 0 0 rfl LB.out (own_no _ _) HOL2.out LS.out ?_
        intro v' wB hown hgr
        have HG := Lib.hid (ords_ge OS.out)
        have OA := Lib.hid (ords_mono hown (Nat.le_succ _))
        have KB := Lib.hid (KS.out.grown hgr KS.out.size (fun g hg => by have := HG.out _ hg; omega))
        obtain ⟨v8, k8, rfl⟩ := hown.form
        rw [← HEQ.out] at OA
        have hle : (os ++ [curO]).length = im.length := by rw [HEQ.out]
        clear hown hgr OS KS LS LB HG c0 c1 c2 c3 c4 c5 hc hcn
        go_wp2_with fail
        go_ret
        exact ⟨v8, k8, by rw [← hle]; first | rfl | simp, OA.out, KB.out⟩
end Red
end Go.Proofs.YtpdlpmbjhopnnaaDoor
