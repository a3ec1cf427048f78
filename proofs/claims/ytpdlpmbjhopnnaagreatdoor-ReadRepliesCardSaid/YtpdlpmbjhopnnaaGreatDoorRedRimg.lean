/- The document's image. Written by tools/gen_red_ref.py. -/
import Derived.Test.YtpdlpmbjhopnnaaGreatDoorBunRdm
import Derived.Test.YtpdlpmbjhopnnaaGreatDoorBunScr
import Derived.Deep.Cut
import Derived.Deep.LoopGhost
import Derived.IntWalk
namespace Go.Proofs.YtpdlpmbjhopnnaaGreatDoor
open Go.RowKit Sha Six Apd Cut Err Att Grd Fld
set_option linter.unusedVariables false
namespace Red
set_option maxRecDepth 100000 in
set_option maxHeartbeats 8000000 in
theorem rimage_any (s : S) (ad : Option Addr) (k : Nat) (w : World) (h : CelsIn w (.slice ad s.cs.length k) s.cs) (hz : 0 < s.cs.length) (hl : s.cs.length < 10000) :
    Calls Tryz.prog 10 #[.agg #[.int .i64 s.rows, .int .i64 s.cols, .slice ad s.cs.length k, .int .i64 s.cur, .bool s.lk, .bool s.ins]] w fun e w' => ∃ va vc, e = .returned (.slice va (image s).length vc) ∧ Str.OwnOrds w' w.heap.size (.slice va (image s).length vc) (image s) ∧ Below w.heap.size w w' := by
  have HL := Lib.hid hl
  have HNE := Lib.hid (Scr.celsIn_lt h hz)
  have HB := Lib.hid (al_any w (.cells #[.int .i64 s.rows, .int .i64 s.cols, .slice ad s.cs.length k, .int .i64 s.cur, .bool s.lk, .bool s.ins] 24))
  have HX := Lib.hid (heap_alloc_new w (.cells #[.int .i64 s.rows, .int .i64 s.cols, .slice ad s.cs.length k, .int .i64 s.cur, .bool s.lk, .bool s.ins] 24))
  have HI := Lib.hid (h.below HB.out)
  have HIM := Lib.hid (show image s = setO 0 :: (runs [] s.cs ++ ((if 0 < s.cur then [setO s.cur] else []) ++ [curO])) from rfl)
  generalize image s = im at *
  clear h hl
  go_enter Tryz.func10, Tryz.ntmps10
  go_upto_region 1 with (fail)
  generalize w.alloc _ = w1 at *
  have HX1 := Lib.hid (there_lt HX.out)
  have HA := al_any w1 (.cells #[.int .i64 3, .slice none 0 0, .bool false, .bool false, .int .i64 0, .bool false, .int .i64 0, .int .u8 0] 76)
  have O2 := Lib.hid (show Str.OwnOrds (w1.alloc (.cells #[.int .i64 3, .slice none 0 0, .bool false, .bool false, .int .i64 0, .bool false, .int .i64 0, .int .u8 0] 76)) (w.heap.size + 1) (.slice (some ⟨w1.heap.size, 0, none⟩) 1 1) [setO 0] from ords_lit w1 (setO 0) rfl (w.heap.size + 1) HX1.out)
  have X2 := Lib.hid (blk HX.out HA)
  have I2 := Lib.hid (HI.out.below HA)
  have K2 := kept_hid HB HA
  have L2 := Lib.hid (show w.heap.size + 1 ≤ w1.heap.size from HX1.out)
  have L2' := Lib.hid (Nat.le_trans L2.out HA.size)
  clear HA HX HI HB L2
  go_upto_region 2 with (fail)
  generalize w1.heap.size = g1 at *
  generalize w1.alloc _ = w2 at *
  go_wp2_with fail
  go_loopg [3, 4] (s.cs.length + 1) (fun mm vv ii wr => ∃ (q : Nat) (os : List Go.Proofs.YtpdlpmbjhopnnaaGreatDoor.Ord.O) (va : Option Addr) (vc : Nat), q ≤ s.cs.length ∧ mm = s.cs.length + 1 - q ∧ ii = .int .i64 q ∧ vv = .slice va os.length vc ∧ Hid (Str.OwnOrds wr (w.heap.size + 1) (.slice va os.length vc) os) ∧ Hid (os ++ runs [] (s.cs.drop q) = setO 0 :: runs [] s.cs) ∧ Hid (os.length ≤ q + 1) ∧ Hid (wr.heap[w.heap.size]? = some (.cells #[.int .i64 s.rows, .int .i64 s.cols, .slice ad s.cs.length k, .int .i64 s.cur, .bool s.lk, .bool s.ins] 24 (0, 0))) ∧ Hid (CelsIn wr (.slice ad s.cs.length k) s.cs) ∧ Hid (Below w.heap.size w wr) ∧ Hid (w.heap.size + 1 ≤ wr.heap.size))
  case atStart => exact ⟨0, [setO 0], _, _, Nat.zero_le _, rfl, rfl, rfl, O2, Lib.hid rfl, Lib.hid (Nat.le_refl _), X2, I2, K2, L2'⟩
  case round =>
    obtain ⟨q, os, va, vc, hq, rfl, rfl, rfl, OR, HR, HO, XR, IR, KR, LR⟩ := hrel
    clear O2 X2 I2 K2 L2'
    have ew : IntKind.i64.wrap ((q : Int) + 1) = (q : Int) + 1 := by
      have := HL.out
      rw [IntWalk.i64_in] <;> omega
    obtain ⟨c0, c1, c2, c3, c4, c5⟩ := cells6 XR.out
    by_cases hlt : q < s.cs.length
    · have HQ := Lib.hid hlt
      have hi0 : (0 : Int) ≤ (q : Int) := by omega
      have hi1 : (q : Int) < (s.cs.length : Int) := by omega
      obtain ⟨yf, yp, yn, ys, ym, yc, ey⟩ := c_eta (s.cs.getD q noC)
      obtain ⟨b1, o1, rfl, g0, g1, g2, g3, g4, g5⟩ := IR.out.cells hlt ey
      cases yf with
      | true =>
        have HRN := Lib.hid (show (os ++ [startO ⟨true, yp, yn, ys, ym, yc⟩]) ++ runs [] (s.cs.drop (q + 1)) = setO 0 :: runs [] s.cs from by
          rw [← HR.out, runs_field hlt (by unfold fat; rw [ey]), ey, flush_nil]; simp)
        have HA := al_any wr (.cells #[.int .i64 2, .slice none 0 0, .bool yp, .bool yn, .int .i64 ys, .bool ym, .int .i64 0, .int .u8 0] 76)
        have XS := Lib.hid (blk XR.out HA)
        have IS := Lib.hid (IR.out.below HA)
        have KS := kept_hid KR HA
        have LS := Lib.hid (Nat.le_trans LR.out HA.size)
        have OS := Lib.hid (Str.OwnOrds.below OR.out HA)
        have LB := Lib.hid (heap_alloc_new wr (.cells #[.int .i64 2, .slice none 0 0, .bool yp, .bool yn, .int .i64 ys, .bool ym, .int .i64 0, .int .u8 0] 76))
        have HOL := Lib.hid (show os.length < 1000000000 from by have := HO.out; have := HL.out; omega)
        clear HA OR HR ey hlt
        go_wp2_with (at_builtin; refine wpList_mark ?_)
        refine Lib.hid ?_
        refine Str.append_ord rfl (.tmp 19) (.tmp 27) rfl (w.heap.size + 1) (.slice va os.length vc) os rfl OS.out wr.heap.size (startO ⟨true, yp, yn, ys, ym, yc⟩) none 0 0 rfl LB.out (own_no _ _) HOL.out LS.out ?_
        intro v' wA hown hgr
        have HG := Lib.hid (ords_ge OS.out)
        have OA := Lib.hid hown
        have XA := Lib.hid (blk_g XS.out hgr (fun e => by have := HG.out _ e.symm; omega))
        have IA := Lib.hid (celsIn_grown_ IS.out (fun x hx => by have := HNE.out x hx; omega) hgr HG.out)
        have KA := Lib.hid (KS.out.grown hgr KS.out.size (fun g hg => by have := HG.out _ hg; omega))
        have LA := Lib.hid (Nat.le_trans LS.out hgr.size)
        obtain ⟨v7, k7, rfl⟩ := hown.form
        clear hown hgr OS XS IS KS LS LB HG c0 c1 c2 c3 c4 c5 g0 g1 g2 g3 g4 g5
        go_wp2_with fail
        go_roundg (s.cs.length + 1 - (q + 1))
        case measure => have := HQ.out; omega
        case rel => exact ⟨q + 1, os ++ [startO ⟨true, yp, yn, ys, ym, yc⟩], v7, k7, HQ.out, rfl, by first | rfl | go_num, by rw [List.length_append]; rfl, OA, HRN, Lib.hid (by rw [List.length_append]; have := HO.out; simp only [List.length_cons, List.length_nil]; omega), XA, IA, KA, LA⟩
      | false =>
        have HNF := Lib.hid (show fat s.cs q = false from by unfold fat; rw [ey])
        clear ey
        go_wp2_with fail
        clear c0 c1 c2 c3 c4 c5 g0 g1 g2 g3 g4 g5 hi0 hi1 ew
        obtain ⟨wo, hwo⟩ : ∃ wo : World, wo = wr := ⟨_, rfl⟩
        subst hwo
        go_loopg [4, 5] (s.cs.length + 1 - q) (fun mm ii tt wz => ∃ (r : Nat) (ts : List Nat) (ta : Option Addr) (tc : Nat), q ≤ r ∧ r ≤ s.cs.length ∧ mm = s.cs.length + 1 - r ∧ ii = .int .i64 r ∧ tt = .slice ta ts.length tc ∧ Hid (wz.ownsRow wo.heap.size 5 1 (.slice ta ts.length tc) ts.length (u8s ts)) ∧ Hid (os ++ runs ts (s.cs.drop r) = setO 0 :: runs [] s.cs) ∧ Hid (q < r → ts ≠ []) ∧ Hid (ts.length ≤ r) ∧ Hid (Below wo.heap.size wo wz))
        case atStart => exact ⟨q, [], none, 0, Nat.le_refl _, hq, rfl, rfl, rfl, Lib.hid (own_no _ _), HR, Lib.hid (fun h => absurd h (Nat.lt_irrefl _)), Lib.hid (Nat.zero_le _), Lib.hid (Below.refl _ _)⟩
        case round =>
          obtain ⟨r, ts, ta, tc, hqr, hr, rfl, rfl, rfl, OT, HRr, HE2, HTL, KZ⟩ := hrel
          have ewr : IntKind.i64.wrap ((r : Int) + 1) = (r : Int) + 1 := by
            have := HL.out
            rw [IntWalk.i64_in] <;> omega
          have XZ := Lib.hid (blk XR.out KZ.out)
          have IZ := Lib.hid (IR.out.below KZ.out)
          have HQR := Lib.hid hqr
          have HRL := Lib.hid hr
          obtain ⟨c0, c1, c2, c3, c4, c5⟩ := cells6 XZ.out
          by_cases hrt : r < s.cs.length
          · have HRT := Lib.hid hrt
            have hi0 : (0 : Int) ≤ (r : Int) := by omega
            have hi1 : (r : Int) < (s.cs.length : Int) := by omega
            obtain ⟨zf, zp, zn, zs, zm, zc, ez⟩ := c_eta (s.cs.getD r noC)
            obtain ⟨b2, o2, had, g0, g1, g2, g3, g4, g5⟩ := IZ.out.cells hrt ez
            injection had with had
            injection had with ha1 ha2
            subst ha1 ha2
            cases zf with
            | false =>
              have HRN := Lib.hid (show os ++ runs (ts ++ [zc]) (s.cs.drop (r + 1)) = setO 0 :: runs [] s.cs from by
                rw [← HRr.out, runs_char hrt (by unfold fat; rw [ez]), ez])
              have HA := al_any wr (.cells (u8s [zc]).toArray 5)
              have KS := Lib.hid (kept_trans KZ.out HA)
              have OS := Lib.hid (own_below OT.out HA)
              have LT := Lib.hid (lit_in wr [zc])
              have HG := Lib.hid (own_ge OS.out)
              have HWB := Lib.hid (show ts.length < 100000 from by have := HTL.out; have := HL.out; omega)
              have HLS := Lib.hid (show wo.heap.size ≤ (wr.alloc (.cells (u8s [zc]).toArray 5)).heap.size from KS.out.size)
              clear HA OT HRr ez hrt XZ IZ hqr hr
              go_wp2_with (at_builtin; refine wpList_mark ?_)
              refine Lib.hid ?_
              refine append_own rfl (.tmp 45) (.tmp 52) rfl wo.heap.size (.slice ta ts.length tc) ts.length (u8s ts) rfl OS.out (some ⟨wr.heap.size, 0, none⟩) 1 1 [zc] rfl rfl nofun (bytes_src LT.out) (by have := HWB.out; omega) HLS.out ?_
              intro v' wA hown hgr _
              have OA := Lib.hid (show wA.ownsRow wo.heap.size 5 1 v' (ts ++ [zc]).length (u8s (ts ++ [zc])) from by
                rw [List.length_append]
                have e : u8s (ts ++ [zc]) = u8s ts ++ u8s [zc] := by simp [u8s]
                rw [e]
                exact hown)
              have KA := Lib.hid (KS.out.grown hgr KS.out.size HG.out)
              obtain ⟨v7, k7, rfl⟩ := own_form OA.out
              clear hown hgr OS KS LT HG HLS c0 c1 c2 c3 c4 c5 g0 g1 g2 g3 g4 g5
              go_wp2_with fail
              go_roundg (s.cs.length + 1 - (r + 1))
              case measure => have := HRT.out; omega
              case rel => exact ⟨r + 1, ts ++ [zc], v7, k7, by have := HQR.out; omega, HRT.out, rfl, by first | rfl | go_num, by rw [List.length_append]; first | rfl | simp, OA, HRN, Lib.hid (fun _ h => by simp at h), Lib.hid (by rw [List.length_append]; have := HTL.out; simp only [List.length_cons, List.length_nil]; omega), KA⟩
            | true =>
              have HQ2 := Lib.hid (show q < r from by
                rcases Nat.lt_or_ge q r with h | h
                · exact h
                · exfalso
                  have e : r = q := by omega
                  subst e
                  have := HNF.out
                  unfold fat at this
                  rw [ez] at this
                  cases this)
              have HRN := Lib.hid (show (os ++ [textO ts]) ++ runs [] (s.cs.drop r) = setO 0 :: runs [] s.cs from by
                rw [← HRr.out, runs_end (fun _ => by unfold fat; rw [ez]) ts (HE2.out HQ2.out)]; simp)
              clear ez hrt hqr hr
              have LA0 := Lib.hid (Nat.le_trans LR.out KZ.out.size)
              have HA := al_any wr (.cells #[.int .i64 1, .slice ta ts.length tc, .bool false, .bool false, .int .i64 0, .bool false, .int .i64 0, .int .u8 0] 76)
              have XS := Lib.hid (blk XZ.out HA)
              have IS := Lib.hid (IZ.out.below HA)
              have KS := Lib.hid (kept_trans (kept_trans KR.out KZ.out) HA)
              have LS := Lib.hid (Nat.le_trans LA0.out HA.size)
              have OS := Lib.hid (Str.OwnOrds.below (Str.OwnOrds.below OR.out KZ.out) HA)
              have OTS := Lib.hid (own_mono (own_below OT.out HA) LR.out)
              have LB := Lib.hid (heap_alloc_new wr (.cells #[.int .i64 1, .slice ta ts.length tc, .bool false, .bool false, .int .i64 0, .bool false, .int .i64 0, .int .u8 0] 76))
              have HOL := Lib.hid (show os.length < 1000000000 from by have := HO.out; have := HL.out; have := HQ.out; omega)
              clear HA OR OT HRr XZ IZ LA0
              go_wp2_with (at_builtin; refine wpList_mark ?_)
              refine Lib.hid ?_
              refine Str.append_ord rfl (.tmp 56) (.tmp 59) rfl (w.heap.size + 1) (.slice va os.length vc) os rfl OS.out wr.heap.size (textO ts) ta ts.length tc rfl LB.out OTS.out HOL.out LS.out ?_
              intro v' wA hown hgr
              have HG := Lib.hid (ords_ge OS.out)
              have OA := Lib.hid hown
              have XA := Lib.hid (blk_g XS.out hgr (fun e => by have := HG.out _ e.symm; omega))
              have IA := Lib.hid (celsIn_grown_ IS.out (fun x hx => by have := HNE.out x hx; omega) hgr HG.out)
              have KA := Lib.hid (KS.out.grown hgr KS.out.size (fun g hg => by have := HG.out _ hg; omega))
              have LA := Lib.hid (Nat.le_trans LS.out hgr.size)
              obtain ⟨v7, k7, rfl⟩ := hown.form
              clear g0 g1 g2 g3 g4 g5 hown hgr OS OTS XS IS KS LS LB HG c0 c1 c2 c3 c4 c5
              go_wp2_with fail
              go_roundg (s.cs.length + 1 - r)
              case measure => have := HQ2.out; omega
              case rel => exact ⟨r, os ++ [textO ts], v7, k7, HRL.out, rfl, rfl, by rw [List.length_append]; rfl, OA, HRN, Lib.hid (by rw [List.length_append]; have := HO.out; have := HQ2.out; simp only [List.length_cons, List.length_nil]; omega), XA, IA, KA, LA⟩
          · obtain rfl : r = s.cs.length := by omega
            have hn0 : ¬ (s.cs.length : Int) < (s.cs.length : Int) := by omega
            have HQ2 := Lib.hid (show q < s.cs.length from HQ.out)
            have HRN := Lib.hid (show (os ++ [textO ts]) ++ runs [] (s.cs.drop s.cs.length) = setO 0 :: runs [] s.cs from by
              rw [← HRr.out, runs_end (fun h => absurd h (Nat.lt_irrefl _)) ts (HE2.out HQ2.out)]; simp)
            clear hrt hqr hr
            have LA0 := Lib.hid (Nat.le_trans LR.out KZ.out.size)
            have HA := al_any wr (.cells #[.int .i64 1, .slice ta ts.length tc, .bool false, .bool false, .int .i64 0, .bool false, .int .i64 0, .int .u8 0] 76)
            have XS := Lib.hid (blk XZ.out HA)
            have IS := Lib.hid (IZ.out.below HA)
            have KS := Lib.hid (kept_trans (kept_trans KR.out KZ.out) HA)
            have LS := Lib.hid (Nat.le_trans LA0.out HA.size)
            have OS := Lib.hid (Str.OwnOrds.below (Str.OwnOrds.below OR.out KZ.out) HA)
            have OTS := Lib.hid (own_mono (own_below OT.out HA) LR.out)
            have LB := Lib.hid (heap_alloc_new wr (.cells #[.int .i64 1, .slice ta ts.length tc, .bool false, .bool false, .int .i64 0, .bool false, .int .i64 0, .int .u8 0] 76))
            have HOL := Lib.hid (show os.length < 1000000000 from by have := HO.out; have := HL.out; have := HQ.out; omega)
            clear HA OR OT HRr XZ IZ LA0
            go_wp2_with (at_builtin; refine wpList_mark ?_)
            refine Lib.hid ?_
            refine Str.append_ord rfl (.tmp 56) (.tmp 59) rfl (w.heap.size + 1) (.slice va os.length vc) os rfl OS.out wr.heap.size (textO ts) ta ts.length tc rfl LB.out OTS.out HOL.out LS.out ?_
            intro v' wA hown hgr
            have HG := Lib.hid (ords_ge OS.out)
            have OA := Lib.hid hown
            have XA := Lib.hid (blk_g XS.out hgr (fun e => by have := HG.out _ e.symm; omega))
            have IA := Lib.hid (celsIn_grown_ IS.out (fun x hx => by have := HNE.out x hx; omega) hgr HG.out)
            have KA := Lib.hid (KS.out.grown hgr KS.out.size (fun g hg => by have := HG.out _ hg; omega))
            have LA := Lib.hid (Nat.le_trans LS.out hgr.size)
            obtain ⟨v7, k7, rfl⟩ := hown.form
            clear hown hgr OS OTS XS IS KS LS LB HG c0 c1 c2 c3 c4 c5
            go_wp2_with fail
            go_roundg (s.cs.length + 1 - s.cs.length)
            case measure => have := HQ2.out; omega
            case rel => exact ⟨s.cs.length, os ++ [textO ts], v7, k7, HRL.out, rfl, rfl, by rw [List.length_append]; rfl, OA, HRN, Lib.hid (by rw [List.length_append]; have := HO.out; have := HQ2.out; simp only [List.length_cons, List.length_nil]; omega), XA, IA, KA, LA⟩
    · obtain rfl : q = s.cs.length := by omega
      have hn0 : ¬ (s.cs.length : Int) < (s.cs.length : Int) := by omega
      clear hlt
      have KF := Lib.hid KR.out
      have HRE := Lib.hid (show os = setO 0 :: runs [] s.cs from by rw [← HR.out, runs_done (Nat.le_refl _), List.append_nil])
      clear HR
      by_cases hc : 0 < s.cur
      · have HCU := Lib.hid hc
        have HA := al_any wr (.cells #[.int .i64 3, .slice none 0 0, .bool false, .bool false, .int .i64 0, .bool false, .int .i64 s.cur, .int .u8 0] 76)
        have XS := Lib.hid (blk XR.out HA)
        have IS := Lib.hid (IR.out.below HA)
        have KS := kept_hid KR HA
        have LS := Lib.hid (Nat.le_trans LR.out HA.size)
        have OS := Lib.hid (Str.OwnOrds.below OR.out HA)
        have LB := Lib.hid (heap_alloc_new wr (.cells #[.int .i64 3, .slice none 0 0, .bool false, .bool false, .int .i64 0, .bool false, .int .i64 s.cur, .int .u8 0] 76))
        have HOL := Lib.hid (show os.length < 1000000 from by have := HO.out; have := HL.out; omega)
        clear HA OR
        go_wp2_with (at_builtin; refine wpList_mark ?_)
        refine Lib.hid ?_
        refine Str.append_ord rfl (.tmp 64) (.tmp 68) rfl (w.heap.size + 1) (.slice va os.length vc) os rfl OS.out wr.heap.size (setO s.cur) none 0 0 rfl LB.out (own_no _ _) (by have := HOL.out; omega) LS.out ?_
        intro v' wA hown hgr
        have HG := Lib.hid (ords_ge OS.out)
        have OA := Lib.hid hown
        have KA := Lib.hid (KS.out.grown hgr KS.out.size (fun g hg => by have := HG.out _ hg; omega))
        have LA := Lib.hid (Nat.le_trans LS.out hgr.size)
        obtain ⟨v7, k7, rfl⟩ := hown.form
        have HEQ := Lib.hid (show im = (os ++ [setO s.cur]) ++ [curO] from by rw [HIM.out, HRE.out, if_pos HCU.out]; simp)
        clear hown hgr OS XS IS KS LS LB HG c0 c1 c2 c3 c4 c5 hc
        generalize hos : os ++ [setO s.cur] = os2 at *
        have HOL2 := Lib.hid (show os2.length < 1000000000 from by rw [← hos, List.length_append]; have := HOL.out; simp only [List.length_cons, List.length_nil]; omega)
        clear hos
        have HA := al_any wA (.cells #[.int .i64 4, .slice none 0 0, .bool false, .bool false, .int .i64 0, .bool false, .int .i64 0, .int .u8 0] 76)
        have KS := kept_hid KA HA
        have LS := Lib.hid (Nat.le_trans LA.out HA.size)
        have OS := Lib.hid (Str.OwnOrds.below OA.out HA)
        have LB := Lib.hid (heap_alloc_new wA (.cells #[.int .i64 4, .slice none 0 0, .bool false, .bool false, .int .i64 0, .bool false, .int .i64 0, .int .u8 0] 76))
        clear HA
        go_wp2_with (at_builtin; refine wpList_mark ?_)
        refine Lib.hid ?_
        refine Str.append_ord rfl (.tmp 70) (.tmp 72) rfl (w.heap.size + 1) (.slice v7 os2.length k7) os2 rfl OS.out wA.heap.size curO none 0 0 rfl LB.out (own_no _ _) HOL2.out LS.out ?_
        intro v' wB hown hgr
        have HG := Lib.hid (ords_ge OS.out)
        have OA := Lib.hid (ords_mono hown (Nat.le_succ _))
        have KB := Lib.hid (KS.out.grown hgr KS.out.size (fun g hg => by have := HG.out _ hg; omega))
        obtain ⟨v8, k8, rfl⟩ := hown.form
        rw [← HEQ.out] at OA
        have hle : (os2 ++ [curO]).length = im.length := by rw [HEQ.out]
        clear hown hgr OS KS LS LB HG
        go_wp2_with fail
        go_ret
        exact ⟨v8, k8, by rw [← hle]; first | rfl | simp, OA.out, KB.out⟩
      · have hi : im = os ++ [curO] := by rw [HIM.out, HRE.out, if_neg hc]; simp
        have HEQ := Lib.hid hi
        have HOL2 := Lib.hid (show os.length < 1000000000 from by have := HO.out; have := HL.out; omega)
        clear hi
        have HA := al_any wr (.cells #[.int .i64 4, .slice none 0 0, .bool false, .bool false, .int .i64 0, .bool false, .int .i64 0, .int .u8 0] 76)
        have KS := kept_hid KR HA
        have LS := Lib.hid (Nat.le_trans LR.out HA.size)
        have OS := Lib.hid (Str.OwnOrds.below OR.out HA)
        have LB := Lib.hid (heap_alloc_new wr (.cells #[.int .i64 4, .slice none 0 0, .bool false, .bool false, .int .i64 0, .bool false, .int .i64 0, .int .u8 0] 76))
        clear HA
        go_wp2_with (at_builtin; refine wpList_mark ?_)
        refine Lib.hid ?_
        refine Str.append_ord rfl (.tmp 70) (.tmp 72) rfl (w.heap.size + 1) (.slice va os.length vc) os rfl OS.out wr.heap.size curO none 0 0 rfl LB.out (own_no _ _) HOL2.out LS.out ?_
        intro v' wB hown hgr
        have HG := Lib.hid (ords_ge OS.out)
        have OA := Lib.hid (ords_mono hown (Nat.le_succ _))
        have KB := Lib.hid (KS.out.grown hgr KS.out.size (fun g hg => by have := HG.out _ hg; omega))
        obtain ⟨v8, k8, rfl⟩ := hown.form
        rw [← HEQ.out] at OA
        have hle : (os ++ [curO]).length = im.length := by rw [HEQ.out]
        clear hown hgr OS KS LS LB HG c0 c1 c2 c3 c4 c5 hc
        go_wp2_with fail
        go_ret
        exact ⟨v8, k8, by rw [← hle]; first | rfl | simp, OA.out, KB.out⟩
end Red
end Go.Proofs.YtpdlpmbjhopnnaaGreatDoor
