/- The document's Type of layer 14. Written by tools/gen_edt_rtype.py. -/
import Derived.Test.YtoafcmklomopaaaDoorEdtRtype
import Derived.Test.YtoafcmklomopaaaDoorEdtRight
import Derived.Test.YtoafcmklomopaaaDoorBunGrd
import Derived.Test.YtoafcmklomopaaaDoorBunFld
import Derived.Test.YtoafcmklomopaaaDoorBunRlp
import Derived.Deep.CutRange
import Derived.Deep.RegionHeld3
namespace Go.Proofs.YtoafcmklomopaaaDoor
open Go.RowKit Sha Six Apd Cut Err Att Grd Fld Scr
set_option linter.unusedVariables false
set_option linter.unusedSimpArgs false
namespace Edt
set_option maxRecDepth 100000 in
set_option maxHeartbeats 8000000 in
theorem rt_ok (s : S) (ad : Option Addr) (k c kc : Nat) (w : World) (h : CelsIn w (.slice ad s.cs.length k) s.cs) (hl : s.cs.length < 10000) (hc : c < 256) (hk : kc < s.cs.length) (hcur : s.cur = (kc : Int)) (hlt : ltr c = true) (hlk : s.lk = false) (hop : open_ s.cs kc = true) (hcd : (((attrOf s.cs kc).n && !digit c) && (c != 28 && c != 30)) = false) (hfr : s.ins = true → ∃ j, free s.cs (line s.cs kc) = some j) :
    Calls Tryd.prog 11 #[.agg #[.int .i64 s.rows, .int .i64 s.cols, .slice ad s.cs.length k, .int .i64 s.cur, .bool s.lk, .bool s.ins], .int .u8 (c : Int)] w fun e w' => ShownE w w' (typed s kc c) 0 (-1) e := by
  obtain ⟨r, q, cs, cur, lk, ins⟩ := s
  simp only at *
  subst hcur
  obtain ⟨_, _, _, _, _, _, ec⟩ := c_eta (cs.getD kc noC)
  obtain ⟨bA, oA, rfl, _⟩ := h.cells hk ec
  clear ec
  subst hlk
  have HB := Lib.hid (kept_trans (al_any w (.cells #[.int .i64 r, .int .i64 q, .slice (some ⟨bA, oA, none⟩) cs.length k, .int .i64 (kc : Int), .bool false, .bool ins] 24)) (al_any _ (.cells #[.int .i64 0, .int .i64 0, .slice none 0 0, .int .i64 0, .bool false, .bool false] 24)))
  have HX := Lib.hid (heap_alloc2_old w (.cells #[.int .i64 r, .int .i64 q, .slice (some ⟨bA, oA, none⟩) cs.length k, .int .i64 (kc : Int), .bool false, .bool ins] 24) (.cells #[.int .i64 0, .int .i64 0, .slice none 0 0, .int .i64 0, .bool false, .bool false] 24))
  have HZ := Lib.hid (heap_alloc2_new w (.cells #[.int .i64 r, .int .i64 q, .slice (some ⟨bA, oA, none⟩) cs.length k, .int .i64 (kc : Int), .bool false, .bool ins] 24) (.cells #[.int .i64 0, .int .i64 0, .slice none 0 0, .int .i64 0, .bool false, .bool false] 24))
  have HI := Lib.hid (h.below HB.out)
  have HLT := Lib.hid fun W => rltr_any c W hc
  have HL := Lib.hid hl
  have HK := Lib.hid hk
  have HNE := Lib.hid (celsIn_lt h (Nat.lt_of_le_of_lt (Nat.zero_le _) hk))
  have HOP := Lib.hid fun W hb => ropen_any ⟨r, q, cs, (kc : Int), false, ins⟩ (some ⟨bA, oA, none⟩) k kc W (HI.out.below hb) (by simp only; omega) (by simp only; omega) (by simp only; omega)
  have HDN := Lib.hid fun W (hb : Below w.heap.size w W) => rdeny_any ⟨r, q, cs, (kc : Int), false, ins⟩ (some ⟨bA, oA, none⟩) k W (h.below hb) (by simp only; omega) (by simp only; omega)
  simp only [GaveA, deny] at HOP HDN
  have HOF := Lib.hid fun W hb => rof_any ⟨r, q, cs, (kc : Int), false, ins⟩ (some ⟨bA, oA, none⟩) k kc W (HI.out.below hb) (by simp only; omega) (by simp only; omega) (by simp only; omega)
  have HDG := Lib.hid fun W => rdigit_any c W hc
  simp only at HOF
  rw [hop] at HOP
  have HCD := Lib.hid hcd
  have HMD := Lib.hid fun W (hb : Below w.heap.size w W) => rmodify_any ⟨r, q, cs, (kc : Int), false, ins⟩ (some ⟨bA, oA, none⟩) k kc W (h.below hb) (by simp only; omega) (by simp only; omega) (by simp only; omega)
  rw [modif_eta] at HMD
  have HML := Lib.hid (modif_length ⟨r, q, cs, (kc : Int), false, ins⟩ kc)
  simp only [GaveA] at HMD HML
  rw [HML.out] at HMD
  have HLI := Lib.hid fun W (hb : Below w.heap.size w W) => rline_any ⟨r, q, cs, (kc : Int), false, ins⟩ (some ⟨bA, oA, none⟩) k kc W (h.below hb) (by simp only; omega) (by simp only; omega) (by simp only; omega)
  simp only at HLI
  have HLN := Lib.hid (lineLen_pos hk hop)
  have HLL := Lib.hid (line_length cs kc)
  have HLX := Lib.hid (fun x (hx : x ∈ line cs kc) => line_lt (cs := cs) (by omega) hx)
  have HFR := Lib.hid hfr
  have HLD := Lib.hid (show laid ⟨r, q, cs, (kc : Int), false, ins⟩ kc c = ((if ins = true then shifted cs (line cs kc) ((free cs (line cs kc)).getD 0) (modif ⟨r, q, cs, (kc : Int), false, ins⟩ kc).cs else (modif ⟨r, q, cs, (kc : Int), false, ins⟩ kc).cs)).set kc { ((if ins = true then shifted cs (line cs kc) ((free cs (line cs kc)).getD 0) (modif ⟨r, q, cs, (kc : Int), false, ins⟩ kc).cs else (modif ⟨r, q, cs, (kc : Int), false, ins⟩ kc).cs)).getD kc noC with c := c } from rfl)
  clear h hl hc hk hop hcd hfr
  go_enter Tryd.func11, Tryd.ntmps11
  go_upto_region 1 with (fail)
  generalize (w.alloc _).alloc _ = w1 at *
  go_wp2_with fail
  with_reducible refine (HLT.out _).mono ?_
  rintro e wx ⟨rfl, rfl⟩
  rw [hlt]
  clear hlt HLT
  obtain ⟨c0, c1, c2, c3, c4, c5⟩ := cells6 HX.out
  go_wp2_with fail
  with_reducible refine (HOP.out _ (Below.refl _ _)).mono ?_
  rintro e w2 ⟨rfl, hb⟩
  clear c0 c1 c2 c3 c4 c5 HOP
  have HK2 := Lib.hid hb
  have X2 := Lib.hid (blk HX.out hb)
  have Z2 := Lib.hid (blk HZ.out hb)
  have K2 := kept_hid HB hb
  have I2 := Lib.hid (HI.out.below hb)
  clear hb HX HZ HB HI
  have hfn := field_n (attrOf cs kc).p (attrOf cs kc).n (attrOf cs kc).s (attrOf cs kc).m
  go_upto_region 8 with (fail)
  go_cut [48] from 32 to 47 (fun v wx => v = .bool (((attrOf cs kc).n && !digit c) && (c != 28 && c != 30)) ∧ Hid (Below w2.heap.size w2 wx))
  case first =>
    obtain ⟨c0, c1, c2, c3, c4, c5⟩ := cells6 X2.out
    go_wp2_with fail
    with_reducible refine (HOF.out _ HK2.out).mono ?_
    rintro e w3 ⟨rfl, hb⟩
    replace hb := Lib.hid hb
    clear c0 c1 c2 c3 c4 c5 HOF HCD
    generalize (attrOf cs kc).n = nn at *
    generalize (attrOf cs kc).p = pp at *
    generalize (attrOf cs kc).s = qq at *
    generalize (attrOf cs kc).m = mm at *
    cases nn with
    | false =>
      go_wp2_with fail
      go_meet
      exact ⟨rfl, hb⟩
    | true =>
      go_wp2_with fail
      with_reducible refine (HDG.out _).mono ?_
      rintro e w4 ⟨rfl, rfl⟩
      cases hd : digit c with
      | true =>
        go_wp2_with fail
        go_meet
        exact ⟨by simp [hd], hb⟩
      | false =>
        by_cases h28 : c = 28
        · have e1 : ((c : Int) != 28) = false := by simp; omega
          replace h28 := Lib.hid h28
          go_wp2_with fail
          go_meet
          exact ⟨by simp [hd, h28.out], hb⟩
        · have e1 : ((c : Int) != 28) = true := by simp; omega
          by_cases h30 : c = 30
          · have e2 : ((c : Int) != 30) = false := by simp; omega
            replace h30 := Lib.hid h30
            go_wp2_with fail
            go_meet
            exact ⟨by simp [hd, h28, h30.out], hb⟩
          · have e2 : ((c : Int) != 30) = true := by simp; omega
            go_wp2_with fail
            go_meet
            exact ⟨by simp [hd, h28, h30], hb⟩
  case rest =>
    obtain ⟨rfl, hb⟩ := hcut
    rw [HCD.out]
    have HK3 := kept_hid HK2 hb.out
    have X3 := Lib.hid (blk X2.out hb.out)
    have Z3 := Lib.hid (blk Z2.out hb.out)
    have K3 := kept_hid K2 hb.out
    have I3 := Lib.hid (I2.out.below hb.out)
    clear hb HK2 X2 Z2 K2 I2 HDG HOF HCD hfn
    obtain ⟨c0, c1, c2, c3, c4, c5⟩ := cells6 X3.out
    go_wp2_with fail
    with_reducible refine (HMD.out _ K3.out).mono ?_
    rintro e w4 ⟨va, vc, rfl, ho, hb⟩
    clear c0 c1 c2 c3 c4 c5 HMD
    generalize hmc : (modif ⟨r, q, cs, (kc : Int), false, ins⟩ kc).cs = mc at ho HML
    replace hmc := Lib.hid hmc
    obtain ⟨g, vd, e1, hg1, hg2, _⟩ := OwnCels.at ho (by rw [HML.out]; have := HK.out; omega)
    injection e1 with e1 e2 e3
    subst e1
    clear e2 e3
    have hz0 := there_lt Z3.out
    have HA2 := al_any w4 (.cells #[.int .i64 r, .int .i64 q, .slice (some ⟨g, 0, none⟩) cs.length vc, .int .i64 (kc : Int), .bool false, .bool ins] 24)
    have L5 := Lib.hid (heap_alloc_new w4 (.cells #[.int .i64 r, .int .i64 q, .slice (some ⟨g, 0, none⟩) cs.length vc, .int .i64 (kc : Int), .bool false, .bool ins] 24))
    have X5 := Lib.hid (blk X3.out (kept_trans hb HA2))
    have Z5 := Lib.hid (blk Z3.out (kept_trans hb HA2))
    have O5 := Lib.hid ((OwnCels.below ho HA2).mono K3.out.size)
    have K5 := kept_hid K3 (kept_trans hb HA2)
    have I5 := Lib.hid (I3.out.below (kept_trans hb HA2))
    have hsz := hb.size
    clear HA2 ho hb X3 Z3 K3 I3 HK3
    go_upto_region 11 with (fail)
    have HG1 := Lib.hid (show w.heap.size + 1 < g from by omega)
    have HG2 := Lib.hid hg2
    have HG3 := Lib.hid (show w.heap.size + 1 < w4.heap.size from by omega)
    clear hg1 hg2 hz0 hsz
    generalize w4.alloc _ = w5 at *
    generalize w4.heap.size = G at *
    obtain ⟨c0, c1, c2, c3, c4, c5⟩ := cells6 X5.out
    go_upto_if 56 with (fail)
    clear c0 c1 c2 c3 c4 c5
    go_cut [9, 10, 11, 12] from 57 to 105 (fun va vb vd ve wx => Hid (wx.heap[G]? = some (.cells #[.int .i64 r, .int .i64 q, .slice (some ⟨g, 0, none⟩) cs.length vc, .int .i64 (kc : Int), .bool false, .bool ins] 24 (0, 0))) ∧ Hid (OwnCels wx w.heap.size (.slice (some ⟨g, 0, none⟩) cs.length vc) (if ins = true then shifted cs (line cs kc) ((free cs (line cs kc)).getD 0) mc else mc)) ∧ Hid (wx.heap[w.heap.size]? = some (.cells #[.int .i64 r, .int .i64 q, .slice (some ⟨bA, oA, none⟩) cs.length k, .int .i64 (kc : Int), .bool false, .bool ins] 24 (0, 0))) ∧ Hid (wx.heap[w.heap.size + 1]? = some (.cells #[.int .i64 0, .int .i64 0, .slice none 0 0, .int .i64 0, .bool false, .bool false] 24 (0, 0))) ∧ Hid (Below w.heap.size w wx) ∧ Hid (CelsIn wx (.slice (some ⟨bA, oA, none⟩) cs.length k) cs))
    case first =>
      cases ins with
      | false =>
        go_wp2_with fail
        go_meet
        exact ⟨L5, O5, X5, Z5, K5, I5⟩
      | true =>
        obtain ⟨j, hj⟩ := HFR.out rfl
        have HJ := Lib.hid hj
        clear hj HFR HLD
        obtain ⟨c0, c1, c2, c3, c4, c5⟩ := cells6 X5.out
        go_wp2_with fail
        with_reducible refine (HLI.out _ K5.out).mono ?_
        rintro e w6 ⟨vl, rfl, hl6, hb⟩
        obtain ⟨al, kl, rfl⟩ := hl6.form
        have L6 := Lib.hid (blk L5.out hb)
        have X6 := Lib.hid (blk X5.out hb)
        have Z6 := Lib.hid (blk Z5.out hb)
        have O6 := Lib.hid (O5.out.below hb)
        have K6 := kept_hid K5 hb
        have I6 := Lib.hid (I5.out.below hb)
        obtain ⟨gl, hgl0, _⟩ := hl6.cell (i := 0) (by rw [HLL.out]; exact HLN.out.1)
        subst hgl0
        have R6 := Lib.hid hl6
        have HVB := Lib.hid (show w5.heap.size ≤ gl from (own_blocks hl6 _ rfl).1)
        have HG5 := Lib.hid (show G < w5.heap.size from there_lt L5.out)
        clear c0 c1 c2 c3 c4 c5 hl6 hb HLI L5 X5 Z5 O5 K5 I5
        generalize hl : line cs kc = l at *
        replace hl := Lib.hid hl
        have hn1 : IntKind.i64.wrap ((l.length : Int) - 1) = (l.length : Int) - 1 := by
          have := HLL.out
          have := HLN.out
          have := HL.out
          rw [IntWalk.i64_in] <;> omega
        go_wp2_with fail
        go_loopg [10, 11] (l.length + 1) (fun mm fr ii wr => ∃ p : Nat, p ≤ l.length ∧ mm = p + 1 ∧ ii = .int .i64 ((p : Int) - 1) ∧ fr = .int .i64 (fv cs l p) ∧ Hid (wr.heap[G]? = some (.cells #[.int .i64 r, .int .i64 q, .slice (some ⟨g, 0, none⟩) cs.length vc, .int .i64 (kc : Int), .bool false, .bool true] 24 (0, 0))) ∧ Hid (OwnCels wr w.heap.size (.slice (some ⟨g, 0, none⟩) cs.length vc) mc) ∧ Hid (wr.heap[w.heap.size]? = some (.cells #[.int .i64 r, .int .i64 q, .slice (some ⟨bA, oA, none⟩) cs.length k, .int .i64 (kc : Int), .bool false, .bool true] 24 (0, 0))) ∧ Hid (wr.heap[w.heap.size + 1]? = some (.cells #[.int .i64 0, .int .i64 0, .slice none 0 0, .int .i64 0, .bool false, .bool false] 24 (0, 0))) ∧ Hid (Below w.heap.size w wr) ∧ Hid (CelsIn wr (.slice (some ⟨bA, oA, none⟩) cs.length k) cs) ∧ Hid (OwnInts wr w5.heap.size (.slice (some ⟨gl, 0, none⟩) l.length kl) l))
        case atStart => exact ⟨l.length, Nat.le_refl _, rfl, rfl, by rw [fv_end], L6, O6, X6, Z6, K6, I6, R6⟩
        case round =>
          obtain ⟨p, hp, rfl, rfl, rfl, L7, O7, X7, Z7, K7, I7, R7⟩ := hrel
          clear L6 O6 X6 Z6 K6 I6 R6
          cases p with
          | succ p =>
            have FV := Lib.hid (fv_succ cs l (q := p) (by omega))
            have hpl : p < l.length := by omega
            have HXL := Lib.hid (HLX.out _ (show l.getD p 0 ∈ l by rw [List.getD_eq_getElem?_getD, List.getElem?_eq_getElem hpl]; exact List.getElem_mem hpl))
            obtain ⟨g', hg', _, hgl, hcell, _⟩ := R7.out.cell hpl
            rw [Nat.zero_add] at hcell
            injection hg' with hg'
            injection hg' with hg' _ _
            subst hg'
            generalize l.getD p 0 = x at *
            obtain ⟨yf, yp, yn, ys, ym, yc, ey⟩ := c_eta (cs.getD x noC)
            obtain ⟨b1, o1, eo, g0, g1, g2, g3, g4, g5⟩ := I7.out.cells HXL.out ey
            injection eo with eo
            injection eo with eo1 eo2
            subst eo1 eo2
            rw [ey] at FV
            rw [show (((p + 1 : Nat) : Int) - 1) = (p : Int) by omega]
            have ed : IntKind.i64.wrap ((p : Int) - 1) = (p : Int) - 1 := by
              have := HLL.out
              have := HLN.out
              have := HL.out
              rw [IntWalk.i64_in] <;> omega
            have hi0 : (0 : Int) ≤ (p : Int) := by omega
            have hi1 : (p : Int) < (l.length : Int) := by omega
            have hj0 : (0 : Int) ≤ (x : Int) := by omega
            have hj1 : (x : Int) < (cs.length : Int) := by have := HXL.out; omega
            obtain ⟨c0, c1, c2, c3, c4, c5⟩ := cells6 X7.out
            have HD := (Below.refl wr.heap.size wr).drew
            have L8 := Lib.hid (blk L7.out HD)
            have X8 := Lib.hid (blk X7.out HD)
            have Z8 := Lib.hid (blk Z7.out HD)
            have O8 := Lib.hid (O7.out.below HD)
            have K8 := kept_hid K7 HD
            have I8 := Lib.hid (I7.out.below HD)
            have R8 := Lib.hid (R7.out.below HD)
            clear HD L7 X7 Z7 O7 K7 I7 R7 ey
            by_cases hy0 : yc = 0
            · have FW := Lib.hid (show fv cs l p = (p : Int) by rw [FV.out, if_pos hy0])
              have e0 : ((yc : Int) == 0) = true := by simp; omega
              clear FV hy0
              go_upto_region 17 with (fail)
              go_region
              clear c0 c1 c2 c3 c4 c5 g0 g1 g2 g3 g4 g5 hcell
              generalize wr.drew = wd at *
              go_wp2_with fail
              go_roundg (p + 1)
              case measure => omega
              case rel => exact ⟨p, by omega, rfl, rfl, by rw [FW.out], L8, O8, X8, Z8, K8, I8, R8⟩
            · have FW := Lib.hid (show fv cs l p = fv cs l (p + 1) by rw [FV.out, if_neg hy0])
              have e0 : ((yc : Int) == 0) = false := by simp; omega
              clear FV hy0
              go_upto_region 17 with (fail)
              go_region
              clear c0 c1 c2 c3 c4 c5 g0 g1 g2 g3 g4 g5 hcell
              generalize wr.drew = wd at *
              go_wp2_with fail
              go_roundg (p + 1)
              case measure => omega
              case rel => exact ⟨p, by omega, rfl, rfl, by rw [FW.out], L8, O8, X8, Z8, K8, I8, R8⟩
          | zero =>
            rw [show (((0 : Nat) : Int) - 1) = -1 from rfl]
            have FV := Lib.hid (show fv cs l 0 = (j : Int) by rw [fv_zero, HJ.out])
            rw [FV.out]
            have HJL := Lib.hid (free_some HJ.out).1
            have hn0 : ¬ (j : Int) < 0 := by omega
            clear FV
            obtain ⟨wo, rfl⟩ : ∃ wo : World, wo = wr := ⟨_, rfl⟩
            go_wp2_with fail
            go_loopg [12] (j + 1) (fun mm ii wr => ∃ z : Nat, 1 ≤ z ∧ z ≤ j + 1 ∧ mm = j + 2 - z ∧ ii = .int .i64 (z : Int) ∧ Hid (wr.heap[G]? = some (.cells #[.int .i64 r, .int .i64 q, .slice (some ⟨g, 0, none⟩) cs.length vc, .int .i64 (kc : Int), .bool false, .bool true] 24 (0, 0))) ∧ Hid (OwnCels wr w.heap.size (.slice (some ⟨g, 0, none⟩) cs.length vc) (shifted cs l (z - 1) mc)) ∧ Hid (wr.heap[w.heap.size]? = some (.cells #[.int .i64 r, .int .i64 q, .slice (some ⟨bA, oA, none⟩) cs.length k, .int .i64 (kc : Int), .bool false, .bool true] 24 (0, 0))) ∧ Hid (wr.heap[w.heap.size + 1]? = some (.cells #[.int .i64 0, .int .i64 0, .slice none 0 0, .int .i64 0, .bool false, .bool false] 24 (0, 0))) ∧ Hid (Below w.heap.size w wr) ∧ Hid (CelsIn wr (.slice (some ⟨bA, oA, none⟩) cs.length k) cs) ∧ Hid (OwnInts wr w5.heap.size (.slice (some ⟨gl, 0, none⟩) l.length kl) l))
            case atStart => exact ⟨1, Nat.le_refl _, by omega, by omega, rfl, L7, O7, X7, Z7, K7, I7, R7⟩
            case round =>
              obtain ⟨z, hz1, hz2, rfl, rfl, L9, O9, X9, Z9, K9, I9, R9⟩ := hrel
              clear L7 O7 X7 Z7 K7 I7 R7
              by_cases hlt : z ≤ j
              · obtain ⟨p, hzp⟩ : ∃ p, z = p + 1 := ⟨z - 1, by omega⟩
                rw [show z - 1 = p by omega] at O9
                have HSH := Lib.hid (show shifted cs l (p + 1) mc = (shifted cs l p mc).set (l.getD (p + 1) 0) { (shifted cs l p mc).getD (l.getD (p + 1) 0) noC with c := (cs.getD (l.getD p 0) noC).c } from rfl)
                rw [← hzp] at HSH
                have hpa : z < l.length := by have := HJL.out; omega
                have hpb : p < l.length := by omega
                have HXA := Lib.hid (HLX.out _ (show l.getD z 0 ∈ l by rw [List.getD_eq_getElem?_getD, List.getElem?_eq_getElem hpa]; exact List.getElem_mem hpa))
                have HXB := Lib.hid (HLX.out _ (show l.getD p 0 ∈ l by rw [List.getD_eq_getElem?_getD, List.getElem?_eq_getElem hpb]; exact List.getElem_mem hpb))
                have HSL := Lib.hid (show (shifted cs l p mc).length = cs.length by rw [shifted_length, HML.out])
                obtain ⟨g', hg', _, hgl, hca, _⟩ := R9.out.cell hpa
                injection hg' with hg'
                injection hg' with hg' _ _
                subst hg'
                obtain ⟨g', hg', _, _, hcb, _⟩ := R9.out.cell hpb
                injection hg' with hg'
                injection hg' with hg' _ _
                subst hg'
                rw [Nat.zero_add] at hca hcb
                generalize l.getD z 0 = xa at *
                generalize l.getD p 0 = xb at *
                generalize shifted cs l p mc = sh at *
                obtain ⟨yf, yp, yn, ys, ym, yc, ey⟩ := c_eta (cs.getD xb noC)
                obtain ⟨b1, o1, eo, g0, g1, g2, g3, g4, g5⟩ := I9.out.cells HXB.out ey
                injection eo with eo
                injection eo with eo1 eo2
                subst eo1 eo2
                rw [ey] at HSH
                simp only at HSH
                have HXS := Lib.hid (show xa < sh.length by rw [HSL.out]; exact HXA.out)
                obtain ⟨tf, tp, tn, ts, tm, tc, et⟩ := c_eta (sh.getD xa noC)
                obtain ⟨⟨_, _, _, _, _, p5⟩, fz⟩ := OwnCels.spot O9.out HXS.out et
                have q5 := fz (xa * 6 + 5)
                have es : IntKind.i64.wrap ((z : Int) - 1) = (p : Int) := by
                  have := HLL.out
                  have := HLN.out
                  have := HL.out
                  rw [IntWalk.i64_in] <;> omega
                have ew : IntKind.i64.wrap ((z : Int) + 1) = (z : Int) + 1 := by
                  have := HLL.out
                  have := HLN.out
                  have := HL.out
                  rw [IntWalk.i64_in] <;> omega
                have hle : (z : Int) ≤ (j : Int) := by omega
                have hi0 : (0 : Int) ≤ (z : Int) := by omega
                have hi1 : (z : Int) < (l.length : Int) := by omega
                have hk0 : (0 : Int) ≤ (p : Int) := by omega
                have hk1 : (p : Int) < (l.length : Int) := by omega
                have hj0 : (0 : Int) ≤ (xa : Int) := by omega
                have hj1 : (xa : Int) < (cs.length : Int) := by have := HXA.out; omega
                have hm0 : (0 : Int) ≤ (xb : Int) := by omega
                have hm1 : (xb : Int) < (cs.length : Int) := by have := HXB.out; omega
                have SO := OwnCels.setc O9.out HXS.out yc
                rw [← HSH.out] at SO
                have La := Lib.hid (blk_g L9.out SO.2 (by intro e; injection e with e; have := HG2.out; omega))
                have Xa := Lib.hid (blk_g X9.out SO.2 (by intro e; injection e with e; have := HG1.out; omega))
                have Za := Lib.hid (blk_g Z9.out SO.2 (by intro e; injection e with e; have := HG1.out; omega))
                have Ka := Lib.hid (below_grown K9.out SO.2 (by have := HG1.out; omega))
                have Ia := Lib.hid (celsIn_away I9.out SO.2 (fun x hx => by have h1 := HNE.out x hx; have := HG1.out; omega))
                have Ra := Lib.hid (show OwnInts _ w5.heap.size (.slice (some ⟨gl, 0, none⟩) l.length kl) l from World.ownsRow.kept R9.out SO.2 (.inr (fun e => by have h2 : gl = g := Option.some.inj e; have h1 := HVB.out; have := HG2.out; have := HG5.out; omega)))
                have Oa := Lib.hid SO.1
                obtain ⟨c0, c1, c2, c3, c4, c5⟩ := cells6 X9.out
                obtain ⟨d0, d1, d2, d3, d4, d5⟩ := cells6 L9.out
                have HZP := Lib.hid hzp
                clear hzp SO fz ey et L9 X9 Z9 K9 I9 R9 O9 hlt
                go_upto_region 24 with (fail)
                go_region
                clear c0 c1 c2 c3 c4 c5 d0 d1 d2 d3 d4 d5 g0 g1 g2 g3 g4 g5 hca hcb p5 q5
                generalize wr.setCell _ _ = wt at *
                have HD := (Below.refl wt.heap.size wt).drew
                have Lb := Lib.hid (blk La.out HD)
                have Xb := Lib.hid (blk Xa.out HD)
                have Zb := Lib.hid (blk Za.out HD)
                have Ob := Lib.hid (Oa.out.below HD)
                have Kb := kept_hid Ka HD
                have Ib := Lib.hid (Ia.out.below HD)
                have Rb := Lib.hid (Ra.out.below HD)
                clear HD La Xa Za Oa Ka Ia Ra
                generalize wt.drew = wd at *
                go_wp2_with fail
                go_roundg (j + 2 - (z + 1))
                case measure => omega
                case rel => exact ⟨z + 1, by omega, by omega, rfl, rfl, Lb, by rw [Nat.add_sub_cancel]; exact Ob, Xb, Zb, Kb, Ib, Rb⟩
              · obtain rfl : z = j + 1 := by omega
                rw [Nat.add_sub_cancel] at O9
                have hn1 : ¬ ((j + 1 : Nat) : Int) ≤ (j : Int) := by omega
                clear hlt
                go_wp2_with fail
                go_meet
                exact ⟨L9, by simp only [if_true, HJ.out, Option.getD_some]; exact O9, X9, Z9, K9, I9⟩
    case rest =>
      obtain ⟨L6, O6, X6, Z6, K6, I6⟩ := hcut
      have HOL := Lib.hid (show ((if ins = true then shifted cs (line cs kc) ((free cs (line cs kc)).getD 0) mc else mc)).length = cs.length by split <;> simp [shifted_length, HML.out])
      rw [hmc.out] at HLD
      clear HLI HLN HLL HLX HFR HML hmc L5 O5 X5 Z5 K5 I5
      generalize (if ins = true then shifted cs (line cs kc) ((free cs (line cs kc)).getD 0) mc else mc) = oc at *
      obtain ⟨tf, tp, tn, ts, tm, tc, et⟩ := c_eta (oc.getD kc noC)
      have HKO := Lib.hid (show kc < oc.length by rw [HOL.out]; exact HK.out)
      obtain ⟨⟨_, _, _, _, _, p5⟩, fz⟩ := OwnCels.spot O6.out HKO.out et
      have q5 := fz (kc * 6 + 5)
      have hj0 : (0 : Int) ≤ (kc : Int) := by omega
      have hj1 : (kc : Int) < (cs.length : Int) := by have := HK.out; omega
      have SO := OwnCels.setc O6.out HKO.out c
      rw [← HLD.out] at SO
      have L7 := Lib.hid (blk_g L6.out SO.2 (by intro e; injection e with e; have := HG2.out; omega))
      have X7 := Lib.hid (blk_g X6.out SO.2 (by intro e; injection e with e; have := HG1.out; omega))
      have Z7 := Lib.hid (blk_g Z6.out SO.2 (by intro e; injection e with e; have := HG1.out; omega))
      have K7 := Lib.hid (below_grown K6.out SO.2 (by have := HG1.out; omega))
      have O7 := Lib.hid SO.1
      obtain ⟨d0, d1, d2, d3, d4, d5⟩ := cells6 L6.out
      clear SO fz et L6 X6 Z6 K6 I6 O6
      go_upto_region 26 with (fail)
      clear d0 d1 d2 d3 d4 d5 p5 q5
      generalize wc.setCell _ _ = w7 at *
      have HLC := Lib.hid (laid_length ⟨r, q, cs, (kc : Int), false, ins⟩ kc c)
      have HTY := Lib.hid (show typed ⟨r, q, cs, (kc : Int), false, ins⟩ kc c = ⟨r, q, laid ⟨r, q, cs, (kc : Int), false, ins⟩ kc c, ((goes (laid ⟨r, q, cs, (kc : Int), false, ins⟩ kc c) kc : Nat) : Int), false, ins⟩ from rfl)
      simp only at HLC
      generalize laid ⟨r, q, cs, (kc : Int), false, ins⟩ kc c = lc at *
      have HN := Lib.hid fun W (a : Nat) (ha : a < cs.length) => rnext_any r q (some ⟨bA, oA, none⟩) cs.length k (kc : Int) false ins a W ha (by have := HL.out; omega)
      obtain ⟨c0, c1, c2, c3, c4, c5⟩ := cells6 X7.out
      have HN1 := Lib.hid (HN.out w7 kc HK.out)
      go_wp2_with fail
      with_reducible refine HN1.out.mono ?_
      rintro e w8 ⟨rfl, hb⟩
      have L8 := Lib.hid (blk L7.out hb)
      have X8 := Lib.hid (blk X7.out hb)
      have Z8 := Lib.hid (blk Z7.out hb)
      have O8 := Lib.hid (O7.out.below hb)
      have K8 := kept_hid K7 hb
      have HAL := Lib.hid (on_lt (z := cs.length) (by have := HK.out; omega) (kc : Int) 1)
      have HGO := Lib.hid (show goes lc kc = if (lc.getD (on lc.length (kc : Int) 1) noC).f then (if ((lc.getD (on lc.length (kc : Int) 1) noC).p && (lc.getD (on lc.length (kc : Int) 1) noC).n) && decide (0 ≤ next lc (on lc.length (kc : Int) 1)) then (next lc (on lc.length (kc : Int) 1)).toNat else on lc.length ((on lc.length (kc : Int) 1 : Nat) : Int) 1) else on lc.length (kc : Int) 1 from rfl)
      rw [HLC.out] at HGO
      clear hb c0 c1 c2 c3 c4 c5 HN1 L7 X7 Z7 O7 K7
      generalize on cs.length (kc : Int) 1 = at_ at *
      have hi0 : (0 : Int) ≤ (at_ : Int) := by omega
      have hi1 : (at_ : Int) < (cs.length : Int) := by have := HAL.out; omega
      have HAC := Lib.hid (show at_ < lc.length by rw [HLC.out]; exact HAL.out)
      obtain ⟨yf, yp, yn, ys, ym, yc, ey⟩ := c_eta (lc.getD at_ noC)
      obtain ⟨⟨p0, p1, p2, p3, p4, p5⟩, _⟩ := OwnCels.spot O8.out HAC.out ey
      rw [ey] at HGO
      simp only at HGO
      have HA := al_any w8 (.cells #[.bool yf, .bool yp, .bool yn, .int .i64 ys, .bool ym, .int .u8 (yc : Int)] 50)
      have Y9 := Lib.hid (heap_alloc_new w8 (.cells #[.bool yf, .bool yp, .bool yn, .int .i64 ys, .bool ym, .int .u8 (yc : Int)] 50))
      have L9 := Lib.hid (blk L8.out HA)
      have X9 := Lib.hid (blk X8.out HA)
      have Z9 := Lib.hid (blk Z8.out HA)
      have O9 := Lib.hid (O8.out.below HA)
      have K9 := kept_hid K8 HA
      obtain ⟨d0, d1, d2, d3, d4, d5⟩ := cells6 L8.out
      have hgy := there_lt L8.out
      clear HA ey L8 X8 Z8 O8 K8
      go_upto_region 28 with (fail)
      clear d0 d1 d2 d3 d4 d5 p0 p1 p2 p3 p4 p5 hgy
      generalize w8.alloc _ = w9 at *
      generalize w8.heap.size = Y at *
      have HNF := Lib.hid fun W (hb : Below w9.heap.size w9 W) => rnextf_any ⟨r, q, lc, (kc : Int), false, ins⟩ (some ⟨g, 0, none⟩) vc at_ W (by simp only; have := O9.out.to.below hb; rwa [HLC.out]) (by simp only; rw [HLC.out]; have := HK.out; omega) (by simp only; rw [HLC.out]; have := HL.out; omega) HAC.out
      simp only at HNF
      rw [HLC.out] at HNF
      generalize hgo : goes lc kc = gk at *
      replace hgo := Lib.hid hgo
      generalize next lc at_ = N at *
      obtain ⟨e0, e1, e2, e3, e4, e5⟩ := cells6 Y9.out
      go_upto_if 121 with (fail)
      clear e0 e1 e2 e3 e4 e5
      go_cut [13, 15] from 122 to 138 (fun va vb wx => va = .int .i64 ((gk : Nat) : Int) ∧ Hid (Below w9.heap.size w9 wx))
      case first =>
        obtain ⟨e0, e1, e2, e3, e4, e5⟩ := cells6 Y9.out
        obtain ⟨d0, d1, d2, d3, d4, d5⟩ := cells6 L9.out
        obtain ⟨c0, c1, c2, c3, c4, c5⟩ := cells6 X9.out
        have HREF := Lib.hid (Below.refl w9.heap.size w9)
        cases yf with
        | false =>
          have HG := Lib.hid (show gk = at_ from HGO.out)
          clear HGO HNF HN HTY hgo
          go_wp2_with fail
          go_meet
          exact ⟨by rw [HG.out], HREF⟩
        | true =>
          by_cases hpn : (yp && yn) = true
          · rw [Bool.and_eq_true] at hpn
            obtain ⟨rfl, rfl⟩ := hpn
            go_wp2_with fail
            with_reducible refine (HNF.out _ (Below.refl _ _)).mono ?_
            rintro e wa ⟨rfl, hb⟩
            have Xa := Lib.hid (blk X9.out hb)
            have Kb := Lib.hid hb
            clear hb c0 c1 c2 c3 c4 c5 d0 d1 d2 d3 d4 d5 e0 e1 e2 e3 e4 e5
            by_cases hN : 0 ≤ N
            · have hn1 : ¬ N < 0 := by omega
              have HG := Lib.hid (show ((gk : Nat) : Int) = N by rw [HGO.out]; simp [hN]; omega)
              clear HGO HNF HN HTY hgo
              go_wp2_with fail
              go_meet
              exact ⟨by rw [HG.out], Kb⟩
            · have hn1 : N < 0 := by omega
              have HG := Lib.hid (show gk = on cs.length (at_ : Int) 1 by rw [HGO.out]; simp [hn1]; omega)
              have HN2 := Lib.hid (HN.out wa at_ HAL.out)
              obtain ⟨c0, c1, c2, c3, c4, c5⟩ := cells6 Xa.out
              clear HGO HNF HN HTY hgo
              go_wp2_with fail
              with_reducible refine HN2.out.mono ?_
              rintro e wb ⟨rfl, hb⟩
              have Kc := Lib.hid (kept_trans Kb.out hb)
              clear hb c0 c1 c2 c3 c4 c5
              go_wp2_with fail
              go_meet
              exact ⟨by rw [HG.out], Kc⟩
          · have HG := Lib.hid (show gk = on cs.length (at_ : Int) 1 by rw [HGO.out]; simp [hpn])
            have HN2 := Lib.hid (HN.out w9 at_ HAL.out)
            clear HGO HNF HN HTY hgo
            cases yp <;> cases yn <;> first | exact absurd rfl hpn | skip
            all_goals
              clear hpn
              go_wp2_with fail
              with_reducible refine HN2.out.mono ?_
              rintro e wb ⟨rfl, hb⟩
              replace hb := Lib.hid hb
              clear c0 c1 c2 c3 c4 c5 d0 d1 d2 d3 d4 d5 e0 e1 e2 e3 e4 e5
              go_wp2_with fail
              go_meet
              exact ⟨by rw [HG.out], hb⟩
      case rest =>
        obtain ⟨rfl, hb⟩ := hcut
        have La := Lib.hid (blk L9.out hb.out)
        have Za := Lib.hid (blk Z9.out hb.out)
        have Oa := Lib.hid (O9.out.below hb.out)
        have Ka := kept_hid K9 hb.out
        clear L9 Z9 O9 K9 X9 Y9 hb HNF HN HGO
        obtain ⟨d0, d1, d2, d3, d4, d5⟩ := cells6 La.out
        obtain ⟨f0, f1, f2, f3, f4, f5⟩ := free6 La.out
        have SO := gsetCell wc G 3 (.int .i64 ((gk : Nat) : Int))
        have Lb := Lib.hid (show (wc.setCell ⟨G, 3, none⟩ (.int .i64 ((gk : Nat) : Int))).heap[G]? = some (.cells #[.int .i64 r, .int .i64 q, .slice (some ⟨g, 0, none⟩) cs.length vc, .int .i64 ((gk : Nat) : Int), .bool false, .bool ins] 24 (0, 0)) from heap_setCell_same _ G 3 _ 24 _ La.out)
        have Zb := Lib.hid (blk_g Za.out SO (by intro e; injection e with e; have := HG3.out; omega))
        have Ob := Lib.hid (OwnCels.away Oa.out SO (by intro e; have h3 : g = G := Option.some.inj e; have := HG2.out; omega))
        have Kb := Lib.hid (below_grown Ka.out SO (by have := HG3.out; omega))
        clear SO La Za Oa Ka
        go_upto_region 36 with (fail)
        clear d0 d1 d2 d3 d4 d5 f0 f1 f2 f3 f4 f5
        generalize wc.setCell _ _ = wz at *
        obtain ⟨a0, a1, a2, a3, a4, a5⟩ := cells6 Lb.out
        obtain ⟨f0, f1, f2, f3, f4, f5⟩ := free6 Zb.out
        obtain ⟨z0, z1, z2, z3, z4, z5⟩ := cells6 Zb.out
        have SF := Lib.hid (over6 wz (w.heap.size + 1) _ _ _ _ _ _ _ (.int .i64 r) (.int .i64 q) (.slice (some ⟨g, 0, none⟩) cs.length vc) (.int .i64 ((gk : Nat) : Int)) (.bool false) (.bool ins) Zb.out)
        go_wp2_with fail
        clear z0 z1 z2 z3 z4 z5 a0 a1 a2 a3 a4 a5 f0 f1 f2 f3 f4 f5
        generalize (((((wz.setCell _ _).setCell _ _).setCell _ _).setCell _ _).setCell _ _).setCell _ _ = w9 at *
        exact bodyPost_ret (v := .tuple #[.agg #[.int .i64 r, .int .i64 q, .slice (some ⟨g, 0, none⟩) cs.length vc, .int .i64 ((gk : Nat) : Int), .bool false, .bool ins], .int .i64 0, .int .i64 (-1)]) (results_cell_2 rfl _ _ _ (w.heap.size + 1) _ rfl (run_loadVar_row _ (w.heap.size + 1) 24 24 _ (0, 0) _ SF.out.1 Tryd.underlying24 rfl (by kernel_rfl)) (.int .i64 0) (.int .i64 (-1)) rfl rfl) rfl ⟨some ⟨g, 0, none⟩, vc, by rw [HTY.out]; simp only; rw [HLC.out], by rw [HTY.out]; simp only; have := (OwnCels.away Ob.out SF.out.2 (by intro e; have h3 : g = w.heap.size + 1 := Option.some.inj e; have := HG1.out; omega)).to; rwa [HLC.out], below_grown Kb.out SF.out.2 (by omega)⟩
end Edt
end Go.Proofs.YtoafcmklomopaaaDoor
