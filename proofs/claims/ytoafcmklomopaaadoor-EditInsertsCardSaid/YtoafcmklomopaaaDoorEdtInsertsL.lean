/- The law EditInserts. Written by tools/gen_edt_laws.py. -/
import Derived.Test.YtoafcmklomopaaaDoorEdtAwake
import Derived.Test.YtoafcmklomopaaaDoorEdtRtyp3
import Derived.Test.YtoafcmklomopaaaDoorBunGrd
import Derived.Test.YtoafcmklomopaaaDoorBunGrd
import Derived.Test.YtoafcmklomopaaaDoorOpnScr
import Derived.StillTailTactics
import Derived.Deep.Cut
import Derived.Deep.RegionHeld3
namespace Go.Proofs.YtoafcmklomopaaaDoor
open Go.RowKit Sha Six Apd Cut Err Att Grd Fld Scr
set_option linter.unusedVariables false
namespace Edt
set_option maxRecDepth 100000 in
set_option maxHeartbeats 8000000 in
theorem inserts_any (s : S) (ad : Option Addr) (k : Nat) (c : Int) (w : World) (h : CelsIn w (.slice ad s.cs.length k) s.cs) (hwf : Opn.Wf s.cs) (hm : s.cs.length ≤ maxLen) (wc : (Lit.int .u8 c).wf = true) (hg : Handle w) :
    Calls Tryd.prog 6 #[.agg #[.int .i64 s.rows, .int .i64 s.cols, .slice ad s.cs.length k, .int .i64 s.cur, .bool s.lk, .bool s.ins], .int .u8 c] w fun e w' => e = .returned (.bool true) ∧ Below w.heap.size w w' := by
  obtain ⟨b0c, b1c⟩ := Go.Proofs.YtoafcmklomopaaaDoor.Ord.wf_u8 wc
  obtain ⟨c, rfl⟩ := Int.eq_ofNat_of_zero_le b0c
  have HBc := Lib.hid (show c < 256 by omega)
  have HG := Lib.hid fun W (hb : Below w.heap.size w W) => hand_of hg hb
  have HAW := Lib.hid fun W (hb : Below w.heap.size w W) => awake_any W (hand_of hg hb)
  have HB := Lib.hid (al_any w (.cells #[.int .i64 s.rows, .int .i64 s.cols, .slice ad s.cs.length k, .int .i64 s.cur, .bool s.lk, .bool s.ins] 24))
  have HX := Lib.hid (heap_alloc_new w (.cells #[.int .i64 s.rows, .int .i64 s.cols, .slice ad s.cs.length k, .int .i64 s.cur, .bool s.lk, .bool s.ins] 24))
  have HI := Lib.hid (h.below HB.out)
  have HF := Lib.hid fun W hb => rfew_any s ad k W (HI.out.below hb) (wf_sound hwf)
  have H8 := Lib.hid (wf_sound hwf)
  clear h hwf hm hg wc b0c b1c
  cases hf : few s with
  | false =>
    rw [hf] at HF
    go_enter Tryd.func6, Tryd.ntmps6
    go_upto_region 1 with (fail)
    generalize w.alloc _ = w1 at *
    go_wp2_with fail
    with_reducible refine (HAW.out _ HB.out).mono ?_
    rintro e w2 ⟨rfl, hb⟩
    have K2 := Lib.hid hb
    have X2 := Lib.hid (blk HX.out hb)
    have K2' := kept_hid HB hb
    have I2 := Lib.hid (HI.out.below hb)
    clear hb
    obtain ⟨c0, c1, c2, c3, c4, c5⟩ := cells6 X2.out
    go_wp2_with fail
    with_reducible refine (HF.out _ K2.out).mono ?_
    rintro e w3 ⟨rfl, hb⟩
    have K3 := kept_hid K2' hb
    have X3 := Lib.hid (blk X2.out hb)
    have I3 := Lib.hid (I2.out.below hb)
    clear hb c0 c1 c2 c3 c4 c5 K2 K2' X2 I2 HB HX HI HF
    go_wp2_with fail
    with_reducible refine (HAW.out _ K3.out).mono ?_
    rintro e w4 ⟨rfl, hb⟩
    have KE := kept_hid K3 hb
    clear hb
    go_wp2_with fail
    go_ret
    exact ⟨rfl, KE.out⟩
  | true =>
    rw [hf] at HF
    obtain ⟨q1, q2, q3⟩ := few_parts hf
    have HL := Lib.hid q1
    have HP := Lib.hid q2
    have HR := Lib.hid q3
    have HLT := Lib.hid (show s.cs.length < 10000 from by have := HL.out; omega)
    clear q1 q2 q3 hf
    go_enter Tryd.func6, Tryd.ntmps6
    go_upto_region 1 with (fail)
    generalize w.alloc _ = w1 at *
    go_wp2_with fail
    with_reducible refine (HAW.out _ HB.out).mono ?_
    rintro e w2 ⟨rfl, hb⟩
    have K2 := Lib.hid hb
    have X2 := Lib.hid (blk HX.out hb)
    have K2' := kept_hid HB hb
    have I2 := Lib.hid (HI.out.below hb)
    clear hb
    obtain ⟨c0, c1, c2, c3, c4, c5⟩ := cells6 X2.out
    go_wp2_with fail
    with_reducible refine (HF.out _ K2.out).mono ?_
    rintro e w3 ⟨rfl, hb⟩
    have K3 := kept_hid K2' hb
    have X3 := Lib.hid (blk X2.out hb)
    have I3 := Lib.hid (I2.out.below hb)
    clear hb c0 c1 c2 c3 c4 c5 K2 K2' X2 I2 HB HX HI HF
    clear HAW
    obtain ⟨s1, hs1⟩ : ∃ s1 : S, s1 = { s with ins := true, lk := false } := ⟨_, rfl⟩
    have HR1 := Lib.hid (show sright s1 = true from by rw [hs1]; exact HR.out)
    have H81 := Lib.hid (show Sound s1.cs from by rw [hs1]; exact H8.out)
    have HL1 := Lib.hid (show s1.cs.length < 10000 from by rw [hs1]; exact HLT.out)
    have HCS := Lib.hid (show s1.cs = s.cs from by rw [hs1])
    obtain ⟨c0, c1, c2, c3, c4, c5⟩ := cells6 X3.out
    obtain ⟨f0, f1, f2, f3, f4, f5⟩ := free6 X3.out
    have SO := gsetCell w3 w.heap.size 5 (.bool true)
    have X4 := heap_setCell_same w3 w.heap.size 5 _ 24 (.bool true) X3.out
    have I4 := celsIn_away I3.out SO (fun y hy => (not_screen I3.out HP.out X3.out y hy).1)
    have K4 := below_grown K3.out SO (Nat.le_refl _)
    obtain ⟨g0, g1, g2, g3, g4, g5⟩ := cells6 X4
    obtain ⟨q0, q1, q2, q3, q4, q5⟩ := free6 X4
    have SO2 := gsetCell (w3.setCell ⟨w.heap.size, 5, none⟩ (.bool true)) w.heap.size 4 (.bool false)
    have X5 := Lib.hid (show ((w3.setCell ⟨w.heap.size, 5, none⟩ (.bool true)).setCell ⟨w.heap.size, 4, none⟩ (.bool false)).heap[w.heap.size]? = some (.cells #[.int .i64 s1.rows, .int .i64 s1.cols, .slice ad s1.cs.length k, .int .i64 s1.cur, .bool s1.lk, .bool s1.ins] 24 (0, 0)) from by
      rw [hs1]
      exact heap_setCell_same (w3.setCell ⟨w.heap.size, 5, none⟩ (.bool true)) w.heap.size 4 _ 24 (.bool false) X4)
    have I5 := Lib.hid (show CelsIn ((w3.setCell ⟨w.heap.size, 5, none⟩ (.bool true)).setCell ⟨w.heap.size, 4, none⟩ (.bool false)) (.slice ad s1.cs.length k) s1.cs from by
      rw [HCS.out]
      exact celsIn_away I4 SO2 (fun y hy => (not_screen I4 HP.out X4 y hy).1))
    have K5 := Lib.hid (below_grown K4 SO2 (Nat.le_refl _))
    clear SO SO2 X3 I3 K3 X4 I4 K4
    go_upto_region 5 with (fail)
    clear c0 c1 c2 c3 c4 c5 f0 f1 f2 f3 f4 f5 g0 g1 g2 g3 g4 g5 q0 q1 q2 q3 q4 q5
    generalize (w3.setCell _ _).setCell _ _ = w4 at *
    have HCA := Lib.hid (show (typ s1 c).2.1 = 0 → ∃ kc j : Nat, s1.cur = (kc : Int) ∧ kc < s1.cs.length ∧ open_ s1.cs kc = true ∧ free s1.cs (line s1.cs kc) = some j ∧ (typ s1 c).1.cs = laid s1 kc c from fun hcode => by
      obtain ⟨kc, e1, e2, hk⟩ := cur_nat HR1.out
      rcases typ_cases s1 c with ⟨code, _, h0, h | h⟩ | ⟨h, _, _, c3, _, c5⟩
      · rw [h] at hcode; exact absurd hcode h0
      · rw [h] at hcode; exact absurd hcode h0
      rw [e2] at h c3 c5
      obtain ⟨j, hj⟩ := c5 (by rw [hs1])
      exact ⟨kc, j, e1, hk, c3, hj, by rw [h]; rfl⟩)
    have HIN := Lib.hid (show s1.ins = true from by rw [hs1])
    have HTL := Lib.hid (typ_length (s := s1) c)
    clear hs1
    have Q1 := Lib.hid (type_any s1 ad k c w4 I5.out HR1.out H81.out HL1.out HBc.out)
    simp only [GaveE] at Q1
    generalize (typ s1 c).2.2 = wh1 at *
    generalize (typ s1 c).2.1 = code at *
    generalize (typ s1 c).1 = t at *
    obtain ⟨c0, c1, c2, c3, c4, c5⟩ := cells6 X5.out
    go_wp2_with fail
    with_reducible refine Q1.out.mono ?_
    rintro e w5 ⟨va1, vc1, ev1, rfl, hc, ht, hn, hb⟩
    clear c0 c1 c2 c3 c4 c5
    have HA := al_any w5 (.cells #[.int .i64 t.rows, .int .i64 t.cols, .slice va1 t.cs.length vc1, .int .i64 t.cur, .bool t.lk, .bool t.ins] 24)
    have B1 := Lib.hid (heap_alloc_new w5 (.cells #[.int .i64 t.rows, .int .i64 t.cols, .slice va1 t.cs.length vc1, .int .i64 t.cur, .bool t.lk, .bool t.ins] 24))
    have C1 := Lib.hid (hc.below HA)
    have T1 := Lib.hid (Err.Told.below ht HA)
    have E1 := Lib.hid (fun h => (hn h).1)
    clear hn
    replace hb := kept_trans hb HA
    replace X5 := Lib.hid (blk X5.out hb)
    replace I5 := Lib.hid (I5.out.below hb)
    replace K5 := kept_hid K5 hb
    clear HA hc ht hb
    go_upto_region 6 with (fail)
    generalize w5.heap.size = N1 at *
    generalize w5.alloc _ = w5b at *
    by_cases h1 : code = 0
    · have e1 := E1.out (by omega)
      subst e1
      obtain ⟨kc, j, hcur, hk, hop, hfr, hts⟩ := HCA.out h1
      obtain ⟨j1, j2, j3⟩ := free_some hfr
      have HLN := Lib.hid (lineLen_pos hk hop)
      rw [line_length] at j1
      obtain ⟨i1, i2⟩ := insert_at (c := c) hk hop HIN.out hfr
      have HFC := Lib.hid (show (t.cs.getD kc noC).c = c from by rw [hts]; exact i1)
      have HFW := Lib.hid (fun i (hi : i + 1 < lineLen s1.cs kc) => (show (t.cs.getD (on s1.cs.length (kc : Int) ((i + 1 : Nat) : Int)) noC).c = (was s1.cs kc j (lineLen s1.cs kc)).getD i 0 from by rw [hts]; exact i2 i hi))
      have HZ := Lib.hid (show ∀ q, q < lineLen s1.cs kc → q ≤ j → (cz s1.cs kc q = 0 ↔ q = j) from fun q hq hqj => by
        rw [line_getD j1] at j2
        refine ⟨fun h => ?_, fun h => by subst h; exact j2⟩
        rcases Nat.lt_or_ge q j with hl | hl
        · have := j3 q hl
          rw [line_getD hq] at this
          exact absurd h this
        · omega)
      have HJ := Lib.hid j1
      have HK := Lib.hid hk
      have HTC := Lib.hid (show t.cs.length = s1.cs.length from HTL.out.1)
      have HLI := Lib.hid fun W (h : CelsIn W (.slice ad s1.cs.length k) s1.cs) => rline_any s1 ad k kc W h HL1.out (by omega) hk
      have HLL := Lib.hid (line_length s1.cs kc)
      have HLG := Lib.hid (fun i (hi : i < lineLen s1.cs kc) => line_getD hi)
      have HLX := Lib.hid (fun i (hi : i < lineLen s1.cs kc) => on_lt (z := s1.cs.length) (by omega) (kc : Int) (i : Int))
      have HCZ := Lib.hid (fun i => (show cz s1.cs kc i = (s1.cs.getD (on s1.cs.length (kc : Int) (i : Int)) noC).c from rfl))
      have HCL := Lib.hid (fun i => (show cz s1.cs kc i < 256 from sound_at H81.out _))
      have HWS := Lib.hid (was_succ s1.cs kc j)
      have HWL := Lib.hid (fun q => (was_spec s1.cs kc j q).1)
      have HON := Lib.hid (show on s1.cs.length (kc : Int) ((0 : Nat) : Int) = kc from on_zero hk)
      rw [hcur] at X5 HLI
      clear h1 HCA E1 T1 hfr hts j1 j2 j3 i1 i2 hop hcur HIN hk
      generalize was s1.cs kc j = wf at *
      generalize cz s1.cs kc = zf at *
      generalize hlf : (fun i : Nat => on s1.cs.length (kc : Int) (i : Int)) = lf at *
      have HLF := Lib.hid (show ∀ i : Nat, on s1.cs.length (kc : Int) (i : Int) = lf i from fun i => by rw [← hlf])
      simp only [HLF.out] at HLG HLX HCZ HFW HON
      clear hlf HLF
      generalize lineLen s1.cs kc = n at *
      generalize line s1.cs kc = l at *
      obtain ⟨c0, c1, c2, c3, c4, c5⟩ := cells6 X5.out
      go_wp2_with fail
      with_reducible refine (HLI.out _ I5.out).mono ?_
      rintro e w6 ⟨vl, rfl, hl6, hb⟩
      clear c0 c1 c2 c3 c4 c5 HLI
      obtain ⟨al, kl, rfl⟩ := hl6.form
      obtain ⟨gl, hgl0, _⟩ := hl6.cell (i := 0) (by rw [HLL.out]; exact HLN.out.1)
      subst hgl0
      have R6 := Lib.hid hl6
      have X6 := Lib.hid (blk X5.out hb)
      have B6 := Lib.hid (blk B1.out hb)
      have C6' := Lib.hid (C1.out.below hb)
      have I6 := Lib.hid (I5.out.below hb)
      have K6 := kept_hid K5 hb
      have HVL := Lib.hid ((own_blocks hl6 _ rfl).2)
      clear hl6 hb X5 B1 C1 I5 K5
      have HW6 := Lib.hid K6.out.size
      have O0 := Lib.hid (show w6.ownsRow w6.heap.size 5 1 (.slice none 0 0) (wf 0).length (u8s (wf 0)) from by
        have e : wf 0 = [] := List.eq_nil_of_length_eq_zero (by rw [HWL.out 0, if_neg (by omega)])
        rw [e]
        exact World.ownsRow_nil _ _ _ _)
      have HWX := Lib.hid (show w.heap.size < w6.heap.size from there_lt X6.out)
      have HBX := Lib.hid (show N1 < w6.heap.size from there_lt B6.out)
      have HCX := Lib.hid (show ∀ y, va1 = some y → y.block < w6.heap.size from celsIn_lt C6'.out (by rw [HTC.out]; have := HK.out; omega))
      have HIX := Lib.hid (show ∀ y, ad = some y → y.block < w6.heap.size from celsIn_lt I6.out (by have := HK.out; omega))
      go_wp2_with fail
      go_loopg [8, 9, 10] (n + 1) (fun mm v gg ii wr => ∃ q : Nat, q ≤ n ∧ mm = n + 1 - q ∧ ii = .int .i64 q ∧ gg = .bool (decide (j < q)) ∧ Hid (wr.ownsRow w6.heap.size 5 1 v (wf q).length (u8s (wf q))) ∧ Hid (wr.heap[w.heap.size]? = some (.cells #[.int .i64 s1.rows, .int .i64 s1.cols, .slice ad s1.cs.length k, .int .i64 (kc : Int), .bool s1.lk, .bool s1.ins] 24 (0, 0))) ∧ Hid (wr.heap[N1]? = some (.cells #[.int .i64 t.rows, .int .i64 t.cols, .slice va1 t.cs.length vc1, .int .i64 t.cur, .bool t.lk, .bool t.ins] 24 (0, 0))) ∧ Hid (CelsIn wr (.slice va1 t.cs.length vc1) t.cs) ∧ Hid (CelsIn wr (.slice ad s1.cs.length k) s1.cs) ∧ Hid (OwnInts wr w5b.heap.size (.slice (some ⟨gl, 0, none⟩) l.length kl) l) ∧ Hid (Below w.heap.size w wr)  ∧ Hid (w6.heap.size ≤ wr.heap.size))
      case atStart => exact ⟨0, Nat.zero_le _, rfl, rfl, by simp, O0, X6, B6, C6', I6, R6, K6, Nat.le_refl _⟩
      case round =>
        obtain ⟨q, hq, rfl, rfl, rfl, O7, X7, B7, C7, I7, R7, K7, L7⟩ := hrel
        clear O0 X6 B6 C6' I6 R6 K6
        have ew : IntKind.i64.wrap ((q : Int) + 1) = (q : Int) + 1 := by
          have := HLN.out
          have := HL1.out
          rw [IntWalk.i64_in] <;> omega
        obtain ⟨vo, ko, rfl⟩ := own_form O7.out
        by_cases hlt : q < n
        · have hi0 : (0 : Int) ≤ (q : Int) := by omega
          have hi1 : (q : Int) < (l.length : Int) := by rw [HLL.out]; omega
          have HX := Lib.hid (HLX.out q hlt)
          have HGD := Lib.hid (HLG.out q hlt)
          have HC := Lib.hid (HCZ.out q)
          have HC8 := Lib.hid (HCL.out q)
          have HS := Lib.hid (HWS.out q)
          have HZq := Lib.hid (HZ.out q hlt)
          have HWLq := Lib.hid (HWL.out q)
          obtain ⟨g', hg', _, hgl, hcell, _⟩ := R7.out.cell (i := q) (by rw [HLL.out]; exact hlt)
          injection hg' with hg'
          injection hg' with hg' _ _
          subst hg'
          rw [Nat.zero_add, HGD.out] at hcell
          generalize lf q = x at *
          generalize zf q = y at *
          have hj0 : (0 : Int) ≤ (x : Int) := by omega
          have hj1 : (x : Int) < (s1.cs.length : Int) := by have := HX.out; omega
          obtain ⟨yf, yp, yn, ys, ym, yc, ey⟩ := c_eta (s1.cs.getD x noC)
          obtain ⟨b1, o1, rfl, g0, g1, g2, g3, g4, g5⟩ := I7.out.cells HX.out ey
          rw [ey] at HC
          have hyc : yc = y := HC.out.symm
          subst hyc
          obtain ⟨c0, c1, c2, c3, c4, c5⟩ := cells6 X7.out
          have HD := (Below.refl wr.heap.size wr).drew
          have X8 := Lib.hid (blk X7.out HD)
          have B8 := Lib.hid (blk B7.out HD)
          have C8 := Lib.hid (C7.out.below HD)
          have I8 := Lib.hid (I7.out.below HD)
          have R8 := Lib.hid (R7.out.below HD)
          have K8 := kept_hid K7 HD
          have O8 := Lib.hid (own_below O7.out HD)
          have L8 := Lib.hid (Nat.le_trans L7.out HD.size)
          clear HD X7 B7 C7 I7 R7 K7 O7 L7 ey
          go_upto_region 14 with (fail)
          go_region
          clear c0 c1 c2 c3 c4 c5 g0 g1 g2 g3 g4 g5 hcell hgl
          generalize wr.drew = wd at *
          by_cases hqj : q = j
          · have e0 : ((yc : Int) == 0) = true := by have := (HZq.out (by omega)).2 hqj; simp; omega
            have e1 : decide (j < q) = false := by simp; omega
            have HE := Lib.hid (show wf (q + 1) = wf q by rw [HS.out, if_pos hqj])
            have HQJ := Lib.hid hqj
            rw [e1]
            clear hqj e1
            go_wp2_with fail
            go_roundg (n + 1 - (q + 1))
            case measure => omega
            case rel => exact ⟨q + 1, by omega, rfl, rfl, by have := HQJ.out; simp; omega, by rw [HE.out]; exact O8, X8, B8, C8, I8, R8, K8, L8⟩
          · have HE := Lib.hid (show wf (q + 1) = wf q ++ [yc] by rw [HS.out, if_neg hqj])
            have HQJ := Lib.hid hqj
            have HWB := Lib.hid (show (wf q).length < 100000 by rw [HWLq.out]; have := HLN.out; have := HL1.out; split <;> omega)
            have HAL := al_any wd (.cells (u8s [yc]).toArray 5)
            have X9 := Lib.hid (blk X8.out HAL)
            have B9 := Lib.hid (blk B8.out HAL)
            have C9 := Lib.hid (C8.out.below HAL)
            have I9 := Lib.hid (I8.out.below HAL)
            have R9 := Lib.hid (R8.out.below HAL)
            have K9 := kept_hid K8 HAL
            have O9 := Lib.hid (own_below O8.out HAL)
            have L9 := Lib.hid (Nat.le_trans L8.out HAL.size)
            have LT := Lib.hid (lit_in wd [yc])
            have HOG := Lib.hid (show ∀ g, (Value.slice vo (wf q).length ko).ownBlock = some g → w6.heap.size ≤ g from own_ge O9.out)
            have HON1 := Lib.hid (own_nil O9.out)
            clear HAL X8 B8 C8 I8 R8 K8 O8 L8 hqj
            have HB1 := Lib.hid (there_lt B9.out)
            by_cases hjq : j < q
            · have e1 : decide (j < q) = true := by simpa using hjq
              have HJQ := Lib.hid hjq
              rw [e1]
              clear e1 hjq
              rcases Bool.eq_false_or_eq_true ((yc : Int) == 0) with e0 | e0
              all_goals
                go_wp2_with (at_builtin; refine wpList_mark ?_)
                refine Lib.hid ?_
                refine append_own rfl (.tmp 56) (.tmp 58) rfl w6.heap.size (.slice vo (wf q).length ko) (wf q).length (u8s (wf q)) rfl O9.out (some ⟨wd.heap.size, 0, none⟩) 1 1 [yc] rfl rfl nofun (bytes_src LT.out) (by have := HWB.out; omega) L9.out ?_
                intro v' wA hown hgr _
                have OA := Lib.hid (show wA.ownsRow w6.heap.size 5 1 v' (wf (q + 1)).length (u8s (wf (q + 1))) from by
                  rw [HE.out, List.length_append]
                  have e : u8s (wf q ++ [yc]) = u8s (wf q) ++ u8s [yc] := by simp [u8s]
                  rw [e]
                  exact hown)
                have XA := Lib.hid (blk_g X9.out hgr (fun e => by have h1 := HOG.out _ e.symm; have h2 := HWX.out; omega))
                have BA := Lib.hid (blk_g B9.out hgr (fun e => by have h1 := HOG.out _ e.symm; have h2 := HBX.out; omega))
                have CA := Lib.hid (celsIn_grown C9.out hgr (fun y hy g hg => by have h1 := HOG.out _ hg; have h2 := HCX.out y hy; omega))
                have IA := Lib.hid (celsIn_grown I9.out hgr (fun y hy g hg => by have h1 := HOG.out _ hg; have h2 := HIX.out y hy; omega))
                have RA := Lib.hid (show OwnInts wA w5b.heap.size (.slice (some ⟨gl, 0, none⟩) l.length kl) l from World.ownsRow.kept R9.out hgr (.inr (fun e => by have h1 : w6.heap.size ≤ gl := HOG.out _ e.symm; have h2 : gl < w6.heap.size := HVL.out; omega)))
                have KA := Lib.hid (K9.out.grown hgr K9.out.size (fun g hg => by have h1 := HOG.out _ hg; have h3 := HW6.out; omega))
                have LA := Lib.hid (Nat.le_trans L9.out hgr.size)
                obtain ⟨v7, k7, rfl⟩ := own_form OA.out
                clear hown hgr O9 X9 B9 C9 I9 R9 K9 L9 LT HOG
                go_wp2_with fail
                go_roundg (n + 1 - (q + 1))
                case measure => omega
                case rel => exact ⟨q + 1, by omega, rfl, rfl, by have h1 := HJQ.out; have h2 := HQJ.out; rw [decide_eq_true (show j < q + 1 by omega)], OA, XA, BA, CA, IA, RA, KA, LA⟩
            · have e1 : decide (j < q) = false := by simpa using hjq
              have e0 : ((yc : Int) == 0) = false := by
                have h1 := HZq.out (by omega)
                have h2 := HQJ.out
                rw [beq_eq_false_iff_ne]
                intro h
                exact h2 (h1.1 (by omega))
              have HJQ := Lib.hid hjq
              rw [e1]
              clear e1 hjq
              go_wp2_with (at_builtin; refine wpList_mark ?_)
              refine Lib.hid ?_
              refine append_own rfl (.tmp 56) (.tmp 58) rfl w6.heap.size (.slice vo (wf q).length ko) (wf q).length (u8s (wf q)) rfl O9.out (some ⟨wd.heap.size, 0, none⟩) 1 1 [yc] rfl rfl nofun (bytes_src LT.out) (by have := HWB.out; omega) L9.out ?_
              intro v' wA hown hgr _
              have OA := Lib.hid (show wA.ownsRow w6.heap.size 5 1 v' (wf (q + 1)).length (u8s (wf (q + 1))) from by
                rw [HE.out, List.length_append]
                have e : u8s (wf q ++ [yc]) = u8s (wf q) ++ u8s [yc] := by simp [u8s]
                rw [e]
                exact hown)
              have XA := Lib.hid (blk_g X9.out hgr (fun e => by have h1 := HOG.out _ e.symm; have h2 := HWX.out; omega))
              have BA := Lib.hid (blk_g B9.out hgr (fun e => by have h1 := HOG.out _ e.symm; have h2 := HBX.out; omega))
              have CA := Lib.hid (celsIn_grown C9.out hgr (fun y hy g hg => by have h1 := HOG.out _ hg; have h2 := HCX.out y hy; omega))
              have IA := Lib.hid (celsIn_grown I9.out hgr (fun y hy g hg => by have h1 := HOG.out _ hg; have h2 := HIX.out y hy; omega))
              have RA := Lib.hid (show OwnInts wA w5b.heap.size (.slice (some ⟨gl, 0, none⟩) l.length kl) l from World.ownsRow.kept R9.out hgr (.inr (fun e => by have h1 : w6.heap.size ≤ gl := HOG.out _ e.symm; have h2 : gl < w6.heap.size := HVL.out; omega)))
              have KA := Lib.hid (K9.out.grown hgr K9.out.size (fun g hg => by have h1 := HOG.out _ hg; have h3 := HW6.out; omega))
              have LA := Lib.hid (Nat.le_trans L9.out hgr.size)
              obtain ⟨v7, k7, rfl⟩ := own_form OA.out
              clear hown hgr O9 X9 B9 C9 I9 R9 K9 L9 LT HOG
              go_wp2_with fail
              go_roundg (n + 1 - (q + 1))
              case measure => omega
              case rel => exact ⟨q + 1, by omega, rfl, rfl, by have h1 := HJQ.out; have h2 := HQJ.out; rw [decide_eq_false (show ¬ j < q + 1 by omega)], OA, XA, BA, CA, IA, RA, KA, LA⟩
        · obtain rfl : q = n := by omega
          have hn0 : ¬ (q : Int) < (l.length : Int) := by rw [HLL.out]; omega
          have hgone : decide (j < q) = true := by simpa using HJ.out
          have HWN := Lib.hid (show (wf q).length + 1 = q from by rw [HWL.out, if_pos HJ.out]; have := HLN.out; omega)
          have e0 : ((l.length : Int) == 0) = false := by rw [HLL.out, beq_eq_false_iff_ne]; have := HLN.out; omega
          have ea : IntKind.i64.wrap (((wf q).length : Int) + 1) = (l.length : Int) := by
            have := HLN.out
            have := HL1.out
            have := HWN.out
            rw [HLL.out, IntWalk.i64_in] <;> omega
          have hea : (((l.length : Int)) != (l.length : Int)) = false := by simp
          have hi0 : (0 : Int) ≤ 0 := by omega
          have hi1 : (0 : Int) < (l.length : Int) := by rw [HLL.out]; have := HLN.out; omega
          obtain ⟨g', hg', _, hgl, hcell, _⟩ := R7.out.cell (i := 0) (by rw [HLL.out]; exact HLN.out.1)
          injection hg' with hg'
          injection hg' with hg' _ _
          subst hg'
          rw [Nat.zero_add, HLG.out 0 HLN.out.1, HON.out] at hcell
          have hj0 : (0 : Int) ≤ (kc : Int) := by omega
          have hj1 : (kc : Int) < (t.cs.length : Int) := by rw [HTC.out]; have := HK.out; omega
          obtain ⟨yf, yp, yn, ys, ym, yc, ey⟩ := c_eta (t.cs.getD kc noC)
          obtain ⟨b1, o1, rfl, g0, g1, g2, g3, g4, g5⟩ := C7.out.cells (by rw [HTC.out]; exact HK.out) ey
          have hyc : yc = c := by have := HFC.out; rw [ey] at this; exact this
          subst hyc
          have hcc : ((yc : Int) != (yc : Int)) = false := by simp
          obtain ⟨c0, c1, c2, c3, c4, c5⟩ := cells6 B7.out
          have HD := (Below.refl wr.heap.size wr).drew
          have B8 := Lib.hid (blk B7.out HD)
          have C8 := Lib.hid (C7.out.below HD)
          have R8 := Lib.hid (R7.out.below HD)
          have K8 := kept_hid K7 HD
          have O8 := Lib.hid (own_below O7.out HD)
          rw [hgone]
          clear HD X7 B7 C7 I7 R7 K7 O7 L7 ey hgone hlt HFC
          go_upto_region 18 with (fail)
          go_region
          clear c0 c1 c2 c3 c4 c5 g0 g1 g2 g3 g4 g5 hcell hgl hcc hea ea e0 hi0 hi1 hj0 hj1 hn0
          generalize wr.drew = wd at *
          obtain ⟨ab, cb, hvb, _, hbc⟩ := own_bytes O8.out
          injection hvb with eb1 eb2 eb3
          subst eb1 eb3
          replace hbc := Lib.hid hbc
          clear eb2
          obtain ⟨wo, rfl⟩ : ∃ wo : World, wo = wd := ⟨_, rfl⟩
          go_wp2_with fail
          go_loopg [12] ((wf q).length + 1) (fun mm ii wr => ∃ i : Nat, i ≤ (wf q).length ∧ mm = (wf q).length + 1 - i ∧ ii = .int .i64 i ∧ Hid (Below wo.heap.size wo wr))
          case atStart => exact ⟨0, Nat.zero_le _, rfl, rfl, Lib.hid (Below.refl _ _)⟩
          case round =>
            obtain ⟨i, hi, rfl, rfl, K9⟩ := hrel
            obtain ⟨z, hz⟩ : ∃ z, z = i + 1 := ⟨_, rfl⟩
            have ew : IntKind.i64.wrap ((i : Int) + 1) = (z : Int) := by
              have := HLN.out
              have := HL1.out
              have := HWN.out
              rw [IntWalk.i64_in] <;> omega
            by_cases hlt : i < (wf q).length
            · have hzl : z < q := by have := HWN.out; omega
              rcases hbc.out with h0 | ⟨gb, ob, rfl, hbc2⟩
              · rw [h0] at hlt; exact absurd hlt (Nat.not_lt_zero _)
              have hb9 := (K9.out.cell (p := ⟨gb, ob + i, none⟩) (cell_lt (hbc2 i hlt))).trans (hbc2 i hlt)
              obtain ⟨g', hg', _, hgl, hcell, _⟩ := (R8.out.below K9.out).cell (i := z) (by rw [HLL.out]; exact hzl)
              injection hg' with hg'
              injection hg' with hg' _ _
              subst hg'
              rw [Nat.zero_add, HLG.out z hzl] at hcell
              have HX := Lib.hid (HLX.out z hzl)
              have HFi := Lib.hid (HFW.out i (by omega))
              rw [← hz] at HFi
              generalize lf z = x at *
              generalize (wf q).getD i 0 = y at *
              have hj0 : (0 : Int) ≤ (x : Int) := by omega
              have hj1 : (x : Int) < (t.cs.length : Int) := by rw [HTC.out]; have := HX.out; omega
              have hi0 : (0 : Int) ≤ (z : Int) := by omega
              have hi1 : (z : Int) < (l.length : Int) := by rw [HLL.out]; omega
              have hk0 : (0 : Int) ≤ (i : Int) := by omega
              have hk1 : (i : Int) < ((wf q).length : Int) := by omega
              obtain ⟨yf, yp, yn, ys, ym, yd, ey⟩ := c_eta (t.cs.getD x noC)
              obtain ⟨b2, o2, eo, g0, g1, g2, g3, g4, g5⟩ := (C8.out.below K9.out).cells (by rw [HTC.out]; exact HX.out) ey
              injection eo with eo
              injection eo with eo1 eo2
              subst eo1 eo2
              have hyd : yd = y := by have := HFi.out; rw [ey] at this; exact this
              subst hyd
              have hcc : ((yd : Int) != (yd : Int)) = false := by simp
              obtain ⟨c0, c1, c2, c3, c4, c5⟩ := cells6 (blk B8.out K9.out)
              have Ka := kept_hid K9 ((Below.refl wr.heap.size wr).drew)
              have HZE := Lib.hid hz
              clear ey K9 hz hbc2
              go_upto_region 23 with (fail)
              go_region
              clear c0 c1 c2 c3 c4 c5 g0 g1 g2 g3 g4 g5 hcell hgl hcc hb9
              generalize wr.drew = wd at *
              go_wp2_with fail
              go_roundg ((wf q).length + 1 - z)
              case measure => have := HZE.out; omega
              case rel => exact ⟨z, by have := HZE.out; omega, rfl, rfl, Ka⟩
            · have hn1 : ¬ (i : Int) < ((wf q).length : Int) := by omega
              have Ka := kept_hid K8 K9.out
              clear K9 hlt hz
              go_wp2_with fail
              go_ret
              exact ⟨rfl, Ka.out⟩
    · rcases T1.out with ⟨_, q1, _⟩ | ⟨rfl, _⟩ | ⟨_, _, rfl, _⟩
      · exact absurd q1 (by omega)
      all_goals
        clear h1 HCA T1 E1
        go_wp2_with fail
        go_ret
        exact ⟨rfl, K5.out⟩
end Edt
end Go.Proofs.YtoafcmklomopaaaDoor
