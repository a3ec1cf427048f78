/- Package edit's calls: Type. (Written by tools/gen_edt_code.py.) -/
import Derived.Test.YtaopkelobglnbaaDoorEdtPut
import Derived.Test.YtaopkelobglnbaaDoorScrLay
import Derived.Test.YtaopkelobglnbaaDoorBunErr
import Derived.StillTailTactics
namespace Go.Proofs.YtaopkelobglnbaaDoor
open Go.RowKit Sha Six Apd Cut Err Att Grd Fld Scr
set_option linter.unusedVariables false
namespace Edt
theorem run_num (p n : Bool) (s : Int) (m : Bool) (w : World) : (Instr.field 33 (.agg #[.bool p, .bool n, .int .i64 s, .bool m]) 1).run Tryd.prog w = .ok (.bool n) w := by kernel_rfl
theorem typ_1 {s : S} {c : Nat} (h : ltr c = false) : typ s c = (s, 3, -1) := by unfold typ; rw [if_pos h]
theorem typ_2 {s : S} {c : Nat} (h : ltr c = true) (h2 : s.lk = true) : typ s c = (s, 7, -1) := by unfold typ; rw [if_neg (by rw [h]; decide), if_pos h2]
theorem typ_3 {s : S} {c : Nat} (h : ltr c = true) (h2 : s.lk = false) (h3 : open_ s.cs s.cur.toNat = false) : typ s c = (deny s, 8, s.cur) := by unfold typ; rw [if_neg (by rw [h]; decide), if_neg (by rw [h2]; decide), if_pos h3]
theorem typ_4 {s : S} {c : Nat} (h : ltr c = true) (h2 : s.lk = false) (h3 : open_ s.cs s.cur.toNat = true) (h4 : ((attrOf s.cs s.cur.toNat).n && !suits c) = true) : typ s c = (deny s, 9, s.cur) := by unfold typ; rw [if_neg (by rw [h]; decide), if_neg (by rw [h2]; decide), if_neg (by rw [h3]; decide), if_pos (by rw [suits_not]; exact h4)]
theorem typ_5 {s : S} {c : Nat} (h : ltr c = true) (h2 : s.lk = false) (h3 : open_ s.cs s.cur.toNat = true) (h4 : ((attrOf s.cs s.cur.toNat).n && !suits c) = false) (h5 : s.ins = true) (h6 : free s.cs (line s.cs s.cur.toNat) = none) : typ s c = (deny s, 10, s.cur) := by unfold typ; rw [if_neg (by rw [h]; decide), if_neg (by rw [h2]; decide), if_neg (by rw [h3]; decide), if_neg (by rw [suits_not, h4]; decide), if_pos (by rw [h5, h6]; rfl)]
theorem typ_6 {s : S} {c : Nat} (h : ltr c = true) (h2 : s.lk = false) (h3 : open_ s.cs s.cur.toNat = true) (h4 : ((attrOf s.cs s.cur.toNat).n && !suits c) = false) (h5 : (s.ins && (free s.cs (line s.cs s.cur.toNat)).isNone) = false) : typ s c = (typed s s.cur.toNat c, 0, -1) := by unfold typ; rw [if_neg (by rw [h]; decide), if_neg (by rw [h2]; decide), if_neg (by rw [h3]; decide), if_neg (by rw [suits_not, h4]; decide), if_neg (by rw [h5]; decide)]
set_option maxRecDepth 100000 in
set_option maxHeartbeats 8000000 in
theorem type_any (s : S) (ad : Option Addr) (k c : Nat) (w : World) (h : CelsIn w (.slice ad s.cs.length k) s.cs) (hr : sright s = true) (h8 : Sound s.cs) (hl : s.cs.length < 10000) (hc : c < 256) :
    Calls Tryd.prog 17 #[.agg #[.int .i64 s.rows, .int .i64 s.cols, .slice ad s.cs.length k, .int .i64 s.cur, .bool s.lk, .bool s.ins], .int .u8 (c : Int)] w fun e w' => GaveE w w' (typ s c).1 ((typ s c).2.1 : Nat) (typ s c).2.2 e := by
  obtain ⟨kk, hk1, _, hk3⟩ := cur_nat hr
  obtain ⟨r, cc, cs, cur, lk, ins⟩ := s
  simp only at *
  subst hk1
  have HP := Lib.hid (show 0 < cs.length by omega)
  have HB := Lib.hid (kept_trans (al_any w (.cells #[.int .i64 r, .int .i64 cc, .slice ad cs.length k, .int .i64 (kk : Int), .bool lk, .bool ins] 24)) (al_any _ (.cells #[.int .i64 0, .int .i64 0, .slice none 0 0, .int .i64 0, .bool false, .bool false] 24)))
  have HX := Lib.hid (heap_alloc2_old w (.cells #[.int .i64 r, .int .i64 cc, .slice ad cs.length k, .int .i64 (kk : Int), .bool lk, .bool ins] 24) (.cells #[.int .i64 0, .int .i64 0, .slice none 0 0, .int .i64 0, .bool false, .bool false] 24))
  have HZ := Lib.hid (heap_alloc2_new w (.cells #[.int .i64 r, .int .i64 cc, .slice ad cs.length k, .int .i64 (kk : Int), .bool lk, .bool ins] 24) (.cells #[.int .i64 0, .int .i64 0, .slice none 0 0, .int .i64 0, .bool false, .bool false] 24))
  have HI := Lib.hid (h.below HB.out)
  have HR := Lib.hid hr
  have H8 := Lib.hid h8
  have HL := Lib.hid hl
  have HC := Lib.hid hc
  have HK := Lib.hid hk3
  have HLN := Lib.hid fun W hb => line_any ⟨r, cc, cs, (kk : Int), lk, ins⟩ ad k kk W (HI.out.below hb) h8 hl hk3
  have HCH := Lib.hid fun W => char_any c W hc
  have HLE := Lib.hid (show (line cs kk).length ≤ cs.length by rw [line_length]; exact lineLen_le hk3)
  have e0 : ((c : Int) == 0) = (c == 0) := by rw [Bool.eq_iff_iff]; simp
  simp only at HLN
  clear h hr h8 hl hc hk3
  go_enter Tryd.func17, Tryd.ntmps17
  go_upto_region 1 with (fail)
  generalize (w.alloc _).alloc _ = w1 at *
  have hzx := Lib.hid (there_lt HZ.out)
  obtain ⟨c0, c1, c2, c3, c4, c5⟩ := cells6 HX.out
  go_wp2_with fail
  with_reducible refine (HLN.out _ (Below.refl _ _)).mono ?_
  rintro e w2 ⟨v, rfl, hv, hb⟩
  clear c0 c1 c2 c3 c4 c5
  have X2 := Lib.hid (blk HX.out hb)
  have Z2 := Lib.hid (blk HZ.out hb)
  have I2 := Lib.hid (HI.out.below hb)
  have K2 := Lib.hid (kept_trans HB.out hb)
  have HV := Lib.hid hv
  obtain ⟨va, vc, rfl⟩ := hv.form
  clear hv hb HX HZ HI HB HLN
  by_cases h1 : c = 0
  · subst h1
    have HT := Lib.hid (show typ ⟨r, cc, cs, (kk : Int), lk, ins⟩ 0 = (⟨r, cc, cs, (kk : Int), lk, ins⟩, 3, -1) from rfl)
    obtain ⟨c0, c1, c2, c3, c4, c5⟩ := cells6 X2.out
    have SF := Lib.hid (lay_E (t := (⟨r, cc, cs, (kk : Int), lk, ins⟩ : S)) Z2.out I2.out (show Err.Told w2 (.iface 52 (.int .i64 3)) 3 (-1) from .inr (.inl ⟨rfl, rfl⟩)) K2.out (show w.heap.size ≤ w.heap.size + 1 by omega) HP.out)
    obtain ⟨f0, f1, f2, f3, f4, f5⟩ := free6 Z2.out
    obtain ⟨z0, z1, z2, z3, z4, z5⟩ := cells6 Z2.out
    go_wp2_with fail
    clear c0 c1 c2 c3 c4 c5
    clear z0 z1 z2 z3 z4 z5 f0 f1 f2 f3 f4 f5
    generalize (((((w2.setCell _ _).setCell _ _).setCell _ _).setCell _ _).setCell _ _).setCell _ _ = w9 at *
    rw [HT.out]
    exact bodyPost_ret (v := .tuple #[.agg (six ad k (⟨r, cc, cs, (kk : Int), lk, ins⟩ : S)), .iface 52 (.int .i64 3)]) (results_cell_row_tmp rfl _ _ _ (w.heap.size + 1) _ rfl (run_loadVar_row w9 (w.heap.size + 1) 24 24 _ (0, 0) _ SF.out.1 Tryd.underlying24 rfl (by kernel_rfl)) _ rfl) rfl ⟨ad, k, _, rfl, SF.out.2.1, SF.out.2.2.1, fun h0 => absurd h0 (show ((3 : Nat) : Int) ≠ 0 by decide), SF.out.2.2.2⟩
  have e1 : (c == 0) = false := by simpa using h1
  rw [e1] at e0
  have HC0 := Lib.hid h1
  clear h1 e1
  cases hch : Att.char c with
  | false =>
    have HT := Lib.hid (show typ ⟨r, cc, cs, (kk : Int), lk, ins⟩ c = (⟨r, cc, cs, (kk : Int), lk, ins⟩, 3, -1) from typ_1 (by unfold ltr; rw [hch]; simp))
    rw [hch] at HCH
    clear hch
    obtain ⟨c0, c1, c2, c3, c4, c5⟩ := cells6 X2.out
    have SF := Lib.hid (lay_E (t := (⟨r, cc, cs, (kk : Int), lk, ins⟩ : S)) Z2.out I2.out (show Err.Told w2 (.iface 52 (.int .i64 3)) 3 (-1) from .inr (.inl ⟨rfl, rfl⟩)) K2.out (show w.heap.size ≤ w.heap.size + 1 by omega) HP.out)
    obtain ⟨f0, f1, f2, f3, f4, f5⟩ := free6 Z2.out
    obtain ⟨z0, z1, z2, z3, z4, z5⟩ := cells6 Z2.out
    go_wp2_with fail
    with_reducible refine (HCH.out _).mono ?_
    rintro e w3 ⟨rfl, rfl⟩
    go_wp2_with fail
    clear c0 c1 c2 c3 c4 c5
    clear z0 z1 z2 z3 z4 z5 f0 f1 f2 f3 f4 f5
    generalize (((((w2.setCell _ _).setCell _ _).setCell _ _).setCell _ _).setCell _ _).setCell _ _ = w9 at *
    rw [HT.out]
    exact bodyPost_ret (v := .tuple #[.agg (six ad k (⟨r, cc, cs, (kk : Int), lk, ins⟩ : S)), .iface 52 (.int .i64 3)]) (results_cell_row_tmp rfl _ _ _ (w.heap.size + 1) _ rfl (run_loadVar_row w9 (w.heap.size + 1) 24 24 _ (0, 0) _ SF.out.1 Tryd.underlying24 rfl (by kernel_rfl)) _ rfl) rfl ⟨ad, k, _, rfl, SF.out.2.1, SF.out.2.2.1, fun h0 => absurd h0 (show ((3 : Nat) : Int) ≠ 0 by decide), SF.out.2.2.2⟩
  | true =>
    rw [hch] at HCH
    have HLT := Lib.hid (show ltr c = true by unfold ltr; rw [hch]; simpa using HC0.out)
    have HCHR := Lib.hid hch
    clear hch
    cases lk with
    | true =>
      have HT := Lib.hid (show typ ⟨r, cc, cs, (kk : Int), true, ins⟩ c = (⟨r, cc, cs, (kk : Int), true, ins⟩, 7, -1) from typ_2 HLT.out rfl)
      obtain ⟨c0, c1, c2, c3, c4, c5⟩ := cells6 X2.out
      have SF := Lib.hid (lay_E (t := (⟨r, cc, cs, (kk : Int), true, ins⟩ : S)) Z2.out I2.out (show Err.Told w2 (.iface 52 (.int .i64 7)) 7 (-1) from .inr (.inl ⟨rfl, rfl⟩)) K2.out (show w.heap.size ≤ w.heap.size + 1 by omega) HP.out)
      obtain ⟨f0, f1, f2, f3, f4, f5⟩ := free6 Z2.out
      obtain ⟨z0, z1, z2, z3, z4, z5⟩ := cells6 Z2.out
      go_wp2_with fail
      with_reducible refine (HCH.out _).mono ?_
      rintro e w3 ⟨rfl, rfl⟩
      go_wp2_with fail
      clear c0 c1 c2 c3 c4 c5
      clear z0 z1 z2 z3 z4 z5 f0 f1 f2 f3 f4 f5
      generalize (((((w2.setCell _ _).setCell _ _).setCell _ _).setCell _ _).setCell _ _).setCell _ _ = w9 at *
      rw [HT.out]
      exact bodyPost_ret (v := .tuple #[.agg (six ad k (⟨r, cc, cs, (kk : Int), true, ins⟩ : S)), .iface 52 (.int .i64 7)]) (results_cell_row_tmp rfl _ _ _ (w.heap.size + 1) _ rfl (run_loadVar_row w9 (w.heap.size + 1) 24 24 _ (0, 0) _ SF.out.1 Tryd.underlying24 rfl (by kernel_rfl)) _ rfl) rfl ⟨ad, k, _, rfl, SF.out.2.1, SF.out.2.2.1, fun h0 => absurd h0 (show ((7 : Nat) : Int) ≠ 0 by decide), SF.out.2.2.2⟩
    | false =>
      cases ho : open_ cs kk with
      | false =>
        have HT := Lib.hid (show typ ⟨r, cc, cs, (kk : Int), false, ins⟩ c = (⟨r, cc, cs, (kk : Int), true, ins⟩, 8, (kk : Int)) from typ_3 (s := ⟨r, cc, cs, (kk : Int), false, ins⟩) HLT.out rfl ho)
        have HL0 : (line cs kk).length = 0 := by rw [line_closed ho]; rfl
        rw [HL0] at HV ⊢
        clear ho HL0
        have HD := Lib.hid (deny_any ⟨r, cc, cs, (kk : Int), false, ins⟩ ad k 8 w2 I2.out HL.out HP.out (by decide))
        simp only [GaveE, deny] at HD
        obtain ⟨c0, c1, c2, c3, c4, c5⟩ := cells6 X2.out
        go_wp2_with fail
        with_reducible refine (HCH.out _).mono ?_
        rintro e w3 ⟨rfl, rfl⟩
        go_wp2_with fail
        with_reducible refine HD.out.mono ?_
        rintro e wd ⟨da, dc, dv, rfl, hcd, htd, _, hb⟩
        have Z3 := Lib.hid (blk Z2.out hb)
        have K3 := kept_hid K2 hb
        clear c0 c1 c2 c3 c4 c5 hb HD
        have SF := Lib.hid (lay_E (t := (⟨r, cc, cs, (kk : Int), true, ins⟩ : S)) Z3.out hcd htd K3.out (show w.heap.size ≤ w.heap.size + 1 by omega) HP.out)
        obtain ⟨f0, f1, f2, f3, f4, f5⟩ := free6 Z3.out
        obtain ⟨z0, z1, z2, z3, z4, z5⟩ := cells6 Z3.out
        go_wp2_with fail
        clear z0 z1 z2 z3 z4 z5 f0 f1 f2 f3 f4 f5
        generalize (((((wd.setCell _ _).setCell _ _).setCell _ _).setCell _ _).setCell _ _).setCell _ _ = w9 at *
        rw [HT.out]
        exact bodyPost_ret (v := .tuple #[.agg (six da dc (⟨r, cc, cs, (kk : Int), true, ins⟩ : S)), dv]) (results_cell_row_tmp rfl _ _ _ (w.heap.size + 1) _ rfl (run_loadVar_row w9 (w.heap.size + 1) 24 24 _ (0, 0) _ SF.out.1 Tryd.underlying24 rfl (by kernel_rfl)) _ rfl) rfl ⟨da, dc, _, rfl, SF.out.2.1, SF.out.2.2.1, fun h0 => absurd h0 (show ((8 : Nat) : Int) ≠ 0 by decide), SF.out.2.2.2⟩
      | true =>
        have HO := Lib.hid ho
        have HLP : ¬ (line cs kk) = [] := by
          have := (lineLen_pos HK.out ho).1
          intro h
          rw [← line_length, h] at this
          exact Nat.lt_irrefl _ this
        have hl0 : (((line cs kk).length : Int) == 0) = false := by
          have := (lineLen_pos HK.out ho).1
          rw [← line_length] at this
          rw [Bool.eq_false_iff]; intro h; rw [beq_iff_eq] at h; omega
        clear ho HLP
        have HOF := Lib.hid (fof_any ⟨r, cc, cs, (kk : Int), false, ins⟩ ad k kk w2 I2.out H8.out HP.out HL.out HK.out)
        have HSU := Lib.hid fun W => suits_w c W HC.out
        have HNM := Lib.hid (suits_not c (attrOf cs kk).n)
        simp only at HOF
        generalize hat : attrOf cs kk = at_ at *
        replace hat := Lib.hid hat
        obtain ⟨tf, tp, tn, ts, tm, tc⟩ := at_
        simp only at HOF HNM
        have hfld := run_num tp tn ts tm
        obtain ⟨c0, c1, c2, c3, c4, c5⟩ := cells6 X2.out
        go_upto_region 8 with (with_reducible refine (HCH.out _).mono ?_; rintro e w3 ⟨rfl, rfl⟩)
        go_wp2_with fail
        with_reducible refine HOF.out.mono ?_
        rintro e w4 ⟨rfl, hb⟩
        have X3 := Lib.hid (blk X2.out hb)
        have Z3 := Lib.hid (blk Z2.out hb)
        have I3 := Lib.hid (I2.out.below hb)
        have V3 := Lib.hid (HV.out.below hb)
        have K3 := kept_hid K2 hb
        clear hb c0 c1 c2 c3 c4 c5 HOF X2 Z2 I2 K2 HV
        cases hns : (tn && !suits c) with
        | true =>
          have HT := Lib.hid (show typ ⟨r, cc, cs, (kk : Int), false, ins⟩ c = (⟨r, cc, cs, (kk : Int), true, ins⟩, 9, (kk : Int)) from typ_4 (s := ⟨r, cc, cs, (kk : Int), false, ins⟩) HLT.out rfl HO.out (by show ((attrOf cs kk).n && !suits c) = true; rw [hat.out]; exact hns))
          obtain ⟨rfl, hsu⟩ : tn = true ∧ suits c = false := by simpa using hns
          rw [hsu] at HSU
          clear hns hsu
          have HD := Lib.hid (deny_any ⟨r, cc, cs, (kk : Int), false, ins⟩ ad k 9 w4 I3.out HL.out HP.out (by decide))
          simp only [GaveE, deny] at HD
          obtain ⟨c0, c1, c2, c3, c4, c5⟩ := cells6 X3.out
          go_wp2_with fail
          with_reducible refine (HSU.out _).mono ?_
          rintro e w5 ⟨rfl, rfl⟩
          go_wp2_with fail
          with_reducible refine HD.out.mono ?_
          rintro e wd ⟨da, dc, dv, rfl, hcd, htd, _, hb⟩
          have Z4 := Lib.hid (blk Z3.out hb)
          have K4 := kept_hid K3 hb
          clear c0 c1 c2 c3 c4 c5 hb HD
          have SF := Lib.hid (lay_E (t := (⟨r, cc, cs, (kk : Int), true, ins⟩ : S)) Z4.out hcd htd K4.out (show w.heap.size ≤ w.heap.size + 1 by omega) HP.out)
          obtain ⟨f0, f1, f2, f3, f4, f5⟩ := free6 Z4.out
          obtain ⟨z0, z1, z2, z3, z4, z5⟩ := cells6 Z4.out
          go_wp2_with fail
          clear z0 z1 z2 z3 z4 z5 f0 f1 f2 f3 f4 f5
          generalize (((((wd.setCell _ _).setCell _ _).setCell _ _).setCell _ _).setCell _ _).setCell _ _ = w9 at *
          rw [HT.out]
          exact bodyPost_ret (v := .tuple #[.agg (six da dc (⟨r, cc, cs, (kk : Int), true, ins⟩ : S)), dv]) (results_cell_row_tmp rfl _ _ _ (w.heap.size + 1) _ rfl (run_loadVar_row w9 (w.heap.size + 1) 24 24 _ (0, 0) _ SF.out.1 Tryd.underlying24 rfl (by kernel_rfl)) _ rfl) rfl ⟨da, dc, _, rfl, SF.out.2.1, SF.out.2.2.1, fun h0 => absurd h0 (show ((9 : Nat) : Int) ≠ 0 by decide), SF.out.2.2.2⟩
        | false =>
          have HNS := Lib.hid (show ((attrOf cs kk).n && !suits c) = false by rw [hat.out]; exact hns)
          have hsplit : (tn = true ∧ suits c = true) ∨ tn = false := by cases tn <;> simp_all
          clear hns
          have HPT := Lib.hid fun W (hb : Below w4.heap.size w4 W) (u : Value) (hu : IntsIn W u (lineTo ⟨r, cc, cs, (kk : Int), false, ins⟩ kk)) => put_any ⟨r, cc, cs, (kk : Int), false, ins⟩ ad k kk c u W (I3.out.below hb) HR.out HL.out rfl HK.out HO.out HCHR.out HC.out hu
          simp only [GaveA] at HPT
          have HLP := Lib.hid (show 1 ≤ (line cs kk).length from by rw [line_length]; exact (lineLen_pos HK.out HO.out).1)
          have HCAP := Lib.hid (show (line cs kk).length ≤ vc from by obtain ⟨_, _, e, h, _⟩ := V3.out; injection e with _ _ e; omega)
          rcases hsplit with ⟨rfl, hsu⟩ | rfl
          · rw [hsu] at HSU
            clear hsu
            have hq := hat
            clear hq
            obtain ⟨c0, c1, c2, c3, c4, c5⟩ := cells6 X3.out
            go_upto_region 10 with (with_reducible refine (HSU.out _).mono ?_; rintro e w5 ⟨rfl, rfl⟩)
            clear c0 c1 c2 c3 c4 c5
            cases ins with
            | false =>
              have HT := Lib.hid (show typ ⟨r, cc, cs, (kk : Int), false, false⟩ c = (typed ⟨r, cc, cs, (kk : Int), false, false⟩ kk c, 0, -1) from typ_6 (s := ⟨r, cc, cs, (kk : Int), false, false⟩) HLT.out rfl HO.out HNS.out rfl)
              have HFAR := Lib.hid (show far ⟨r, cc, cs, (kk : Int), false, false⟩ kk = 0 from rfl)
              have ew : IntKind.i64.wrap 1 = 1 := by decide
              have ew2 : IntKind.i64.wrap (0 + 1) = 1 := by decide
              have HQL := Lib.hid (show 1 ≤ (line cs kk).length from HLP.out)
              have HU := Lib.hid fun W (hb : Below w4.heap.size w4 W) => HPT.out W hb (.slice va 1 vc) (by have := ints_h (k := 1) (V3.out.below hb) HQL.out; unfold lineTo; rw [HFAR.out]; exact this)
              have hrun : ∀ W, (Instr.slice 45 (.slice va (line cs kk).length vc) none (some (.int .i64 1)) none).run Tryd.prog W = .ok (.slice va 1 vc) W := fun W => run_hI va _ vc 1 (by have := HCAP.out; have := HQL.out; omega) W
              clear HPT
              generalize htd : typed ⟨r, cc, cs, (kk : Int), false, false⟩ kk c = td at *
              clear htd
              obtain ⟨c0, c1, c2, c3, c4, c5⟩ := cells6 X3.out
              go_upto_region 15 with (fail)
              go_still_tail 6, (by kernel_rfl)
              change wpList _ _ _ _ _ w4.drew
              go_wp2_with fail
              with_reducible refine (HU.out _ (Below.refl _ _).drew).mono ?_
              rintro e wb ⟨pa, pc, rfl, hop, hb⟩
              replace hb := kept_trans ((Below.refl w4.heap.size w4).drew) hb
              have ZB := Lib.hid (blk Z3.out hb)
              have hz3 := there_lt Z3.out
              have KB := kept_hid K3 hb
              have SF := over6 wb (w.heap.size + 1) 24 _ _ _ _ _ _ (.int .i64 td.rows) (.int .i64 td.cols) (.slice pa td.cs.length pc) (.int .i64 td.cur) (.bool td.lk) (.bool td.ins) ZB.out
              have O9 := hop.away SF.2 (by intro e; have := own_ge hop _ e; have h4 : w4.drew.heap.size = w4.heap.size := rfl; omega)
              have O9 := Lib.hid (OwnCels.mono (b := w.heap.size) O9 (by have h4 : w4.drew.heap.size = w4.heap.size := rfl; omega))
              have K9 := Lib.hid (below_grown KB.out SF.2 (show w.heap.size ≤ w.heap.size + 1 by omega))
              have Z9 := Lib.hid SF.1
              obtain ⟨f0, f1, f2, f3, f4, f5⟩ := free6 ZB.out
              obtain ⟨z0, z1, z2, z3, z4, z5⟩ := cells6 ZB.out
              clear SF hop hb hz3 c0 c1 c2 c3 c4 c5 HU hrun
              go_wp2_with fail
              clear ZB f0 f1 f2 f3 f4 f5 z0 z1 z2 z3 z4 z5
              generalize (((((wb.setCell _ _).setCell _ _).setCell _ _).setCell _ _).setCell _ _).setCell _ _ = w9 at *
              rw [HT.out]
              exact bodyPost_ret (v := .tuple #[.agg (six pa pc td), .nilIface]) (results_cell_row_tmp rfl _ _ _ (w.heap.size + 1) _ rfl (run_loadVar_row w9 (w.heap.size + 1) 24 24 _ (0, 0) _ Z9.out Tryd.underlying24 rfl (by kernel_rfl)) _ rfl) rfl ⟨pa, pc, .nilIface, rfl, O9.out.to, .inl ⟨rfl, rfl, rfl⟩, fun _ => ⟨rfl, O9.out⟩, K9.out⟩
            | true =>
              have HIX := Lib.hid (indexF_any ⟨r, cc, cs, (kk : Int), false, true⟩ ad k w.heap.size _ (line cs kk) w4 I3.out X3.out V3.out (fun x hx => line_lt HP.out hx) (by have := HLE.out; have := HL.out; omega))
              simp only at HIX
              obtain ⟨c0, c1, c2, c3, c4, c5⟩ := cells6 X3.out
              go_wp2_with fail
              with_reducible refine HIX.out.mono ?_
              rintro e w5 ⟨⟨j, rfl, hj⟩, rfl⟩
              clear c0 c1 c2 c3 c4 c5 HIX
              rcases hj with ⟨q, hf, rfl⟩ | ⟨hf, rfl⟩
              · have HT := Lib.hid (show typ ⟨r, cc, cs, (kk : Int), false, true⟩ c = (typed ⟨r, cc, cs, (kk : Int), false, true⟩ kk c, 0, -1) from typ_6 (s := ⟨r, cc, cs, (kk : Int), false, true⟩) HLT.out rfl HO.out HNS.out (by show (true && (free cs (line cs kk)).isNone) = false; rw [hf]; rfl))
                have HFAR := Lib.hid (show far ⟨r, cc, cs, (kk : Int), false, true⟩ kk = q from by show (if true = true then (free cs (line cs kk)).getD 0 else 0) = q; rw [hf]; rfl)
                have HQL := Lib.hid (show q + 1 ≤ (line cs kk).length from (free_some hf).1)
                have hq0 : decide ((q : Int) < 0) = false := by simp
                have ew : IntKind.i64.wrap ((q : Int) + 1) = (q : Int) + 1 := by
                  have := HQL.out; have := HLE.out; have := HL.out
                  rw [IntWalk.i64_in] <;> omega
                clear hf
                have HU := Lib.hid fun W (hb : Below w4.heap.size w4 W) => HPT.out W hb (.slice va (q + 1) vc) (by have := ints_h (k := (q + 1)) (V3.out.below hb) HQL.out; unfold lineTo; rw [HFAR.out]; exact this)
                have hrun : ∀ W, (Instr.slice 45 (.slice va (line cs kk).length vc) none (some (.int .i64 ((q : Int) + 1))) none).run Tryd.prog W = .ok (.slice va (q + 1) vc) W := fun W => run_hI va _ vc (q + 1) (by have := HCAP.out; have := HQL.out; omega) W
                clear HPT
                generalize htd : typed ⟨r, cc, cs, (kk : Int), false, true⟩ kk c = td at *
                clear htd
                obtain ⟨c0, c1, c2, c3, c4, c5⟩ := cells6 X3.out
                go_upto_region 15 with (fail)
                go_still_tail 6, (by kernel_rfl)
                change wpList _ _ _ _ _ w4.drew
                go_wp2_with fail
                with_reducible refine (HU.out _ (Below.refl _ _).drew).mono ?_
                rintro e wb ⟨pa, pc, rfl, hop, hb⟩
                replace hb := kept_trans ((Below.refl w4.heap.size w4).drew) hb
                have ZB := Lib.hid (blk Z3.out hb)
                have hz3 := there_lt Z3.out
                have KB := kept_hid K3 hb
                have SF := over6 wb (w.heap.size + 1) 24 _ _ _ _ _ _ (.int .i64 td.rows) (.int .i64 td.cols) (.slice pa td.cs.length pc) (.int .i64 td.cur) (.bool td.lk) (.bool td.ins) ZB.out
                have O9 := hop.away SF.2 (by intro e; have := own_ge hop _ e; have h4 : w4.drew.heap.size = w4.heap.size := rfl; omega)
                have O9 := Lib.hid (OwnCels.mono (b := w.heap.size) O9 (by have h4 : w4.drew.heap.size = w4.heap.size := rfl; omega))
                have K9 := Lib.hid (below_grown KB.out SF.2 (show w.heap.size ≤ w.heap.size + 1 by omega))
                have Z9 := Lib.hid SF.1
                obtain ⟨f0, f1, f2, f3, f4, f5⟩ := free6 ZB.out
                obtain ⟨z0, z1, z2, z3, z4, z5⟩ := cells6 ZB.out
                clear SF hop hb hz3 c0 c1 c2 c3 c4 c5 HU hrun
                go_wp2_with fail
                clear ZB f0 f1 f2 f3 f4 f5 z0 z1 z2 z3 z4 z5
                generalize (((((wb.setCell _ _).setCell _ _).setCell _ _).setCell _ _).setCell _ _).setCell _ _ = w9 at *
                rw [HT.out]
                exact bodyPost_ret (v := .tuple #[.agg (six pa pc td), .nilIface]) (results_cell_row_tmp rfl _ _ _ (w.heap.size + 1) _ rfl (run_loadVar_row w9 (w.heap.size + 1) 24 24 _ (0, 0) _ Z9.out Tryd.underlying24 rfl (by kernel_rfl)) _ rfl) rfl ⟨pa, pc, .nilIface, rfl, O9.out.to, .inl ⟨rfl, rfl, rfl⟩, fun _ => ⟨rfl, O9.out⟩, K9.out⟩
              · have HT := Lib.hid (show typ ⟨r, cc, cs, (kk : Int), false, true⟩ c = (⟨r, cc, cs, (kk : Int), true, true⟩, 10, (kk : Int)) from typ_5 (s := ⟨r, cc, cs, (kk : Int), false, true⟩) HLT.out rfl HO.out HNS.out rfl hf)
                clear hf
                have HD := Lib.hid (deny_any ⟨r, cc, cs, (kk : Int), false, true⟩ ad k 10 w4 I3.out HL.out HP.out (by decide))
                simp only [GaveE, deny] at HD
                obtain ⟨c0, c1, c2, c3, c4, c5⟩ := cells6 X3.out
                go_wp2_with fail
                with_reducible refine HD.out.mono ?_
                rintro e wd ⟨da, dc, dv, rfl, hcd, htd, _, hb⟩
                have Z4 := Lib.hid (blk Z3.out hb)
                have K4 := kept_hid K3 hb
                clear c0 c1 c2 c3 c4 c5 hb HD
                have SF := Lib.hid (lay_E (t := (⟨r, cc, cs, (kk : Int), true, true⟩ : S)) Z4.out hcd htd K4.out (show w.heap.size ≤ w.heap.size + 1 by omega) HP.out)
                obtain ⟨f0, f1, f2, f3, f4, f5⟩ := free6 Z4.out
                obtain ⟨z0, z1, z2, z3, z4, z5⟩ := cells6 Z4.out
                go_wp2_with fail
                clear z0 z1 z2 z3 z4 z5 f0 f1 f2 f3 f4 f5
                generalize (((((wd.setCell _ _).setCell _ _).setCell _ _).setCell _ _).setCell _ _).setCell _ _ = w9 at *
                rw [HT.out]
                exact bodyPost_ret (v := .tuple #[.agg (six da dc (⟨r, cc, cs, (kk : Int), true, true⟩ : S)), dv]) (results_cell_row_tmp rfl _ _ _ (w.heap.size + 1) _ rfl (run_loadVar_row w9 (w.heap.size + 1) 24 24 _ (0, 0) _ SF.out.1 Tryd.underlying24 rfl (by kernel_rfl)) _ rfl) rfl ⟨da, dc, _, rfl, SF.out.2.1, SF.out.2.2.1, fun h0 => absurd h0 (show ((10 : Nat) : Int) ≠ 0 by decide), SF.out.2.2.2⟩

          · have hq := hat
            clear hq
            obtain ⟨c0, c1, c2, c3, c4, c5⟩ := cells6 X3.out
            go_upto_region 10 with (fail)
            clear c0 c1 c2 c3 c4 c5
            cases ins with
            | false =>
              have HT := Lib.hid (show typ ⟨r, cc, cs, (kk : Int), false, false⟩ c = (typed ⟨r, cc, cs, (kk : Int), false, false⟩ kk c, 0, -1) from typ_6 (s := ⟨r, cc, cs, (kk : Int), false, false⟩) HLT.out rfl HO.out HNS.out rfl)
              have HFAR := Lib.hid (show far ⟨r, cc, cs, (kk : Int), false, false⟩ kk = 0 from rfl)
              have ew : IntKind.i64.wrap 1 = 1 := by decide
              have ew2 : IntKind.i64.wrap (0 + 1) = 1 := by decide
              have HQL := Lib.hid (show 1 ≤ (line cs kk).length from HLP.out)
              have HU := Lib.hid fun W (hb : Below w4.heap.size w4 W) => HPT.out W hb (.slice va 1 vc) (by have := ints_h (k := 1) (V3.out.below hb) HQL.out; unfold lineTo; rw [HFAR.out]; exact this)
              have hrun : ∀ W, (Instr.slice 45 (.slice va (line cs kk).length vc) none (some (.int .i64 1)) none).run Tryd.prog W = .ok (.slice va 1 vc) W := fun W => run_hI va _ vc 1 (by have := HCAP.out; have := HQL.out; omega) W
              clear HPT
              generalize htd : typed ⟨r, cc, cs, (kk : Int), false, false⟩ kk c = td at *
              clear htd
              obtain ⟨c0, c1, c2, c3, c4, c5⟩ := cells6 X3.out
              go_upto_region 15 with (fail)
              go_still_tail 6, (by kernel_rfl)
              change wpList _ _ _ _ _ w4.drew
              go_wp2_with fail
              with_reducible refine (HU.out _ (Below.refl _ _).drew).mono ?_
              rintro e wb ⟨pa, pc, rfl, hop, hb⟩
              replace hb := kept_trans ((Below.refl w4.heap.size w4).drew) hb
              have ZB := Lib.hid (blk Z3.out hb)
              have hz3 := there_lt Z3.out
              have KB := kept_hid K3 hb
              have SF := over6 wb (w.heap.size + 1) 24 _ _ _ _ _ _ (.int .i64 td.rows) (.int .i64 td.cols) (.slice pa td.cs.length pc) (.int .i64 td.cur) (.bool td.lk) (.bool td.ins) ZB.out
              have O9 := hop.away SF.2 (by intro e; have := own_ge hop _ e; have h4 : w4.drew.heap.size = w4.heap.size := rfl; omega)
              have O9 := Lib.hid (OwnCels.mono (b := w.heap.size) O9 (by have h4 : w4.drew.heap.size = w4.heap.size := rfl; omega))
              have K9 := Lib.hid (below_grown KB.out SF.2 (show w.heap.size ≤ w.heap.size + 1 by omega))
              have Z9 := Lib.hid SF.1
              obtain ⟨f0, f1, f2, f3, f4, f5⟩ := free6 ZB.out
              obtain ⟨z0, z1, z2, z3, z4, z5⟩ := cells6 ZB.out
              clear SF hop hb hz3 c0 c1 c2 c3 c4 c5 HU hrun
              go_wp2_with fail
              clear ZB f0 f1 f2 f3 f4 f5 z0 z1 z2 z3 z4 z5
              generalize (((((wb.setCell _ _).setCell _ _).setCell _ _).setCell _ _).setCell _ _).setCell _ _ = w9 at *
              rw [HT.out]
              exact bodyPost_ret (v := .tuple #[.agg (six pa pc td), .nilIface]) (results_cell_row_tmp rfl _ _ _ (w.heap.size + 1) _ rfl (run_loadVar_row w9 (w.heap.size + 1) 24 24 _ (0, 0) _ Z9.out Tryd.underlying24 rfl (by kernel_rfl)) _ rfl) rfl ⟨pa, pc, .nilIface, rfl, O9.out.to, .inl ⟨rfl, rfl, rfl⟩, fun _ => ⟨rfl, O9.out⟩, K9.out⟩
            | true =>
              have HIX := Lib.hid (indexF_any ⟨r, cc, cs, (kk : Int), false, true⟩ ad k w.heap.size _ (line cs kk) w4 I3.out X3.out V3.out (fun x hx => line_lt HP.out hx) (by have := HLE.out; have := HL.out; omega))
              simp only at HIX
              obtain ⟨c0, c1, c2, c3, c4, c5⟩ := cells6 X3.out
              go_wp2_with fail
              with_reducible refine HIX.out.mono ?_
              rintro e w5 ⟨⟨j, rfl, hj⟩, rfl⟩
              clear c0 c1 c2 c3 c4 c5 HIX
              rcases hj with ⟨q, hf, rfl⟩ | ⟨hf, rfl⟩
              · have HT := Lib.hid (show typ ⟨r, cc, cs, (kk : Int), false, true⟩ c = (typed ⟨r, cc, cs, (kk : Int), false, true⟩ kk c, 0, -1) from typ_6 (s := ⟨r, cc, cs, (kk : Int), false, true⟩) HLT.out rfl HO.out HNS.out (by show (true && (free cs (line cs kk)).isNone) = false; rw [hf]; rfl))
                have HFAR := Lib.hid (show far ⟨r, cc, cs, (kk : Int), false, true⟩ kk = q from by show (if true = true then (free cs (line cs kk)).getD 0 else 0) = q; rw [hf]; rfl)
                have HQL := Lib.hid (show q + 1 ≤ (line cs kk).length from (free_some hf).1)
                have hq0 : decide ((q : Int) < 0) = false := by simp
                have ew : IntKind.i64.wrap ((q : Int) + 1) = (q : Int) + 1 := by
                  have := HQL.out; have := HLE.out; have := HL.out
                  rw [IntWalk.i64_in] <;> omega
                clear hf
                have HU := Lib.hid fun W (hb : Below w4.heap.size w4 W) => HPT.out W hb (.slice va (q + 1) vc) (by have := ints_h (k := (q + 1)) (V3.out.below hb) HQL.out; unfold lineTo; rw [HFAR.out]; exact this)
                have hrun : ∀ W, (Instr.slice 45 (.slice va (line cs kk).length vc) none (some (.int .i64 ((q : Int) + 1))) none).run Tryd.prog W = .ok (.slice va (q + 1) vc) W := fun W => run_hI va _ vc (q + 1) (by have := HCAP.out; have := HQL.out; omega) W
                clear HPT
                generalize htd : typed ⟨r, cc, cs, (kk : Int), false, true⟩ kk c = td at *
                clear htd
                obtain ⟨c0, c1, c2, c3, c4, c5⟩ := cells6 X3.out
                go_upto_region 15 with (fail)
                go_still_tail 6, (by kernel_rfl)
                change wpList _ _ _ _ _ w4.drew
                go_wp2_with fail
                with_reducible refine (HU.out _ (Below.refl _ _).drew).mono ?_
                rintro e wb ⟨pa, pc, rfl, hop, hb⟩
                replace hb := kept_trans ((Below.refl w4.heap.size w4).drew) hb
                have ZB := Lib.hid (blk Z3.out hb)
                have hz3 := there_lt Z3.out
                have KB := kept_hid K3 hb
                have SF := over6 wb (w.heap.size + 1) 24 _ _ _ _ _ _ (.int .i64 td.rows) (.int .i64 td.cols) (.slice pa td.cs.length pc) (.int .i64 td.cur) (.bool td.lk) (.bool td.ins) ZB.out
                have O9 := hop.away SF.2 (by intro e; have := own_ge hop _ e; have h4 : w4.drew.heap.size = w4.heap.size := rfl; omega)
                have O9 := Lib.hid (OwnCels.mono (b := w.heap.size) O9 (by have h4 : w4.drew.heap.size = w4.heap.size := rfl; omega))
                have K9 := Lib.hid (below_grown KB.out SF.2 (show w.heap.size ≤ w.heap.size + 1 by omega))
                have Z9 := Lib.hid SF.1
                obtain ⟨f0, f1, f2, f3, f4, f5⟩ := free6 ZB.out
                obtain ⟨z0, z1, z2, z3, z4, z5⟩ := cells6 ZB.out
                clear SF hop hb hz3 c0 c1 c2 c3 c4 c5 HU hrun
                go_wp2_with fail
                clear ZB f0 f1 f2 f3 f4 f5 z0 z1 z2 z3 z4 z5
                generalize (((((wb.setCell _ _).setCell _ _).setCell _ _).setCell _ _).setCell _ _).setCell _ _ = w9 at *
                rw [HT.out]
                exact bodyPost_ret (v := .tuple #[.agg (six pa pc td), .nilIface]) (results_cell_row_tmp rfl _ _ _ (w.heap.size + 1) _ rfl (run_loadVar_row w9 (w.heap.size + 1) 24 24 _ (0, 0) _ Z9.out Tryd.underlying24 rfl (by kernel_rfl)) _ rfl) rfl ⟨pa, pc, .nilIface, rfl, O9.out.to, .inl ⟨rfl, rfl, rfl⟩, fun _ => ⟨rfl, O9.out⟩, K9.out⟩
              · have HT := Lib.hid (show typ ⟨r, cc, cs, (kk : Int), false, true⟩ c = (⟨r, cc, cs, (kk : Int), true, true⟩, 10, (kk : Int)) from typ_5 (s := ⟨r, cc, cs, (kk : Int), false, true⟩) HLT.out rfl HO.out HNS.out rfl hf)
                clear hf
                have HD := Lib.hid (deny_any ⟨r, cc, cs, (kk : Int), false, true⟩ ad k 10 w4 I3.out HL.out HP.out (by decide))
                simp only [GaveE, deny] at HD
                obtain ⟨c0, c1, c2, c3, c4, c5⟩ := cells6 X3.out
                go_wp2_with fail
                with_reducible refine HD.out.mono ?_
                rintro e wd ⟨da, dc, dv, rfl, hcd, htd, _, hb⟩
                have Z4 := Lib.hid (blk Z3.out hb)
                have K4 := kept_hid K3 hb
                clear c0 c1 c2 c3 c4 c5 hb HD
                have SF := Lib.hid (lay_E (t := (⟨r, cc, cs, (kk : Int), true, true⟩ : S)) Z4.out hcd htd K4.out (show w.heap.size ≤ w.heap.size + 1 by omega) HP.out)
                obtain ⟨f0, f1, f2, f3, f4, f5⟩ := free6 Z4.out
                obtain ⟨z0, z1, z2, z3, z4, z5⟩ := cells6 Z4.out
                go_wp2_with fail
                clear z0 z1 z2 z3 z4 z5 f0 f1 f2 f3 f4 f5
                generalize (((((wd.setCell _ _).setCell _ _).setCell _ _).setCell _ _).setCell _ _).setCell _ _ = w9 at *
                rw [HT.out]
                exact bodyPost_ret (v := .tuple #[.agg (six da dc (⟨r, cc, cs, (kk : Int), true, true⟩ : S)), dv]) (results_cell_row_tmp rfl _ _ _ (w.heap.size + 1) _ rfl (run_loadVar_row w9 (w.heap.size + 1) 24 24 _ (0, 0) _ SF.out.1 Tryd.underlying24 rfl (by kernel_rfl)) _ rfl) rfl ⟨da, dc, _, rfl, SF.out.2.1, SF.out.2.2.1, fun h0 => absurd h0 (show ((10 : Nat) : Int) ≠ 0 by decide), SF.out.2.2.2⟩
end Edt
end Go.Proofs.YtaopkelobglnbaaDoor
