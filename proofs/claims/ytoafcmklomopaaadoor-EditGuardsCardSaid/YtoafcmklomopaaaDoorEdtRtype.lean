/- The document's Type of layer 14. Written by tools/gen_edt_rtype.py. -/
import Derived.Test.YtoafcmklomopaaaDoorEdtRef
import Derived.Test.YtoafcmklomopaaaDoorEdtRight
import Derived.Test.YtoafcmklomopaaaDoorBunGrd
import Derived.Test.YtoafcmklomopaaaDoorBunFld
import Derived.Test.YtoafcmklomopaaaDoorBunRlp
import Derived.Deep.CutRange
import Derived.Deep.RegionHeld3
namespace Go.Proofs.YtoafcmklomopaaaDoor
open Go.RowKit Sha Six Apd Cut Err Att Grd Fld Scr
set_option linter.unusedVariables false
set_option linter.unusedSimpArgs false
namespace Edt
theorem rltr_any (b : Nat) (w : World) (hb : b < 256) :
    Calls Tryd.prog 33 #[.int .u8 (b : Int)] w fun e w' => e = .returned (.bool (ltr b)) ∧ w = w' := by
  have HC := Lib.hid fun W => rchar_any b W hb
  have HL := Lib.hid (show ltr b = (b != 0 && char b) from rfl)
  generalize ltr b = res at HL ⊢
  by_cases h0 : b = 0
  · subst h0
    clear hb HC
    go_enter Tryd.func33, Tryd.ntmps33
    go_wp2_with fail
    go_ret
    exact ⟨by rw [HL.out]; rfl, rfl⟩
  · have e1 : ((b : Int) != 0) = true := by simpa using h0
    have HL := Lib.hid (show res = char b by rw [HL.out]; simp [h0])
    generalize char b = r at *
    clear h0 hb
    go_enter Tryd.func33, Tryd.ntmps33
    go_wp2_with fail
    with_reducible refine (HC.out _).mono ?_
    rintro e w1 ⟨rfl, rfl⟩
    go_wp2_with fail
    go_ret
    exact ⟨by rw [HL.out]; rfl, rfl⟩
theorem field_n (p n : Bool) (s : Int) (m : Bool) (w : World) : (Instr.field 48 (.agg #[.bool p, .bool n, .int .i64 s, .bool m]) 1).run Tryd.prog w = .ok (.bool n) w := by kernel_rfl
set_option maxRecDepth 100000 in
set_option maxHeartbeats 8000000 in
theorem rt_3 (s : S) (ad : Option Addr) (k c kc : Nat) (w : World) (h : CelsIn w (.slice ad s.cs.length k) s.cs) (hl : s.cs.length < 10000) (hc : c < 256) (hk : kc < s.cs.length) (hcur : s.cur = (kc : Int)) (hlt : ltr c = false) :
    Calls Tryd.prog 11 #[.agg #[.int .i64 s.rows, .int .i64 s.cols, .slice ad s.cs.length k, .int .i64 s.cur, .bool s.lk, .bool s.ins], .int .u8 (c : Int)] w fun e w' => ShownE w w' s 3 (-1) e := by
  obtain ⟨r, q, cs, cur, lk, ins⟩ := s
  simp only at *
  subst hcur
  have HB := Lib.hid (kept_trans (al_any w (.cells #[.int .i64 r, .int .i64 q, .slice ad cs.length k, .int .i64 (kc : Int), .bool lk, .bool ins] 24)) (al_any _ (.cells #[.int .i64 0, .int .i64 0, .slice none 0 0, .int .i64 0, .bool false, .bool false] 24)))
  have HX := Lib.hid (heap_alloc2_old w (.cells #[.int .i64 r, .int .i64 q, .slice ad cs.length k, .int .i64 (kc : Int), .bool lk, .bool ins] 24) (.cells #[.int .i64 0, .int .i64 0, .slice none 0 0, .int .i64 0, .bool false, .bool false] 24))
  have HZ := Lib.hid (heap_alloc2_new w (.cells #[.int .i64 r, .int .i64 q, .slice ad cs.length k, .int .i64 (kc : Int), .bool lk, .bool ins] 24) (.cells #[.int .i64 0, .int .i64 0, .slice none 0 0, .int .i64 0, .bool false, .bool false] 24))
  have HI := Lib.hid (h.below HB.out)
  have HLT := Lib.hid fun W => rltr_any c W hc
  have HL := Lib.hid hl
  have HK := Lib.hid hk
  have HNE := Lib.hid (celsIn_lt h (Nat.lt_of_le_of_lt (Nat.zero_le _) hk))
  clear h hl hc hk 
  go_enter Tryd.func11, Tryd.ntmps11
  go_upto_region 1 with (fail)
  generalize (w.alloc _).alloc _ = w1 at *
  go_wp2_with fail
  with_reducible refine (HLT.out _).mono ?_
  rintro e wx ⟨rfl, rfl⟩
  rw [hlt]
  clear hlt HLT
  obtain ⟨a0, a1, a2, a3, a4, a5⟩ := cells6 HX.out
  obtain ⟨f0, f1, f2, f3, f4, f5⟩ := free6 HZ.out
  obtain ⟨z0, z1, z2, z3, z4, z5⟩ := cells6 HZ.out
  have SF := Lib.hid (over6 w1 (w.heap.size + 1) _ _ _ _ _ _ _ (.int .i64 r) (.int .i64 q) (.slice ad cs.length k) (.int .i64 (kc : Int)) (.bool lk) (.bool ins) HZ.out)
  go_wp2_with fail
  clear z0 z1 z2 z3 z4 z5 a0 a1 a2 a3 a4 a5 f0 f1 f2 f3 f4 f5
  generalize (((((w1.setCell _ _).setCell _ _).setCell _ _).setCell _ _).setCell _ _).setCell _ _ = w9 at *
  exact bodyPost_ret (v := .tuple #[.agg #[.int .i64 r, .int .i64 q, .slice ad cs.length k, .int .i64 (kc : Int), .bool lk, .bool ins], .int .i64 3, .int .i64 (-1)]) (results_cell_2 rfl _ _ _ (w.heap.size + 1) _ rfl (run_loadVar_row _ (w.heap.size + 1) 24 24 _ (0, 0) _ SF.out.1 Tryd.underlying24 rfl (by kernel_rfl)) (.int .i64 3) (.int .i64 (-1)) rfl rfl) rfl ⟨_, _, rfl, celsIn_away HI.out SF.out.2 (fun x hx => by have := HNE.out x hx; omega), below_grown HB.out SF.out.2 (by omega)⟩
set_option maxRecDepth 100000 in
set_option maxHeartbeats 8000000 in
theorem rt_7 (s : S) (ad : Option Addr) (k c kc : Nat) (w : World) (h : CelsIn w (.slice ad s.cs.length k) s.cs) (hl : s.cs.length < 10000) (hc : c < 256) (hk : kc < s.cs.length) (hcur : s.cur = (kc : Int)) (hlt : ltr c = true) (hlk : s.lk = true) :
    Calls Tryd.prog 11 #[.agg #[.int .i64 s.rows, .int .i64 s.cols, .slice ad s.cs.length k, .int .i64 s.cur, .bool s.lk, .bool s.ins], .int .u8 (c : Int)] w fun e w' => ShownE w w' s 7 (-1) e := by
  obtain ⟨r, q, cs, cur, lk, ins⟩ := s
  simp only at *
  subst hcur
  subst hlk
  have HB := Lib.hid (kept_trans (al_any w (.cells #[.int .i64 r, .int .i64 q, .slice ad cs.length k, .int .i64 (kc : Int), .bool true, .bool ins] 24)) (al_any _ (.cells #[.int .i64 0, .int .i64 0, .slice none 0 0, .int .i64 0, .bool false, .bool false] 24)))
  have HX := Lib.hid (heap_alloc2_old w (.cells #[.int .i64 r, .int .i64 q, .slice ad cs.length k, .int .i64 (kc : Int), .bool true, .bool ins] 24) (.cells #[.int .i64 0, .int .i64 0, .slice none 0 0, .int .i64 0, .bool false, .bool false] 24))
  have HZ := Lib.hid (heap_alloc2_new w (.cells #[.int .i64 r, .int .i64 q, .slice ad cs.length k, .int .i64 (kc : Int), .bool true, .bool ins] 24) (.cells #[.int .i64 0, .int .i64 0, .slice none 0 0, .int .i64 0, .bool false, .bool false] 24))
  have HI := Lib.hid (h.below HB.out)
  have HLT := Lib.hid fun W => rltr_any c W hc
  have HL := Lib.hid hl
  have HK := Lib.hid hk
  have HNE := Lib.hid (celsIn_lt h (Nat.lt_of_le_of_lt (Nat.zero_le _) hk))
  clear h hl hc hk 
  go_enter Tryd.func11, Tryd.ntmps11
  go_upto_region 1 with (fail)
  generalize (w.alloc _).alloc _ = w1 at *
  go_wp2_with fail
  with_reducible refine (HLT.out _).mono ?_
  rintro e wx ⟨rfl, rfl⟩
  rw [hlt]
  clear hlt HLT
  obtain ⟨a0, a1, a2, a3, a4, a5⟩ := cells6 HX.out
  obtain ⟨f0, f1, f2, f3, f4, f5⟩ := free6 HZ.out
  obtain ⟨z0, z1, z2, z3, z4, z5⟩ := cells6 HZ.out
  have SF := Lib.hid (over6 w1 (w.heap.size + 1) _ _ _ _ _ _ _ (.int .i64 r) (.int .i64 q) (.slice ad cs.length k) (.int .i64 (kc : Int)) (.bool true) (.bool ins) HZ.out)
  go_wp2_with fail
  clear z0 z1 z2 z3 z4 z5 a0 a1 a2 a3 a4 a5 f0 f1 f2 f3 f4 f5
  generalize (((((w1.setCell _ _).setCell _ _).setCell _ _).setCell _ _).setCell _ _).setCell _ _ = w9 at *
  exact bodyPost_ret (v := .tuple #[.agg #[.int .i64 r, .int .i64 q, .slice ad cs.length k, .int .i64 (kc : Int), .bool true, .bool ins], .int .i64 7, .int .i64 (-1)]) (results_cell_2 rfl _ _ _ (w.heap.size + 1) _ rfl (run_loadVar_row _ (w.heap.size + 1) 24 24 _ (0, 0) _ SF.out.1 Tryd.underlying24 rfl (by kernel_rfl)) (.int .i64 7) (.int .i64 (-1)) rfl rfl) rfl ⟨_, _, rfl, celsIn_away HI.out SF.out.2 (fun x hx => by have := HNE.out x hx; omega), below_grown HB.out SF.out.2 (by omega)⟩
set_option maxRecDepth 100000 in
set_option maxHeartbeats 8000000 in
theorem rt_8 (s : S) (ad : Option Addr) (k c kc : Nat) (w : World) (h : CelsIn w (.slice ad s.cs.length k) s.cs) (hl : s.cs.length < 10000) (hc : c < 256) (hk : kc < s.cs.length) (hcur : s.cur = (kc : Int)) (hlt : ltr c = true) (hlk : s.lk = false) (hop : open_ s.cs kc = false) :
    Calls Tryd.prog 11 #[.agg #[.int .i64 s.rows, .int .i64 s.cols, .slice ad s.cs.length k, .int .i64 s.cur, .bool s.lk, .bool s.ins], .int .u8 (c : Int)] w fun e w' => ShownE w w' (deny s) 8 (kc : Int) e := by
  obtain ⟨r, q, cs, cur, lk, ins⟩ := s
  simp only at *
  subst hcur
  subst hlk
  have HB := Lib.hid (kept_trans (al_any w (.cells #[.int .i64 r, .int .i64 q, .slice ad cs.length k, .int .i64 (kc : Int), .bool false, .bool ins] 24)) (al_any _ (.cells #[.int .i64 0, .int .i64 0, .slice none 0 0, .int .i64 0, .bool false, .bool false] 24)))
  have HX := Lib.hid (heap_alloc2_old w (.cells #[.int .i64 r, .int .i64 q, .slice ad cs.length k, .int .i64 (kc : Int), .bool false, .bool ins] 24) (.cells #[.int .i64 0, .int .i64 0, .slice none 0 0, .int .i64 0, .bool false, .bool false] 24))
  have HZ := Lib.hid (heap_alloc2_new w (.cells #[.int .i64 r, .int .i64 q, .slice ad cs.length k, .int .i64 (kc : Int), .bool false, .bool ins] 24) (.cells #[.int .i64 0, .int .i64 0, .slice none 0 0, .int .i64 0, .bool false, .bool false] 24))
  have HI := Lib.hid (h.below HB.out)
  have HLT := Lib.hid fun W => rltr_any c W hc
  have HL := Lib.hid hl
  have HK := Lib.hid hk
  have HNE := Lib.hid (celsIn_lt h (Nat.lt_of_le_of_lt (Nat.zero_le _) hk))
  have HOP := Lib.hid fun W hb => ropen_any ⟨r, q, cs, (kc : Int), false, ins⟩ ad k kc W (HI.out.below hb) (by simp only; omega) (by simp only; omega) (by simp only; omega)
  have HDN := Lib.hid fun W (hb : Below w.heap.size w W) => rdeny_any ⟨r, q, cs, (kc : Int), false, ins⟩ ad k W (h.below hb) (by simp only; omega) (by simp only; omega)
  simp only [GaveA, deny] at HOP HDN
  rw [hop] at HOP
  clear h hl hc hk hop
  go_enter Tryd.func11, Tryd.ntmps11
  go_upto_region 1 with (fail)
  generalize (w.alloc _).alloc _ = w1 at *
  go_wp2_with fail
  with_reducible refine (HLT.out _).mono ?_
  rintro e wx ⟨rfl, rfl⟩
  rw [hlt]
  clear hlt HLT
  obtain ⟨c0, c1, c2, c3, c4, c5⟩ := cells6 HX.out
  go_wp2_with fail
  with_reducible refine (HOP.out _ (Below.refl _ _)).mono ?_
  rintro e w2 ⟨rfl, hb⟩
  clear c0 c1 c2 c3 c4 c5 HOP
  have HK2 := Lib.hid hb
  have X2 := Lib.hid (blk HX.out hb)
  have Z2 := Lib.hid (blk HZ.out hb)
  have K2 := kept_hid HB hb
  have I2 := Lib.hid (HI.out.below hb)
  clear hb HX HZ HB HI
  obtain ⟨c0, c1, c2, c3, c4, c5⟩ := cells6 X2.out
  have hzw := there_lt Z2.out
  go_wp2_with fail
  with_reducible refine (HDN.out _ K2.out).mono ?_
  rintro e wd ⟨va, vc, rfl, ho, hb⟩
  have Zd := Lib.hid (blk Z2.out hb)
  have Kd := kept_hid K2 hb
  have HOd := Lib.hid (own_ge ho)
  have Od := Lib.hid (OwnCels.to ho)
  have HKZ := Lib.hid (show w.heap.size + 1 < w2.heap.size from hzw)
  clear c0 c1 c2 c3 c4 c5 hb ho
  obtain ⟨f0, f1, f2, f3, f4, f5⟩ := free6 Zd.out
  obtain ⟨z0, z1, z2, z3, z4, z5⟩ := cells6 Zd.out
  have SF := Lib.hid (over6 wd (w.heap.size + 1) _ _ _ _ _ _ _ (.int .i64 r) (.int .i64 q) (.slice va cs.length vc) (.int .i64 (kc : Int)) (.bool true) (.bool ins) Zd.out)
  go_wp2_with fail
  clear z0 z1 z2 z3 z4 z5 f0 f1 f2 f3 f4 f5
  generalize (((((wd.setCell _ _).setCell _ _).setCell _ _).setCell _ _).setCell _ _).setCell _ _ = w9 at *
  exact bodyPost_ret (v := .tuple #[.agg #[.int .i64 r, .int .i64 q, .slice va cs.length vc, .int .i64 (kc : Int), .bool true, .bool ins], .int .i64 8, .int .i64 (kc : Int)]) (results_cell_2 rfl _ _ _ (w.heap.size + 1) _ rfl (run_loadVar_row _ (w.heap.size + 1) 24 24 _ (0, 0) _ SF.out.1 Tryd.underlying24 rfl (by kernel_rfl)) (.int .i64 8) (.int .i64 (kc : Int)) rfl rfl) rfl ⟨va, vc, rfl, celsIn_away Od.out SF.out.2 (fun x hx => by have h1 := HOd.out x.block (by rw [hx]; rfl); have := HKZ.out; omega), below_grown Kd.out SF.out.2 (by omega)⟩
set_option maxRecDepth 100000 in
set_option maxHeartbeats 8000000 in
theorem rt_9 (s : S) (ad : Option Addr) (k c kc : Nat) (w : World) (h : CelsIn w (.slice ad s.cs.length k) s.cs) (hl : s.cs.length < 10000) (hc : c < 256) (hk : kc < s.cs.length) (hcur : s.cur = (kc : Int)) (hlt : ltr c = true) (hlk : s.lk = false) (hop : open_ s.cs kc = true) (hcd : (((attrOf s.cs kc).n && !digit c) && (c != 28 && c != 30)) = true) :
    Calls Tryd.prog 11 #[.agg #[.int .i64 s.rows, .int .i64 s.cols, .slice ad s.cs.length k, .int .i64 s.cur, .bool s.lk, .bool s.ins], .int .u8 (c : Int)] w fun e w' => ShownE w w' (deny s) 9 (kc : Int) e := by
  obtain ⟨r, q, cs, cur, lk, ins⟩ := s
  simp only at *
  subst hcur
  subst hlk
  have HB := Lib.hid (kept_trans (al_any w (.cells #[.int .i64 r, .int .i64 q, .slice ad cs.length k, .int .i64 (kc : Int), .bool false, .bool ins] 24)) (al_any _ (.cells #[.int .i64 0, .int .i64 0, .slice none 0 0, .int .i64 0, .bool false, .bool false] 24)))
  have HX := Lib.hid (heap_alloc2_old w (.cells #[.int .i64 r, .int .i64 q, .slice ad cs.length k, .int .i64 (kc : Int), .bool false, .bool ins] 24) (.cells #[.int .i64 0, .int .i64 0, .slice none 0 0, .int .i64 0, .bool false, .bool false] 24))
  have HZ := Lib.hid (heap_alloc2_new w (.cells #[.int .i64 r, .int .i64 q, .slice ad cs.length k, .int .i64 (kc : Int), .bool false, .bool ins] 24) (.cells #[.int .i64 0, .int .i64 0, .slice none 0 0, .int .i64 0, .bool false, .bool false] 24))
  have HI := Lib.hid (h.below HB.out)
  have HLT := Lib.hid fun W => rltr_any c W hc
  have HL := Lib.hid hl
  have HK := Lib.hid hk
  have HNE := Lib.hid (celsIn_lt h (Nat.lt_of_le_of_lt (Nat.zero_le _) hk))
  have HOP := Lib.hid fun W hb => ropen_any ⟨r, q, cs, (kc : Int), false, ins⟩ ad k kc W (HI.out.below hb) (by simp only; omega) (by simp only; omega) (by simp only; omega)
  have HDN := Lib.hid fun W (hb : Below w.heap.size w W) => rdeny_any ⟨r, q, cs, (kc : Int), false, ins⟩ ad k W (h.below hb) (by simp only; omega) (by simp only; omega)
  simp only [GaveA, deny] at HOP HDN
  have HOF := Lib.hid fun W hb => rof_any ⟨r, q, cs, (kc : Int), false, ins⟩ ad k kc W (HI.out.below hb) (by simp only; omega) (by simp only; omega) (by simp only; omega)
  have HDG := Lib.hid fun W => rdigit_any c W hc
  simp only at HOF
  rw [hop] at HOP
  have HCD := Lib.hid hcd
  clear h hl hc hk hop hcd
  go_enter Tryd.func11, Tryd.ntmps11
  go_upto_region 1 with (fail)
  generalize (w.alloc _).alloc _ = w1 at *
  go_wp2_with fail
  with_reducible refine (HLT.out _).mono ?_
  rintro e wx ⟨rfl, rfl⟩
  rw [hlt]
  clear hlt HLT
  obtain ⟨c0, c1, c2, c3, c4, c5⟩ := cells6 HX.out
  go_wp2_with fail
  with_reducible refine (HOP.out _ (Below.refl _ _)).mono ?_
  rintro e w2 ⟨rfl, hb⟩
  clear c0 c1 c2 c3 c4 c5 HOP
  have HK2 := Lib.hid hb
  have X2 := Lib.hid (blk HX.out hb)
  have Z2 := Lib.hid (blk HZ.out hb)
  have K2 := kept_hid HB hb
  have I2 := Lib.hid (HI.out.below hb)
  clear hb HX HZ HB HI
  have hfn := field_n (attrOf cs kc).p (attrOf cs kc).n (attrOf cs kc).s (attrOf cs kc).m
  go_upto_region 8 with (fail)
  go_cut [48] from 32 to 47 (fun v wx => v = .bool (((attrOf cs kc).n && !digit c) && (c != 28 && c != 30)) ∧ Hid (Below w2.heap.size w2 wx))
  case first =>
    obtain ⟨c0, c1, c2, c3, c4, c5⟩ := cells6 X2.out
    go_wp2_with fail
    with_reducible refine (HOF.out _ HK2.out).mono ?_
    rintro e w3 ⟨rfl, hb⟩
    replace hb := Lib.hid hb
    clear c0 c1 c2 c3 c4 c5 HOF HCD
    generalize (attrOf cs kc).n = nn at *
    generalize (attrOf cs kc).p = pp at *
    generalize (attrOf cs kc).s = qq at *
    generalize (attrOf cs kc).m = mm at *
    cases nn with
    | false =>
      go_wp2_with fail
      go_meet
      exact ⟨rfl, hb⟩
    | true =>
      go_wp2_with fail
      with_reducible refine (HDG.out _).mono ?_
      rintro e w4 ⟨rfl, rfl⟩
      cases hd : digit c with
      | true =>
        go_wp2_with fail
        go_meet
        exact ⟨by simp [hd], hb⟩
      | false =>
        by_cases h28 : c = 28
        · have e1 : ((c : Int) != 28) = false := by simp; omega
          replace h28 := Lib.hid h28
          go_wp2_with fail
          go_meet
          exact ⟨by simp [hd, h28.out], hb⟩
        · have e1 : ((c : Int) != 28) = true := by simp; omega
          by_cases h30 : c = 30
          · have e2 : ((c : Int) != 30) = false := by simp; omega
            replace h30 := Lib.hid h30
            go_wp2_with fail
            go_meet
            exact ⟨by simp [hd, h28, h30.out], hb⟩
          · have e2 : ((c : Int) != 30) = true := by simp; omega
            go_wp2_with fail
            go_meet
            exact ⟨by simp [hd, h28, h30], hb⟩
  case rest =>
    obtain ⟨rfl, hb⟩ := hcut
    rw [HCD.out]
    have HK3 := kept_hid HK2 hb.out
    have X3 := Lib.hid (blk X2.out hb.out)
    have Z3 := Lib.hid (blk Z2.out hb.out)
    have K3 := kept_hid K2 hb.out
    have I3 := Lib.hid (I2.out.below hb.out)
    clear hb HK2 X2 Z2 K2 I2 HDG HOF HCD hfn
    obtain ⟨c0, c1, c2, c3, c4, c5⟩ := cells6 X3.out
    have hzw := there_lt Z3.out
    go_wp2_with fail
    with_reducible refine (HDN.out _ K3.out).mono ?_
    rintro e wd ⟨va, vc, rfl, ho, hb⟩
    have Zd := Lib.hid (blk Z3.out hb)
    have Kd := kept_hid K3 hb
    have HOd := Lib.hid (own_ge ho)
    have Od := Lib.hid (OwnCels.to ho)
    have HKZ := Lib.hid (show w.heap.size + 1 < wc.heap.size from hzw)
    clear c0 c1 c2 c3 c4 c5 hb ho
    obtain ⟨f0, f1, f2, f3, f4, f5⟩ := free6 Zd.out
    obtain ⟨z0, z1, z2, z3, z4, z5⟩ := cells6 Zd.out
    have SF := Lib.hid (over6 wd (w.heap.size + 1) _ _ _ _ _ _ _ (.int .i64 r) (.int .i64 q) (.slice va cs.length vc) (.int .i64 (kc : Int)) (.bool true) (.bool ins) Zd.out)
    go_wp2_with fail
    clear z0 z1 z2 z3 z4 z5 f0 f1 f2 f3 f4 f5
    generalize (((((wd.setCell _ _).setCell _ _).setCell _ _).setCell _ _).setCell _ _).setCell _ _ = w9 at *
    exact bodyPost_ret (v := .tuple #[.agg #[.int .i64 r, .int .i64 q, .slice va cs.length vc, .int .i64 (kc : Int), .bool true, .bool ins], .int .i64 9, .int .i64 (kc : Int)]) (results_cell_2 rfl _ _ _ (w.heap.size + 1) _ rfl (run_loadVar_row _ (w.heap.size + 1) 24 24 _ (0, 0) _ SF.out.1 Tryd.underlying24 rfl (by kernel_rfl)) (.int .i64 9) (.int .i64 (kc : Int)) rfl rfl) rfl ⟨va, vc, rfl, celsIn_away Od.out SF.out.2 (fun x hx => by have h1 := HOd.out x.block (by rw [hx]; rfl); have := HKZ.out; omega), below_grown Kd.out SF.out.2 (by omega)⟩
theorem modif_eta (s : S) (a : Nat) : modif s a = ⟨s.rows, s.cols, (modif s a).cs, s.cur, s.lk, s.ins⟩ := by
  obtain ⟨h1, h2, h3, h4, h5⟩ := modif_rest s a
  generalize modif s a = t at *
  obtain ⟨r, c, cs, cur, lk, ins⟩ := t
  simp only at h1 h2 h3 h4 h5
  subst h1 h2 h3 h4 h5
  rfl
/-- The first empty cell of the line from its q-th on (-1: none). -/
def fv (cs : List C) (l : List Nat) (q : Nat) : Int := match firstK (fun i => (cs.getD (l.getD i 0) noC).c == 0) q (l.length - q) with
  | some j => (j : Int)
  | none => -1
theorem fv_end (cs : List C) (l : List Nat) : fv cs l l.length = -1 := by unfold fv; rw [Nat.sub_self]; rfl
theorem fv_zero (cs : List C) (l : List Nat) : fv cs l 0 = match free cs l with | some j => (j : Int) | none => -1 := rfl
theorem fv_succ (cs : List C) (l : List Nat) {q : Nat} (h : q < l.length) : fv cs l q = if (cs.getD (l.getD q 0) noC).c = 0 then (q : Int) else fv cs l (q + 1) := by
  unfold fv
  rw [show l.length - q = (l.length - (q + 1)) + 1 by omega]
  show (match (if ((cs.getD (l.getD q 0) noC).c == 0) = true then some q else firstK _ (q + 1) (l.length - (q + 1))) with | some j => (j : Int) | none => -1) = _
  by_cases hc : (cs.getD (l.getD q 0) noC).c = 0
  · rw [if_pos (by simpa using hc), if_pos hc]
  · rw [if_neg (by simpa using hc), if_neg hc]
set_option maxRecDepth 100000 in
set_option maxHeartbeats 8000000 in
theorem rt_10 (s : S) (ad : Option Addr) (k c kc : Nat) (w : World) (h : CelsIn w (.slice ad s.cs.length k) s.cs) (hl : s.cs.length < 10000) (hc : c < 256) (hk : kc < s.cs.length) (hcur : s.cur = (kc : Int)) (hlt : ltr c = true) (hlk : s.lk = false) (hop : open_ s.cs kc = true) (hcd : (((attrOf s.cs kc).n && !digit c) && (c != 28 && c != 30)) = false) (hin : s.ins = true) (hfr : free s.cs (line s.cs kc) = none) :
    Calls Tryd.prog 11 #[.agg #[.int .i64 s.rows, .int .i64 s.cols, .slice ad s.cs.length k, .int .i64 s.cur, .bool s.lk, .bool s.ins], .int .u8 (c : Int)] w fun e w' => ShownE w w' (deny s) 10 (kc : Int) e := by
  obtain ⟨r, q, cs, cur, lk, ins⟩ := s
  simp only at *
  subst hcur
  obtain ⟨_, _, _, _, _, _, ec⟩ := c_eta (cs.getD kc noC)
  obtain ⟨bA, oA, rfl, _⟩ := h.cells hk ec
  clear ec
  subst hlk
  subst hin
  have HB := Lib.hid (kept_trans (al_any w (.cells #[.int .i64 r, .int .i64 q, .slice (some ⟨bA, oA, none⟩) cs.length k, .int .i64 (kc : Int), .bool false, .bool true] 24)) (al_any _ (.cells #[.int .i64 0, .int .i64 0, .slice none 0 0, .int .i64 0, .bool false, .bool false] 24)))
  have HX := Lib.hid (heap_alloc2_old w (.cells #[.int .i64 r, .int .i64 q, .slice (some ⟨bA, oA, none⟩) cs.length k, .int .i64 (kc : Int), .bool false, .bool true] 24) (.cells #[.int .i64 0, .int .i64 0, .slice none 0 0, .int .i64 0, .bool false, .bool false] 24))
  have HZ := Lib.hid (heap_alloc2_new w (.cells #[.int .i64 r, .int .i64 q, .slice (some ⟨bA, oA, none⟩) cs.length k, .int .i64 (kc : Int), .bool false, .bool true] 24) (.cells #[.int .i64 0, .int .i64 0, .slice none 0 0, .int .i64 0, .bool false, .bool false] 24))
  have HI := Lib.hid (h.below HB.out)
  have HLT := Lib.hid fun W => rltr_any c W hc
  have HL := Lib.hid hl
  have HK := Lib.hid hk
  have HNE := Lib.hid (celsIn_lt h (Nat.lt_of_le_of_lt (Nat.zero_le _) hk))
  have HOP := Lib.hid fun W hb => ropen_any ⟨r, q, cs, (kc : Int), false, true⟩ (some ⟨bA, oA, none⟩) k kc W (HI.out.below hb) (by simp only; omega) (by simp only; omega) (by simp only; omega)
  have HDN := Lib.hid fun W (hb : Below w.heap.size w W) => rdeny_any ⟨r, q, cs, (kc : Int), false, true⟩ (some ⟨bA, oA, none⟩) k W (h.below hb) (by simp only; omega) (by simp only; omega)
  simp only [GaveA, deny] at HOP HDN
  have HOF := Lib.hid fun W hb => rof_any ⟨r, q, cs, (kc : Int), false, true⟩ (some ⟨bA, oA, none⟩) k kc W (HI.out.below hb) (by simp only; omega) (by simp only; omega) (by simp only; omega)
  have HDG := Lib.hid fun W => rdigit_any c W hc
  simp only at HOF
  rw [hop] at HOP
  have HCD := Lib.hid hcd
  have HMD := Lib.hid fun W (hb : Below w.heap.size w W) => rmodify_any ⟨r, q, cs, (kc : Int), false, true⟩ (some ⟨bA, oA, none⟩) k kc W (h.below hb) (by simp only; omega) (by simp only; omega) (by simp only; omega)
  rw [modif_eta] at HMD
  have HML := Lib.hid (modif_length ⟨r, q, cs, (kc : Int), false, true⟩ kc)
  simp only [GaveA] at HMD HML
  rw [HML.out] at HMD
  have HLI := Lib.hid fun W (hb : Below w.heap.size w W) => rline_any ⟨r, q, cs, (kc : Int), false, true⟩ (some ⟨bA, oA, none⟩) k kc W (h.below hb) (by simp only; omega) (by simp only; omega) (by simp only; omega)
  simp only at HLI
  have HLN := Lib.hid (lineLen_pos hk hop)
  have HLL := Lib.hid (line_length cs kc)
  have HLX := Lib.hid (fun x (hx : x ∈ line cs kc) => line_lt (cs := cs) (by omega) hx)
  have HFR := Lib.hid hfr
  clear h hl hc hk hop hcd hfr
  go_enter Tryd.func11, Tryd.ntmps11
  go_upto_region 1 with (fail)
  generalize (w.alloc _).alloc _ = w1 at *
  go_wp2_with fail
  with_reducible refine (HLT.out _).mono ?_
  rintro e wx ⟨rfl, rfl⟩
  rw [hlt]
  clear hlt HLT
  obtain ⟨c0, c1, c2, c3, c4, c5⟩ := cells6 HX.out
  go_wp2_with fail
  with_reducible refine (HOP.out _ (Below.refl _ _)).mono ?_
  rintro e w2 ⟨rfl, hb⟩
  clear c0 c1 c2 c3 c4 c5 HOP
  have HK2 := Lib.hid hb
  have X2 := Lib.hid (blk HX.out hb)
  have Z2 := Lib.hid (blk HZ.out hb)
  have K2 := kept_hid HB hb
  have I2 := Lib.hid (HI.out.below hb)
  clear hb HX HZ HB HI
  have hfn := field_n (attrOf cs kc).p (attrOf cs kc).n (attrOf cs kc).s (attrOf cs kc).m
  go_upto_region 8 with (fail)
  go_cut [48] from 32 to 47 (fun v wx => v = .bool (((attrOf cs kc).n && !digit c) && (c != 28 && c != 30)) ∧ Hid (Below w2.heap.size w2 wx))
  case first =>
    obtain ⟨c0, c1, c2, c3, c4, c5⟩ := cells6 X2.out
    go_wp2_with fail
    with_reducible refine (HOF.out _ HK2.out).mono ?_
    rintro e w3 ⟨rfl, hb⟩
    replace hb := Lib.hid hb
    clear c0 c1 c2 c3 c4 c5 HOF HCD
    generalize (attrOf cs kc).n = nn at *
    generalize (attrOf cs kc).p = pp at *
    generalize (attrOf cs kc).s = qq at *
    generalize (attrOf cs kc).m = mm at *
    cases nn with
    | false =>
      go_wp2_with fail
      go_meet
      exact ⟨rfl, hb⟩
    | true =>
      go_wp2_with fail
      with_reducible refine (HDG.out _).mono ?_
      rintro e w4 ⟨rfl, rfl⟩
      cases hd : digit c with
      | true =>
        go_wp2_with fail
        go_meet
        exact ⟨by simp [hd], hb⟩
      | false =>
        by_cases h28 : c = 28
        · have e1 : ((c : Int) != 28) = false := by simp; omega
          replace h28 := Lib.hid h28
          go_wp2_with fail
          go_meet
          exact ⟨by simp [hd, h28.out], hb⟩
        · have e1 : ((c : Int) != 28) = true := by simp; omega
          by_cases h30 : c = 30
          · have e2 : ((c : Int) != 30) = false := by simp; omega
            replace h30 := Lib.hid h30
            go_wp2_with fail
            go_meet
            exact ⟨by simp [hd, h28, h30.out], hb⟩
          · have e2 : ((c : Int) != 30) = true := by simp; omega
            go_wp2_with fail
            go_meet
            exact ⟨by simp [hd, h28, h30], hb⟩
  case rest =>
    obtain ⟨rfl, hb⟩ := hcut
    rw [HCD.out]
    have HK3 := kept_hid HK2 hb.out
    have X3 := Lib.hid (blk X2.out hb.out)
    have Z3 := Lib.hid (blk Z2.out hb.out)
    have K3 := kept_hid K2 hb.out
    have I3 := Lib.hid (I2.out.below hb.out)
    clear hb HK2 X2 Z2 K2 I2 HDG HOF HCD hfn
    obtain ⟨c0, c1, c2, c3, c4, c5⟩ := cells6 X3.out
    go_wp2_with fail
    with_reducible refine (HMD.out _ K3.out).mono ?_
    rintro e w4 ⟨va, vc, rfl, ho, hb⟩
    clear c0 c1 c2 c3 c4 c5 HMD
    generalize hmc : (modif ⟨r, q, cs, (kc : Int), false, true⟩ kc).cs = mc at ho HML
    replace hmc := Lib.hid hmc
    obtain ⟨g, vd, e1, hg1, hg2, _⟩ := OwnCels.at ho (by rw [HML.out]; have := HK.out; omega)
    injection e1 with e1 e2 e3
    subst e1
    clear e2 e3
    have hz0 := there_lt Z3.out
    have HA2 := al_any w4 (.cells #[.int .i64 r, .int .i64 q, .slice (some ⟨g, 0, none⟩) cs.length vc, .int .i64 (kc : Int), .bool false, .bool true] 24)
    have L5 := Lib.hid (heap_alloc_new w4 (.cells #[.int .i64 r, .int .i64 q, .slice (some ⟨g, 0, none⟩) cs.length vc, .int .i64 (kc : Int), .bool false, .bool true] 24))
    have X5 := Lib.hid (blk X3.out (kept_trans hb HA2))
    have Z5 := Lib.hid (blk Z3.out (kept_trans hb HA2))
    have O5 := Lib.hid ((OwnCels.below ho HA2).mono K3.out.size)
    have K5 := kept_hid K3 (kept_trans hb HA2)
    have I5 := Lib.hid (I3.out.below (kept_trans hb HA2))
    have hsz := hb.size
    clear HA2 ho hb X3 Z3 K3 I3 HK3
    go_upto_region 11 with (fail)
    have HG1 := Lib.hid (show w.heap.size + 1 < g from by omega)
    have HG2 := Lib.hid hg2
    have HG3 := Lib.hid (show w.heap.size + 1 < w4.heap.size from by omega)
    clear hg1 hg2 hz0 hsz
    generalize w4.alloc _ = w5 at *
    generalize w4.heap.size = G at *
    obtain ⟨c0, c1, c2, c3, c4, c5⟩ := cells6 X5.out
    go_wp2_with fail
    with_reducible refine (HLI.out _ K5.out).mono ?_
    rintro e w6 ⟨vl, rfl, hl6, hb⟩
    obtain ⟨al, kl, rfl⟩ := hl6.form
    have L6 := Lib.hid (blk L5.out hb)
    have X6 := Lib.hid (blk X5.out hb)
    have Z6 := Lib.hid (blk Z5.out hb)
    have O6 := Lib.hid (O5.out.below hb)
    have K6 := kept_hid K5 hb
    have I6 := Lib.hid (I5.out.below hb)
    obtain ⟨gl, hgl0, _⟩ := hl6.cell (i := 0) (by rw [HLL.out]; exact HLN.out.1)
    subst hgl0
    have R6 := Lib.hid hl6
    have HVB := Lib.hid (show w5.heap.size ≤ gl from (own_blocks hl6 _ rfl).1)
    have HG5 := Lib.hid (show G < w5.heap.size from there_lt L5.out)
    clear c0 c1 c2 c3 c4 c5 hl6 hb HLI L5 X5 Z5 O5 K5 I5
    generalize hl : line cs kc = l at *
    replace hl := Lib.hid hl
    have hn1 : IntKind.i64.wrap ((l.length : Int) - 1) = (l.length : Int) - 1 := by
      have := HLL.out
      have := HLN.out
      have := HL.out
      rw [IntWalk.i64_in] <;> omega
    go_wp2_with fail
    go_loopg [10, 11] (l.length + 1) (fun mm fr ii wr => ∃ p : Nat, p ≤ l.length ∧ mm = p + 1 ∧ ii = .int .i64 ((p : Int) - 1) ∧ fr = .int .i64 (fv cs l p) ∧ Hid (wr.heap[G]? = some (.cells #[.int .i64 r, .int .i64 q, .slice (some ⟨g, 0, none⟩) cs.length vc, .int .i64 (kc : Int), .bool false, .bool true] 24 (0, 0))) ∧ Hid (OwnCels wr w.heap.size (.slice (some ⟨g, 0, none⟩) cs.length vc) mc) ∧ Hid (wr.heap[w.heap.size]? = some (.cells #[.int .i64 r, .int .i64 q, .slice (some ⟨bA, oA, none⟩) cs.length k, .int .i64 (kc : Int), .bool false, .bool true] 24 (0, 0))) ∧ Hid (wr.heap[w.heap.size + 1]? = some (.cells #[.int .i64 0, .int .i64 0, .slice none 0 0, .int .i64 0, .bool false, .bool false] 24 (0, 0))) ∧ Hid (Below w.heap.size w wr) ∧ Hid (CelsIn wr (.slice (some ⟨bA, oA, none⟩) cs.length k) cs) ∧ Hid (OwnInts wr w5.heap.size (.slice (some ⟨gl, 0, none⟩) l.length kl) l))
    case atStart => exact ⟨l.length, Nat.le_refl _, rfl, rfl, by rw [fv_end], L6, O6, X6, Z6, K6, I6, R6⟩
    case round =>
      obtain ⟨p, hp, rfl, rfl, rfl, L7, O7, X7, Z7, K7, I7, R7⟩ := hrel
      clear L6 O6 X6 Z6 K6 I6 R6
      cases p with
      | succ p =>
        have FV := Lib.hid (fv_succ cs l (q := p) (by omega))
        have hpl : p < l.length := by omega
        have HXL := Lib.hid (HLX.out _ (show l.getD p 0 ∈ l by rw [List.getD_eq_getElem?_getD, List.getElem?_eq_getElem hpl]; exact List.getElem_mem hpl))
        obtain ⟨g', hg', _, hgl, hcell, _⟩ := R7.out.cell hpl
        rw [Nat.zero_add] at hcell
        injection hg' with hg'
        injection hg' with hg' _ _
        subst hg'
        generalize l.getD p 0 = x at *
        obtain ⟨yf, yp, yn, ys, ym, yc, ey⟩ := c_eta (cs.getD x noC)
        obtain ⟨b1, o1, eo, g0, g1, g2, g3, g4, g5⟩ := I7.out.cells HXL.out ey
        injection eo with eo
        injection eo with eo1 eo2
        subst eo1 eo2
        rw [ey] at FV
        rw [show (((p + 1 : Nat) : Int) - 1) = (p : Int) by omega]
        have ed : IntKind.i64.wrap ((p : Int) - 1) = (p : Int) - 1 := by
          have := HLL.out
          have := HLN.out
          have := HL.out
          rw [IntWalk.i64_in] <;> omega
        have hi0 : (0 : Int) ≤ (p : Int) := by omega
        have hi1 : (p : Int) < (l.length : Int) := by omega
        have hj0 : (0 : Int) ≤ (x : Int) := by omega
        have hj1 : (x : Int) < (cs.length : Int) := by have := HXL.out; omega
        obtain ⟨c0, c1, c2, c3, c4, c5⟩ := cells6 X7.out
        have HD := (Below.refl wr.heap.size wr).drew
        have L8 := Lib.hid (blk L7.out HD)
        have X8 := Lib.hid (blk X7.out HD)
        have Z8 := Lib.hid (blk Z7.out HD)
        have O8 := Lib.hid (O7.out.below HD)
        have K8 := kept_hid K7 HD
        have I8 := Lib.hid (I7.out.below HD)
        have R8 := Lib.hid (R7.out.below HD)
        clear HD L7 X7 Z7 O7 K7 I7 R7 ey
        by_cases hy0 : yc = 0
        · have FW := Lib.hid (show fv cs l p = (p : Int) by rw [FV.out, if_pos hy0])
          have e0 : ((yc : Int) == 0) = true := by simp; omega
          clear FV hy0
          go_upto_region 17 with (fail)
          go_region
          clear c0 c1 c2 c3 c4 c5 g0 g1 g2 g3 g4 g5 hcell
          generalize wr.drew = wd at *
          go_wp2_with fail
          go_roundg (p + 1)
          case measure => omega
          case rel => exact ⟨p, by omega, rfl, rfl, by rw [FW.out], L8, O8, X8, Z8, K8, I8, R8⟩
        · have FW := Lib.hid (show fv cs l p = fv cs l (p + 1) by rw [FV.out, if_neg hy0])
          have e0 : ((yc : Int) == 0) = false := by simp; omega
          clear FV hy0
          go_upto_region 17 with (fail)
          go_region
          clear c0 c1 c2 c3 c4 c5 g0 g1 g2 g3 g4 g5 hcell
          generalize wr.drew = wd at *
          go_wp2_with fail
          go_roundg (p + 1)
          case measure => omega
          case rel => exact ⟨p, by omega, rfl, rfl, by rw [FW.out], L8, O8, X8, Z8, K8, I8, R8⟩
      | zero =>
        rw [show (((0 : Nat) : Int) - 1) = -1 from rfl]
        have FV := Lib.hid (show fv cs l 0 = -1 by rw [fv_zero, HFR.out])
        rw [FV.out]
        obtain ⟨c0, c1, c2, c3, c4, c5⟩ := cells6 X7.out
        have hzw := there_lt Z7.out
        go_wp2_with fail
        with_reducible refine (HDN.out _ K7.out).mono ?_
        rintro e wd ⟨va, vc, rfl, ho, hb⟩
        have Zd := Lib.hid (blk Z7.out hb)
        have Kd := kept_hid K7 hb
        have HOd := Lib.hid (own_ge ho)
        have Od := Lib.hid (OwnCels.to ho)
        have HKZ := Lib.hid (show w.heap.size + 1 < wr.heap.size from hzw)
        clear c0 c1 c2 c3 c4 c5 hb ho
        obtain ⟨f0, f1, f2, f3, f4, f5⟩ := free6 Zd.out
        obtain ⟨z0, z1, z2, z3, z4, z5⟩ := cells6 Zd.out
        have SF := Lib.hid (over6 wd (w.heap.size + 1) _ _ _ _ _ _ _ (.int .i64 r) (.int .i64 q) (.slice va cs.length vc) (.int .i64 (kc : Int)) (.bool true) (.bool true) Zd.out)
        go_wp2_with fail
        clear z0 z1 z2 z3 z4 z5 f0 f1 f2 f3 f4 f5
        generalize (((((wd.setCell _ _).setCell _ _).setCell _ _).setCell _ _).setCell _ _).setCell _ _ = w9 at *
        exact bodyPost_ret (v := .tuple #[.agg #[.int .i64 r, .int .i64 q, .slice va cs.length vc, .int .i64 (kc : Int), .bool true, .bool true], .int .i64 10, .int .i64 (kc : Int)]) (results_cell_2 rfl _ _ _ (w.heap.size + 1) _ rfl (run_loadVar_row _ (w.heap.size + 1) 24 24 _ (0, 0) _ SF.out.1 Tryd.underlying24 rfl (by kernel_rfl)) (.int .i64 10) (.int .i64 (kc : Int)) rfl rfl) rfl ⟨va, vc, rfl, celsIn_away Od.out SF.out.2 (fun x hx => by have h1 := HOd.out x.block (by rw [hx]; rfl); have := HKZ.out; omega), below_grown Kd.out SF.out.2 (by omega)⟩
end Edt
end Go.Proofs.YtoafcmklomopaaaDoor
