/- The landed code of package host: Do. Written by tools/gen_hst_do.py. -/
import Derived.Test.YtaopkelobglnbaaGreatDoorHstWri
import Derived.Test.YtaopkelobglnbaaGreatDoorHstClr
import Derived.Test.YtaopkelobglnbaaGreatDoorBunStr
import Derived.Test.YtaopkelobglnbaaGreatDoorScrGave
import Derived.Deep.Cut
import Derived.Deep.RegionHeld3
namespace Go.Proofs.YtaopkelobglnbaaGreatDoor
open Go.RowKit Sha Six Apd Cut Err Att Grd Fld Pnt Scr
set_option linter.unusedVariables false
namespace Hst
set_option maxRecDepth 100000 in
set_option maxHeartbeats 8000000 in
theorem do_no (s : S) (ad : Option Addr) (k : Nat) (o : Str.Cm) (al : Option Addr) (nl cl : Nat) (w : World) (h : CelsIn w (.slice ad s.cs.length k) s.cs) (hr : sright s = true) (h8 : Sound s.cs) (hl : s.cs.length < 10000) (hO : Str.OrdsIn w 0 (.slice al nl cl) o.os) (ho8 : Str.Sound o.os) (hol : o.os.length < 10000) (hc : (Str.cwrite o s.cs.length).2.1 ≠ 0) :
    Calls Tryz.prog 26 #[.agg #[.int .i64 s.rows, .int .i64 s.cols, .slice ad s.cs.length k, .int .i64 s.cur, .bool s.lk, .bool s.ins], .agg #[.int .i64 o.cmd, .bool o.a, .bool o.u, .bool o.r, .slice al nl cl]] w fun e w' => RefusedS w w' s (((Str.cwrite o s.cs.length).2.1 : Nat) : Int) (Str.cwrite o s.cs.length).2.2 e := by
  have HA3 := Lib.hid (heap_alloc3 w (.cells #[.int .i64 s.rows, .int .i64 s.cols, .slice ad s.cs.length k, .int .i64 s.cur, .bool s.lk, .bool s.ins] 24) (.cells #[.int .i64 o.cmd, .bool o.a, .bool o.u, .bool o.r, .slice al nl cl] 52) (.cells #[.int .i64 0, .int .i64 0, .slice none 0 0, .int .i64 0, .bool false, .bool false] 24))
  have HB := Lib.hid (kept_trans (kept_trans (al_any w (.cells #[.int .i64 s.rows, .int .i64 s.cols, .slice ad s.cs.length k, .int .i64 s.cur, .bool s.lk, .bool s.ins] 24)) (al_any _ (.cells #[.int .i64 o.cmd, .bool o.a, .bool o.u, .bool o.r, .slice al nl cl] 52))) (al_any _ (.cells #[.int .i64 0, .int .i64 0, .slice none 0 0, .int .i64 0, .bool false, .bool false] 24)))
  have HX := Lib.hid HA3.out.1
  have HY := Lib.hid HA3.out.2.1
  have HZ := Lib.hid HA3.out.2.2
  have HP := Lib.hid (show 0 < s.cs.length from by have := (sright_parts hr).2; omega)
  have HS := Lib.hid fun W => size_any s.rows s.cols ad s.cs.length k s.cur s.lk s.ins W
  have HW := Lib.hid fun W (hb : Below ((( w.alloc (.cells #[.int .i64 s.rows, .int .i64 s.cols, .slice ad s.cs.length k, .int .i64 s.cur, .bool s.lk, .bool s.ins] 24)).alloc (.cells #[.int .i64 o.cmd, .bool o.a, .bool o.u, .bool o.r, .slice al nl cl] 52)).alloc (.cells #[.int .i64 0, .int .i64 0, .slice none 0 0, .int .i64 0, .bool false, .bool false] 24)).heap.size (((w.alloc (.cells #[.int .i64 s.rows, .int .i64 s.cols, .slice ad s.cs.length k, .int .i64 s.cur, .bool s.lk, .bool s.ins] 24)).alloc (.cells #[.int .i64 o.cmd, .bool o.a, .bool o.u, .bool o.r, .slice al nl cl] 52)).alloc (.cells #[.int .i64 0, .int .i64 0, .slice none 0 0, .int .i64 0, .bool false, .bool false] 24)) W) => (Str.write_any o al nl cl s.cs.length W (hO.below (kept_trans HB.out hb)) ho8 (by omega) (by have := HP.out; omega) (by omega)).mono (R' := fun e w' => ∃ v t u, e = .returned (.tuple #[v, .iface t u]) ∧ Below W.heap.size W w' ∧ Err.Told w' (.iface t u) (((Str.cwrite o s.cs.length).2.1 : Nat) : Int) (Str.cwrite o s.cs.length).2.2) (by
    rintro e w' ⟨v, ev, rfl, hb', hwr⟩
    rcases hwr with ⟨h0, _⟩ | ⟨_, _, ⟨t, u, rfl⟩, ht⟩
    · exact absurd h0 hc
    · exact ⟨v, t, u, rfl, hb', ht⟩)
  have HI := Lib.hid h
  have HLT := Lib.hid (Scr.celsIn_lt h HP.out)
  clear h hr h8 hl hO ho8 hol HA3 hc
  generalize Str.cwrite o s.cs.length = cw at *
  go_enter Tryz.func26, Tryz.ntmps26
  go_upto_region 1 with (fail)
  generalize ((w.alloc _).alloc _).alloc _ = w1 at *
  obtain ⟨c0, c1, c2, c3, c4, c5⟩ := cells6 HX.out
  obtain ⟨y0, y1, y2, y3, y4⟩ := cells5s HY.out
  go_region_held3 (fun w' => Below w1.heap.size w1 w' ∧ w'.cell? ⟨w.heap.size, 0, none⟩ = some (.int .i64 s.rows) ∧ w'.cell? ⟨w.heap.size, 1, none⟩ = some (.int .i64 s.cols) ∧ w'.cell? ⟨w.heap.size, 2, none⟩ = some (.slice ad s.cs.length k) ∧ w'.cell? ⟨w.heap.size, 3, none⟩ = some (.int .i64 s.cur) ∧ w'.cell? ⟨w.heap.size, 4, none⟩ = some (.bool s.lk) ∧ w'.cell? ⟨w.heap.size, 5, none⟩ = some (.bool s.ins) ∧ w'.cell? ⟨w.heap.size + 1, 0, none⟩ = some (.int .i64 o.cmd) ∧ w'.cell? ⟨w.heap.size + 1, 1, none⟩ = some (.bool o.a) ∧ w'.cell? ⟨w.heap.size + 1, 2, none⟩ = some (.bool o.u) ∧ w'.cell? ⟨w.heap.size + 1, 3, none⟩ = some (.bool o.r) ∧ w'.cell? ⟨w.heap.size + 1, 4, none⟩ = some (.slice al nl cl))
    (first | exact held11 HX.out HY.out (Below.refl _ _).drew | exact held11 HX.out HY.out (Below.refl _ _) | exact held11 HX.out HY.out (kept_trans (And.left (by assumption)) hb))
    (first
      | (go_at_call 44; refine (HS.out _).mono ?_; rintro e wa ⟨rfl, hb⟩)
      | (go_at_call 43; have hT := And.left (by assumption : Below w1.heap.size w1 _ ∧ _); refine (HW.out _ hT).mono ?_; rintro e w2 ⟨v, t, u, rfl, hb, ht⟩))
  have hS := (by assumption : Below w1.heap.size w1 w2 ∧ _).1
  have X2 := Lib.hid (blk HX.out hS)
  have Y2 := Lib.hid (blk HY.out hS)
  have Z2 := Lib.hid (blk HZ.out hS)
  have K2 := kept_hid HB hS
  have S2 := (by assumption : Below w1.heap.size w1 w2 ∧ _)
  clear S2 hT hS HX HY HZ HS HW HB c0 c1 c2 c3 c4 c5 y0 y1 y2 y3 y4
  replace ht := Lib.hid ht
  obtain ⟨c0, c1, c2, c3, c4, c5⟩ := cells6 X2.out
  obtain ⟨z0, z1, z2, z3, z4, z5⟩ := cells6 Z2.out
  obtain ⟨f0, f1, f2, f3, f4, f5⟩ := free6 Z2.out
  have SF := over6 w2 (w.heap.size + 2) _ _ _ _ _ _ _ (.int .i64 s.rows) (.int .i64 s.cols) (.slice ad s.cs.length k) (.int .i64 s.cur) (.bool s.lk) (.bool s.ins) Z2.out
  have Z9 := Lib.hid SF.1
  have I9 := Lib.hid (Scr.celsIn_away (HI.out.below K2.out) SF.2 (fun y hy => by have := HLT.out y hy; omega))
  have K9 := Lib.hid (below_grown K2.out SF.2 (by omega))
  have T9 := Lib.hid (Scr.told_other ht.out SF.2 (by intro t x; rw [z1]; intro e; injection e with e; injection e))
  clear SF ht
  go_wp2_with fail
  clear z0 z1 z2 z3 z4 z5 c0 c1 c2 c3 c4 c5 f0 f1 f2 f3 f4 f5
  generalize (((((w2.setCell _ _).setCell _ _).setCell _ _).setCell _ _).setCell _ _).setCell _ _ = w9 at *
  exact bodyPost_ret (v := .tuple #[.agg #[.int .i64 s.rows, .int .i64 s.cols, .slice ad s.cs.length k, .int .i64 s.cur, .bool s.lk, .bool s.ins], .iface t u]) (results_cell_row_tmp rfl _ _ _ (w.heap.size + 2) _ rfl (run_loadVar_row _ (w.heap.size + 2) 24 24 _ (0, 0) _ Z9.out Tryz.underlying24 rfl (by kernel_rfl)) (.iface t u) rfl) rfl ⟨ad, k, _, rfl, I9.out, T9.out, K9.out⟩
set_option maxRecDepth 100000 in
set_option maxHeartbeats 8000000 in
theorem do_ok (s : S) (ad : Option Addr) (k : Nat) (o : Str.Cm) (al : Option Addr) (nl cl : Nat) (w : World) (h : CelsIn w (.slice ad s.cs.length k) s.cs) (hr : sright s = true) (h8 : Sound s.cs) (hl : s.cs.length < 10000) (hO : Str.OrdsIn w 0 (.slice al nl cl) o.os) (ho8 : Str.Sound o.os) (hol : o.os.length < 10000) (hc : (Str.cwrite o s.cs.length).2.1 = 0) :
    Calls Tryz.prog 26 #[.agg #[.int .i64 s.rows, .int .i64 s.cols, .slice ad s.cs.length k, .int .i64 s.cur, .bool s.lk, .bool s.ins], .agg #[.int .i64 o.cmd, .bool o.a, .bool o.u, .bool o.r, .slice al nl cl]] w fun e w' => GaveS w w' (hdo s o) e := by
  have HA3 := Lib.hid (heap_alloc3 w (.cells #[.int .i64 s.rows, .int .i64 s.cols, .slice ad s.cs.length k, .int .i64 s.cur, .bool s.lk, .bool s.ins] 24) (.cells #[.int .i64 o.cmd, .bool o.a, .bool o.u, .bool o.r, .slice al nl cl] 52) (.cells #[.int .i64 0, .int .i64 0, .slice none 0 0, .int .i64 0, .bool false, .bool false] 24))
  have HB := Lib.hid (kept_trans (kept_trans (al_any w (.cells #[.int .i64 s.rows, .int .i64 s.cols, .slice ad s.cs.length k, .int .i64 s.cur, .bool s.lk, .bool s.ins] 24)) (al_any _ (.cells #[.int .i64 o.cmd, .bool o.a, .bool o.u, .bool o.r, .slice al nl cl] 52))) (al_any _ (.cells #[.int .i64 0, .int .i64 0, .slice none 0 0, .int .i64 0, .bool false, .bool false] 24)))
  have HX := Lib.hid HA3.out.1
  have HY := Lib.hid HA3.out.2.1
  have HZ := Lib.hid HA3.out.2.2
  have HP := Lib.hid (show 0 < s.cs.length from by have := (sright_parts hr).2; omega)
  have HS := Lib.hid fun W => size_any s.rows s.cols ad s.cs.length k s.cur s.lk s.ins W
  have HW := Lib.hid fun W (hb : Below (((w.alloc (.cells #[.int .i64 s.rows, .int .i64 s.cols, .slice ad s.cs.length k, .int .i64 s.cur, .bool s.lk, .bool s.ins] 24)).alloc (.cells #[.int .i64 o.cmd, .bool o.a, .bool o.u, .bool o.r, .slice al nl cl] 52)).alloc (.cells #[.int .i64 0, .int .i64 0, .slice none 0 0, .int .i64 0, .bool false, .bool false] 24)).heap.size (((w.alloc (.cells #[.int .i64 s.rows, .int .i64 s.cols, .slice ad s.cs.length k, .int .i64 s.cur, .bool s.lk, .bool s.ins] 24)).alloc (.cells #[.int .i64 o.cmd, .bool o.a, .bool o.u, .bool o.r, .slice al nl cl] 52)).alloc (.cells #[.int .i64 0, .int .i64 0, .slice none 0 0, .int .i64 0, .bool false, .bool false] 24)) W) => (Str.write_any o al nl cl s.cs.length W (hO.below (kept_trans HB.out hb)) ho8 (by omega) (by have := HP.out; omega) (by omega)).mono (R' := fun e w' => ∃ v, e = .returned (.tuple #[v, .nilIface]) ∧ Below W.heap.size W w') (by
    rintro e w' ⟨v, ev, rfl, hb', hwr⟩
    rcases hwr with ⟨_, rfl, _⟩ | ⟨h0, _⟩
    · exact ⟨v, rfl, hb'⟩
    · exact absurd hc h0)
  have HI := Lib.hid h
  have HOO := Lib.hid hO
  have HOX := Lib.hid fun W (hb : Below w.heap.size w W) => hO.below hb
  have HR := Lib.hid hr
  have H8 := Lib.hid h8
  have HL := Lib.hid hl
  have HO8 := Lib.hid ho8
  have HOL := Lib.hid hol
  have HCR := Lib.hid (cwrite_right hc)
  clear h hr h8 hl hO ho8 hol HA3 hc
  go_enter Tryz.func26, Tryz.ntmps26
  go_upto_region 1 with (fail)
  generalize ((w.alloc _).alloc _).alloc _ = w1 at *
  obtain ⟨c0, c1, c2, c3, c4, c5⟩ := cells6 HX.out
  obtain ⟨y0, y1, y2, y3, y4⟩ := cells5s HY.out
  go_region_held3 (fun w' => Below w1.heap.size w1 w' ∧ w'.cell? ⟨w.heap.size, 0, none⟩ = some (.int .i64 s.rows) ∧ w'.cell? ⟨w.heap.size, 1, none⟩ = some (.int .i64 s.cols) ∧ w'.cell? ⟨w.heap.size, 2, none⟩ = some (.slice ad s.cs.length k) ∧ w'.cell? ⟨w.heap.size, 3, none⟩ = some (.int .i64 s.cur) ∧ w'.cell? ⟨w.heap.size, 4, none⟩ = some (.bool s.lk) ∧ w'.cell? ⟨w.heap.size, 5, none⟩ = some (.bool s.ins) ∧ w'.cell? ⟨w.heap.size + 1, 0, none⟩ = some (.int .i64 o.cmd) ∧ w'.cell? ⟨w.heap.size + 1, 1, none⟩ = some (.bool o.a) ∧ w'.cell? ⟨w.heap.size + 1, 2, none⟩ = some (.bool o.u) ∧ w'.cell? ⟨w.heap.size + 1, 3, none⟩ = some (.bool o.r) ∧ w'.cell? ⟨w.heap.size + 1, 4, none⟩ = some (.slice al nl cl))
    (first | exact held11 HX.out HY.out (Below.refl _ _).drew | exact held11 HX.out HY.out (Below.refl _ _) | exact held11 HX.out HY.out (kept_trans (And.left (by assumption)) hb))
    (first
      | (go_at_call 44; refine (HS.out _).mono ?_; rintro e wa ⟨rfl, hb⟩)
      | (go_at_call 43; have hT := And.left (by assumption : Below w1.heap.size w1 _ ∧ _); refine (HW.out _ hT).mono ?_; rintro e w2 ⟨v, rfl, hb⟩))
  have hS := (by assumption : Below w1.heap.size w1 w2 ∧ _).1
  have X2 := Lib.hid (blk HX.out hS)
  have Y2 := Lib.hid (blk HY.out hS)
  have Z2 := Lib.hid (blk HZ.out hS)
  have K2 := kept_hid HB hS
  have S2 := (by assumption : Below w1.heap.size w1 w2 ∧ _)
  clear S2 hT hS HX HY HZ HS HW HB c0 c1 c2 c3 c4 c5 y0 y1 y2 y3 y4
  obtain ⟨c0, c1, c2, c3, c4, c5⟩ := cells6 X2.out
  obtain ⟨y0, y1, y2, y3, y4⟩ := cells5s Y2.out
  have I2 := Lib.hid (HI.out.below K2.out)
  have O2 := Lib.hid (HOO.out.below K2.out)
  rcases known_cases HCR.out.1 with h | h | h | h | h
  · -- Write
    have HPW := Lib.hid (show pwrong s.cs.length o.os = none from pwrong_all (HCR.out.2.1 (by rw [h]; rfl)))
    have HDO := Lib.hid (show hdo s o = hwrite s o.r o.u o.os from by unfold hdo; rw [if_neg (by omega), if_neg (by omega), if_neg (by omega)])
    obtain ⟨cmd, fa, fu, fr, os⟩ := o
    simp only at h y0 y1 y2 y3 y4 HPW HDO O2 HO8 HOL
    subst h
    have HC := Lib.hid fun W (hb : Below w2.heap.size w2 W) => write_any s ad k 241 fa fu fr al nl cl os W (I2.out.below hb) HR.out H8.out HL.out (O2.out.below hb) HO8.out HOL.out HPW.out
    clear HI HOO
    go_wp2_with fail
    with_reducible refine (HC.out _ (Below.refl _ _)).mono ?_
    rintro e w3 ⟨va, vc, rfl, ho, hb⟩
    generalize hwrite s fr fu os = t at *
    clear c0 c1 c2 c3 c4 c5 y0 y1 y2 y3 y4 X2 Y2 HC
    have Z3 := Lib.hid (blk Z2.out hb)
    have K3 := kept_hid K2 hb
    have HG := Lib.hid (show w.heap.size + 2 < w2.heap.size from there_lt Z2.out)
    obtain ⟨z0, z1, z2, z3, z4, z5⟩ := cells6 Z3.out
    obtain ⟨f0, f1, f2, f3, f4, f5⟩ := free6 Z3.out
    have SF := over6 w3 (w.heap.size + 2) _ _ _ _ _ _ _ (.int .i64 t.rows) (.int .i64 t.cols) (.slice va t.cs.length vc) (.int .i64 t.cur) (.bool t.lk) (.bool t.ins) Z3.out
    have Z9 := Lib.hid SF.1
    have O9 := Lib.hid ((OwnCels.away ho SF.2 (own_ne ho HG.out)).mono K2.out.size)
    have K9 := Lib.hid (below_grown K3.out SF.2 (by omega))
    clear SF ho hb
    go_wp2_with fail
    clear z0 z1 z2 z3 z4 z5 f0 f1 f2 f3 f4 f5
    generalize (((((w3.setCell _ _).setCell _ _).setCell _ _).setCell _ _).setCell _ _).setCell _ _ = w9 at *
    exact bodyPost_ret (v := .tuple #[.agg #[.int .i64 t.rows, .int .i64 t.cols, .slice va t.cs.length vc, .int .i64 t.cur, .bool t.lk, .bool t.ins], .nilIface]) (results_cell_row_tmp rfl _ _ _ (w.heap.size + 2) _ rfl (run_loadVar_row _ (w.heap.size + 2) 24 24 _ (0, 0) _ Z9.out Tryz.underlying24 rfl (by kernel_rfl)) .nilIface rfl) rfl ⟨va, vc, by rw [HDO.out], by rw [HDO.out]; exact O9.out, K9.out⟩
  · -- Erase
    have HPW := Lib.hid (show pwrong (herased s).cs.length o.os = none from by rw [show (herased s).cs.length = s.cs.length by simp [herased]]; exact pwrong_all (HCR.out.2.1 (by rw [h]; rfl)))
    have HDO := Lib.hid (show hdo s o = hwrite (herased s) o.r o.u o.os from by unfold hdo; rw [if_neg (by omega), if_neg (by omega), if_pos (by omega)])
    obtain ⟨cmd, fa, fu, fr, os⟩ := o
    simp only at h y0 y1 y2 y3 y4 HPW HDO O2 HO8 HOL
    subst h
    have HBL := Lib.hid fun W (hb : Below w2.heap.size w2 W) => blank_any s ad k W (I2.out.below hb) HR.out H8.out HL.out
    have HRE := Lib.hid (herased_right HR.out)
    have HLE := Lib.hid (show (herased s).cs.length = s.cs.length from by simp [herased])
    have HSE := Lib.hid (show Sound (herased s).cs from fun o ho => by rw [(List.mem_replicate.1 ho).2]; decide)
    clear HI HOO
    go_wp2_with fail
    with_reducible refine (HBL.out _ (Below.refl _ _)).mono ?_
    rintro e w4 ⟨va4, vd, rfl, ho, hb⟩
    clear c0 c1 c2 c3 c4 c5 y0 y1 y2 y3 y4 HBL
    generalize herased s = s1 at *
    have X4 := Lib.hid (blk X2.out hb)
    have Y4 := Lib.hid (blk Y2.out hb)
    have Z4 := Lib.hid (blk Z2.out hb)
    have hz2 := there_lt Z2.out
    obtain ⟨g4, e1, hg4, B5⟩ := Box.over (w0 := w) X4.out ho (by rw [HLE.out]; exact HP.out) (show w.heap.size < w2.heap.size by omega) (Nat.le_refl _) (kept_trans K2.out hb)
    subst e1
    have H5 := Lib.hid B5
    have SF := over6 w4 w.heap.size _ _ _ _ _ _ _ (.int .i64 s1.rows) (.int .i64 s1.cols) (.slice (some ⟨g4, 0, none⟩) s1.cs.length vd) (.int .i64 s1.cur) (.bool s1.lk) (.bool s1.ins) X4.out
    have Y5 := Lib.hid (blk_g Y4.out SF.2 (by intro e; injection e with e; omega))
    have Z5 := Lib.hid (blk_g Z4.out SF.2 (by intro e; injection e with e; omega))
    have O5 := Lib.hid fun W (hb : Below w.heap.size w W) => HOX.out W hb
    obtain ⟨c0, c1, c2, c3, c4, c5⟩ := cells6 X4.out
    obtain ⟨f0, f1, f2, f3, f4, f5⟩ := free6 X4.out
    clear ho hb hz2 Z4 Y4 SF B5 X2 Y2 Z2
    go_upto_region 9 with (fail)
    clear c0 c1 c2 c3 c4 c5 f0 f1 f2 f3 f4 f5 X4
    generalize (((((w4.setCell _ _).setCell _ _).setCell _ _).setCell _ _).setCell _ _).setCell _ _ = w5 at *
    obtain ⟨c0, c1, c2, c3, c4, c5⟩ := H5.out.cells
    obtain ⟨y0, y1, y2, y3, y4⟩ := cells5s Y5.out
    have HC := Lib.hid fun W (hb : Below w5.heap.size w5 W) => write_any s1 (some ⟨g4, 0, none⟩) vd 245 fa fu fr al nl cl os W (H5.out.own.to.below hb) HRE.out HSE.out (by rw [HLE.out]; exact HL.out) (O5.out W (kept_trans H5.out.kept hb)) HO8.out HOL.out HPW.out
    have K2 := Lib.hid H5.out.kept
    have Z2 := Z5
    clear Z5 Y5 O5
    obtain ⟨w2, rfl⟩ : ∃ w2 : World, w2 = w5 := ⟨_, rfl⟩
    go_wp2_with fail
    with_reducible refine (HC.out _ (Below.refl _ _)).mono ?_
    rintro e w3 ⟨va, vc, rfl, ho, hb⟩
    generalize hwrite s1 fr fu os = t at *
    clear c0 c1 c2 c3 c4 c5 y0 y1 y2 y3 y4 HC H5
    have Z3 := Lib.hid (blk Z2.out hb)
    have K3 := kept_hid K2 hb
    have HG := Lib.hid (show w.heap.size + 2 < w2.heap.size from there_lt Z2.out)
    obtain ⟨z0, z1, z2, z3, z4, z5⟩ := cells6 Z3.out
    obtain ⟨f0, f1, f2, f3, f4, f5⟩ := free6 Z3.out
    have SF := over6 w3 (w.heap.size + 2) _ _ _ _ _ _ _ (.int .i64 t.rows) (.int .i64 t.cols) (.slice va t.cs.length vc) (.int .i64 t.cur) (.bool t.lk) (.bool t.ins) Z3.out
    have Z9 := Lib.hid SF.1
    have O9 := Lib.hid ((OwnCels.away ho SF.2 (own_ne ho HG.out)).mono K2.out.size)
    have K9 := Lib.hid (below_grown K3.out SF.2 (by omega))
    clear SF ho hb
    go_wp2_with fail
    clear z0 z1 z2 z3 z4 z5 f0 f1 f2 f3 f4 f5
    generalize (((((w3.setCell _ _).setCell _ _).setCell _ _).setCell _ _).setCell _ _).setCell _ _ = w9 at *
    exact bodyPost_ret (v := .tuple #[.agg #[.int .i64 t.rows, .int .i64 t.cols, .slice va t.cs.length vc, .int .i64 t.cur, .bool t.lk, .bool t.ins], .nilIface]) (results_cell_row_tmp rfl _ _ _ (w.heap.size + 2) _ rfl (run_loadVar_row _ (w.heap.size + 2) 24 24 _ (0, 0) _ Z9.out Tryz.underlying24 rfl (by kernel_rfl)) .nilIface rfl) rfl ⟨va, vc, by rw [HDO.out], by rw [HDO.out]; exact O9.out, K9.out⟩
  · -- Clean
    have HDO := Lib.hid (show hdo s o = hclean s from by unfold hdo; rw [if_neg (by omega), if_pos (by omega)])
    obtain ⟨cmd, fa, fu, fr, os⟩ := o
    simp only at h y0 y1 y2 y3 y4 HDO
    subst h
    have HC := Lib.hid fun W (hb : Below w2.heap.size w2 W) => clean_any s ad k W (I2.out.below hb) HR.out H8.out HL.out
    clear HI HOO
    go_wp2_with fail
    with_reducible refine (HC.out _ (Below.refl _ _)).mono ?_
    rintro e w3 ⟨va, vc, rfl, ho, hb⟩
    generalize hclean s = t at *
    clear c0 c1 c2 c3 c4 c5 y0 y1 y2 y3 y4 X2 Y2 HC
    have Z3 := Lib.hid (blk Z2.out hb)
    have K3 := kept_hid K2 hb
    have HG := Lib.hid (show w.heap.size + 2 < w2.heap.size from there_lt Z2.out)
    obtain ⟨z0, z1, z2, z3, z4, z5⟩ := cells6 Z3.out
    obtain ⟨f0, f1, f2, f3, f4, f5⟩ := free6 Z3.out
    have SF := over6 w3 (w.heap.size + 2) _ _ _ _ _ _ _ (.int .i64 t.rows) (.int .i64 t.cols) (.slice va t.cs.length vc) (.int .i64 t.cur) (.bool t.lk) (.bool t.ins) Z3.out
    have Z9 := Lib.hid SF.1
    have O9 := Lib.hid ((OwnCels.away ho SF.2 (own_ne ho HG.out)).mono K2.out.size)
    have K9 := Lib.hid (below_grown K3.out SF.2 (by omega))
    clear SF ho hb
    go_wp2_with fail
    clear z0 z1 z2 z3 z4 z5 f0 f1 f2 f3 f4 f5
    generalize (((((w3.setCell _ _).setCell _ _).setCell _ _).setCell _ _).setCell _ _).setCell _ _ = w9 at *
    exact bodyPost_ret (v := .tuple #[.agg #[.int .i64 t.rows, .int .i64 t.cols, .slice va t.cs.length vc, .int .i64 t.cur, .bool t.lk, .bool t.ins], .nilIface]) (results_cell_row_tmp rfl _ _ _ (w.heap.size + 2) _ rfl (run_loadVar_row _ (w.heap.size + 2) 24 24 _ (0, 0) _ Z9.out Tryz.underlying24 rfl (by kernel_rfl)) .nilIface rfl) rfl ⟨va, vc, by rw [HDO.out], by rw [HDO.out]; exact O9.out, K9.out⟩
  all_goals
    have HDO := Lib.hid (show hdo s o = s from by unfold hdo; rw [if_pos (by omega)])
    obtain ⟨cmd, fa, fu, fr, os⟩ := o
    simp only at h y0 y1 y2 y3 y4 HDO
    subst h
    have HC := Lib.hid fun W (hb : Below w2.heap.size w2 W) => copy_any s ad k W (I2.out.below hb) (by have := HL.out; omega)
    clear HI HOO
    go_wp2_with fail
    with_reducible refine (HC.out _ (Below.refl _ _)).mono ?_
    rintro e w3 ⟨va, vc, rfl, ho, hb⟩
    clear c0 c1 c2 c3 c4 c5 y0 y1 y2 y3 y4 X2 Y2 HC
    have Z3 := Lib.hid (blk Z2.out hb)
    have K3 := kept_hid K2 hb
    have HG := Lib.hid (show w.heap.size + 2 < w2.heap.size from there_lt Z2.out)
    obtain ⟨z0, z1, z2, z3, z4, z5⟩ := cells6 Z3.out
    obtain ⟨f0, f1, f2, f3, f4, f5⟩ := free6 Z3.out
    have SF := over6 w3 (w.heap.size + 2) _ _ _ _ _ _ _ (.int .i64 s.rows) (.int .i64 s.cols) (.slice va s.cs.length vc) (.int .i64 s.cur) (.bool s.lk) (.bool s.ins) Z3.out
    have Z9 := Lib.hid SF.1
    have O9 := Lib.hid ((OwnCels.away ho SF.2 (own_ne ho HG.out)).mono K2.out.size)
    have K9 := Lib.hid (below_grown K3.out SF.2 (by omega))
    clear SF ho hb
    go_wp2_with fail
    clear z0 z1 z2 z3 z4 z5 f0 f1 f2 f3 f4 f5
    generalize (((((w3.setCell _ _).setCell _ _).setCell _ _).setCell _ _).setCell _ _).setCell _ _ = w9 at *
    exact bodyPost_ret (v := .tuple #[.agg #[.int .i64 s.rows, .int .i64 s.cols, .slice va s.cs.length vc, .int .i64 s.cur, .bool s.lk, .bool s.ins], .nilIface]) (results_cell_row_tmp rfl _ _ _ (w.heap.size + 2) _ rfl (run_loadVar_row _ (w.heap.size + 2) 24 24 _ (0, 0) _ Z9.out Tryz.underlying24 rfl (by kernel_rfl)) .nilIface rfl) rfl ⟨va, vc, by rw [HDO.out], by rw [HDO.out]; exact O9.out, K9.out⟩
end Hst
end Go.Proofs.YtaopkelobglnbaaGreatDoor
