/- The document's Of, Open, first of layer 11. -/
import Derived.Test.YtoacookbfpcncaaFldRef
import Derived.Laws.ResultCell
namespace Go.Proofs.Ytoacookbfpcncaa
open Go.RowKit Sha Six Apd Cut Err Att Grd
set_option linter.unusedVariables false
namespace Fld
theorem over4g (a : World) (B : Nat) (t : TypeId) (a0 a1 a2 a3 u0 u1 u2 u3 : Value) (h : a.heap[B]? = some (.cells #[a0, a1, a2, a3] t (0, 0))) :
    ((((a.setCell ⟨B, 0, none⟩ u0).setCell ⟨B, 1, none⟩ u1).setCell ⟨B, 2, none⟩ u2).setCell ⟨B, 3, none⟩ u3).heap[B]? = some (.cells #[u0, u1, u2, u3] t (0, 0)) ∧
    a.grownBy ((((a.setCell ⟨B, 0, none⟩ u0).setCell ⟨B, 1, none⟩ u1).setCell ⟨B, 2, none⟩ u2).setCell ⟨B, 3, none⟩ u3) (some B) :=
  ⟨(over4 a B t a0 a1 a2 a3 u0 u1 u2 u3 h).1, gtrans (gsetCell a B 0 u0) (gtrans (gsetCell _ B 1 u1) (gtrans (gsetCell _ B 2 u2) (gsetCell _ B 3 u3)))⟩
set_option maxRecDepth 100000 in
set_option maxHeartbeats 8000000 in
theorem rof_any (s : S) (ad : Option Addr) (k : Nat) (a : Nat) (w : World) (h : CelsIn w (.slice ad s.cs.length k) s.cs) (hz : 0 < s.cs.length) (hl : s.cs.length < 100000000) (ha : a < s.cs.length) :
    Calls Try.prog 19 #[.agg #[.int .i64 s.rows, .int .i64 s.cols, .slice ad s.cs.length k, .int .i64 s.cur, .bool s.lk, .bool s.ins], .int .i64 (a : Int)] w fun e w' => e = .returned (.agg #[.bool (attrOf s.cs a).p, .bool (attrOf s.cs a).n, .int .i64 (attrOf s.cs a).s, .bool (attrOf s.cs a).m]) ∧ Below w.heap.size w w' := by
  have HB := Lib.hid (kept_trans (al_any w (.cells #[.int .i64 s.rows, .int .i64 s.cols, .slice ad s.cs.length k, .int .i64 s.cur, .bool s.lk, .bool s.ins] 24)) (al_any _ (.cells #[.bool false, .bool false, .int .i64 0, .bool false] 33)))
  have HX := Lib.hid (heap_alloc2_old w (.cells #[.int .i64 s.rows, .int .i64 s.cols, .slice ad s.cs.length k, .int .i64 s.cur, .bool s.lk, .bool s.ins] 24) (.cells #[.bool false, .bool false, .int .i64 0, .bool false] 33))
  have HY := Lib.hid (heap_alloc2_new w (.cells #[.int .i64 s.rows, .int .i64 s.cols, .slice ad s.cs.length k, .int .i64 s.cur, .bool s.lk, .bool s.ins] 24) (.cells #[.bool false, .bool false, .int .i64 0, .bool false] 33))
  have HI := Lib.hid (h.below HB.out)
  have HP := Lib.hid fun W hb => rbegin_any s ad k a W (HI.out.below hb) hz hl ha
  have HA := Lib.hid ha
  clear h hz hl ha
  go_enter Try.func19, Try.ntmps19
  go_upto_region 1 with (fail)
  generalize (w.alloc _).alloc _ = w1 at *
  obtain ⟨c0, c1, c2, c3, c4, c5⟩ := cells6 HX.out
  go_wp2_with fail
  with_reducible refine (HP.out _ (Below.refl _ _)).mono ?_
  rintro e w2 ⟨rfl, hb⟩
  have K2 := kept_hid HB hb
  have X2 := Lib.hid (blk HX.out hb)
  have Y2 := Lib.hid (blk HY.out hb)
  have I2 := Lib.hid (HI.out.below hb)
  clear hb c0 c1 c2 c3 c4 c5 HB HX HY HI HP
  cases hf : fmt s.cs with
  | false =>
    rw [begin_none HA.out hf]
    have HE := Lib.hid (show attrOf s.cs a = noC by unfold attrOf; rw [begin_none HA.out hf]; rfl)
    obtain ⟨d0, d1, d2, d3⟩ := cells4 Y2.out
    obtain ⟨f0, f1, f2, f3⟩ := free4 Y2.out
    have SF := Lib.hid (over4g w2 (w.heap.size + 1) _ _ _ _ _ (.bool false) (.bool false) (.int .i64 0) (.bool false) Y2.out)
    clear hf
    go_wp2_with fail
    clear d0 d1 d2 d3 f0 f1 f2 f3
    generalize (((w2.setCell _ _).setCell _ _).setCell _ _).setCell _ _ = w4 at *
    refine bodyPost_ret (v := .agg #[.bool false, .bool false, .int .i64 0, .bool false]) (results_cell_row rfl _ _ (w.heap.size + 1) 33 _ (0, 0) _ rfl SF.out.1 Try.underlying33 rfl (by kernel_rfl)) rfl ?_
    exact ⟨by rw [HE.out]; rfl, below_grown K2.out SF.out.2 (by omega)⟩
  | true =>
    obtain ⟨kk, b, _, hbk, hbe, hbl, _, _⟩ := begin_some HA.out hf
    clear hbk
    rw [hbe]
    obtain ⟨xf, xp, xn, xs, xm, xc, ex⟩ := c_eta (s.cs.getD b noC)
    have HE := Lib.hid (show attrOf s.cs a = ⟨xf, xp, xn, xs, xm, xc⟩ by unfold attrOf; rw [hbe, if_neg (by omega), Int.toNat_natCast, ex])
    obtain ⟨b1, o1, rfl, g0, g1, g2, g3, g4, g5⟩ := I2.out.cells hbl ex
    have g2' : w2.cell? ⟨b1, o1 + b * 6 + 1 + 1, none⟩ = some (.bool xn) := g2
    have g3' : w2.cell? ⟨b1, o1 + b * 6 + 1 + 2, none⟩ = some (.int .i64 xs) := g3
    have g4' : w2.cell? ⟨b1, o1 + b * 6 + 1 + 3, none⟩ = some (.bool xm) := g4
    have hi0 : (0 : Int) ≤ (b : Int) := by omega
    have hi1 : (b : Int) < (s.cs.length : Int) := by omega
    have hi2 : ¬ (b : Int) < 0 := by omega
    obtain ⟨c0, c1, c2, c3, c4, c5⟩ := cells6 X2.out
    obtain ⟨d0, d1, d2, d3⟩ := cells4 Y2.out
    obtain ⟨f0, f1, f2, f3⟩ := free4 Y2.out
    have SF := Lib.hid (over4g w2 (w.heap.size + 1) _ _ _ _ _ (.bool xp) (.bool xn) (.int .i64 xs) (.bool xm) Y2.out)
    clear hf hbe ex
    go_wp2_with fail
    clear c0 c1 c2 c3 c4 c5 d0 d1 d2 d3 f0 f1 f2 f3 g0 g1 g2 g3 g4 g5 g2' g3' g4'
    generalize (((w2.setCell _ _).setCell _ _).setCell _ _).setCell _ _ = w4 at *
    refine bodyPost_ret (v := .agg #[.bool xp, .bool xn, .int .i64 xs, .bool xm]) (results_cell_row rfl _ _ (w.heap.size + 1) 33 _ (0, 0) _ rfl SF.out.1 Try.underlying33 rfl (by kernel_rfl)) rfl ?_
    exact ⟨by rw [HE.out], below_grown K2.out SF.out.2 (by omega)⟩
theorem run_prot (p n : Bool) (s : Int) (m : Bool) (w : World) : (Instr.field 33 (.agg #[.bool p, .bool n, .int .i64 s, .bool m]) 0).run Try.prog w = .ok (.bool p) w := by kernel_rfl
set_option maxRecDepth 100000 in
set_option maxHeartbeats 8000000 in
theorem ropen_any (s : S) (ad : Option Addr) (k : Nat) (a : Nat) (w : World) (h : CelsIn w (.slice ad s.cs.length k) s.cs) (hz : 0 < s.cs.length) (hl : s.cs.length < 100000000) (ha : a < s.cs.length) :
    Calls Try.prog 21 #[.agg #[.int .i64 s.rows, .int .i64 s.cols, .slice ad s.cs.length k, .int .i64 s.cur, .bool s.lk, .bool s.ins], .int .i64 (a : Int)] w fun e w' => e = .returned (.bool (open_ s.cs a)) ∧ Below w.heap.size w w' := by
  have HB := Lib.hid (al_any w (.cells #[.int .i64 s.rows, .int .i64 s.cols, .slice ad s.cs.length k, .int .i64 s.cur, .bool s.lk, .bool s.ins] 24))
  have HX := Lib.hid (heap_alloc_new w (.cells #[.int .i64 s.rows, .int .i64 s.cols, .slice ad s.cs.length k, .int .i64 s.cur, .bool s.lk, .bool s.ins] 24))
  have HI := Lib.hid (h.below HB.out)
  have HZ := Lib.hid hz
  have HL := Lib.hid hl
  have HA := Lib.hid ha
  have HP := Lib.hid fun W hb => rof_any s ad k a W (HI.out.below hb) hz hl ha
  clear h hz hl ha
  obtain ⟨xf, xp, xn, xs, xm, xc, ex⟩ := c_eta (s.cs.getD a noC)
  obtain ⟨b1, o1, rfl, g0, g1, g2, g3, g4, g5⟩ := HI.out.cells HA.out ex
  have hi0 : (0 : Int) ≤ (a : Int) := by omega
  have hi1 : (a : Int) < (s.cs.length : Int) := by have := HA.out; omega
  have HE := Lib.hid (show open_ s.cs a = (!xf && !(attrOf s.cs a).p) by unfold open_; rw [fat_of ex])
  clear ex
  generalize open_ s.cs a = res at *
  generalize attrOf s.cs a = at_ at *
  obtain ⟨tf, tp, tn, ts, tm, tc⟩ := at_
  simp only at HP HE
  have hfld := run_prot tp tn ts tm
  cases xf with
  | true =>
    go_enter Try.func21, Try.ntmps21
    go_upto_region 1 with (fail)
    generalize w.alloc _ = w1 at *
    obtain ⟨c0, c1, c2, c3, c4, c5⟩ := cells6 HX.out
    go_wp2_with fail
    go_ret
    exact ⟨by rw [HE.out]; rfl, HB.out⟩
  | false =>
    go_enter Try.func21, Try.ntmps21
    go_upto_region 1 with (fail)
    generalize w.alloc _ = w1 at *
    obtain ⟨c0, c1, c2, c3, c4, c5⟩ := cells6 HX.out
    go_wp2_with fail
    with_reducible refine (HP.out _ (Below.refl _ _)).mono ?_
    rintro e w2 ⟨rfl, hb⟩
    have K2 := kept_hid HB hb
    clear hb
    go_wp2_with fail
    go_ret
    exact ⟨by rw [HE.out]; rfl, K2.out⟩
/-- What first answers. -/
def firstv (cs : List C) (i : Nat) : Int := if opener cs i then ((on cs.length i 1 : Nat) : Int) else -1
theorem opener_of {cs : List C} {i : Nat} {f p n : Bool} {s : Int} {m : Bool} {c : Nat} (h : cs.getD i noC = ⟨f, p, n, s, m, c⟩) {f' p' n' : Bool} {s' : Int} {m' : Bool} {c' : Nat} (h' : cs.getD (on cs.length i 1) noC = ⟨f', p', n', s', m', c'⟩) : opener cs i = (f && (!p && !f')) := by
  unfold opener prot; rw [fat_of h, fat_of h', h]
set_option maxRecDepth 100000 in
set_option maxHeartbeats 8000000 in
theorem rfirst_any (s : S) (ad : Option Addr) (k : Nat) (a : Nat) (w : World) (h : CelsIn w (.slice ad s.cs.length k) s.cs) (hz : 0 < s.cs.length) (hl : s.cs.length < 100000000) (ha : a < s.cs.length) :
    Calls Try.prog 34 #[.agg #[.int .i64 s.rows, .int .i64 s.cols, .slice ad s.cs.length k, .int .i64 s.cur, .bool s.lk, .bool s.ins], .int .i64 (a : Int)] w fun e w' => e = .returned (.int .i64 (firstv s.cs a)) ∧ Below w.heap.size w w' := by
  have HB := Lib.hid (al_any w (.cells #[.int .i64 s.rows, .int .i64 s.cols, .slice ad s.cs.length k, .int .i64 s.cur, .bool s.lk, .bool s.ins] 24))
  have HX := Lib.hid (heap_alloc_new w (.cells #[.int .i64 s.rows, .int .i64 s.cols, .slice ad s.cs.length k, .int .i64 s.cur, .bool s.lk, .bool s.ins] 24))
  have HI := Lib.hid (h.below HB.out)
  have HZ := Lib.hid hz
  have HL := Lib.hid hl
  have HA := Lib.hid ha
  clear h hz hl ha
  obtain ⟨xf, xp, xn, xs, xm, xc, ex⟩ := c_eta (s.cs.getD a noC)
  obtain ⟨b1, o1, rfl, g0, g1, g2, g3, g4, g5⟩ := HI.out.cells HA.out ex
  have HIX := Lib.hid (on_lt HZ.out (a : Int) 1)
  obtain ⟨yf, yp, yn, ys, ym, yc, ey⟩ := c_eta (s.cs.getD (on s.cs.length a 1) noC)
  obtain ⟨b2, o2, hbo, p0, p1, p2, p3, p4, p5⟩ := HI.out.cells HIX.out ey
  injection hbo with hbo
  injection hbo with hb1 hb2
  subst hb1
  subst hb2
  have HE := Lib.hid (show firstv s.cs a = if (xf && (!xp && !yf)) then ((on s.cs.length a 1 : Nat) : Int) else -1 by unfold firstv; rw [opener_of ex ey])
  have HM := Lib.hid fun W => rmod_any ((a : Int) + 1) s.cs.length (on s.cs.length a 1) W HZ.out HL.out (by have := HL.out; have := HA.out; omega) (by rw [on_cast HZ.out])
  have hi0 : (0 : Int) ≤ (a : Int) := by omega
  have hi1 : (a : Int) < (s.cs.length : Int) := by have := HA.out; omega
  have hlb : (s.cs.length : Int) < 100000000 := by have := HL.out; omega
  clear ex ey
  generalize firstv s.cs a = res at *
  generalize on s.cs.length (a : Int) 1 = ix at *
  have hj0 : (0 : Int) ≤ (ix : Int) := by omega
  have hj1 : (ix : Int) < (s.cs.length : Int) := by have := HIX.out; omega
  cases xf <;> cases xp <;> cases yf
  all_goals
    go_enter Try.func34, Try.ntmps34
    go_upto_region 1 with (fail)
    generalize w.alloc _ = w1 at *
    obtain ⟨c0, c1, c2, c3, c4, c5⟩ := cells6 HX.out
    go_wp2_with fail
    with_reducible refine (HM.out _).mono ?_
    rintro e w2 ⟨rfl, rfl⟩
    go_wp2_with fail
    go_ret
    exact ⟨by rw [HE.out]; rfl, HB.out⟩
end Fld
end Go.Proofs.Ytoacookbfpcncaa
