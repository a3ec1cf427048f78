/- onward of package edit; the search for the first cell without a character. -/
import Derived.Test.YtaopkelobglnbaaDoorEdtLow
namespace Go.Proofs.YtaopkelobglnbaaDoor
open Go.RowKit Sha Six Apd Cut Err Att Grd Fld Scr
set_option linter.unusedVariables false
namespace Edt
set_option maxRecDepth 100000 in
set_option maxHeartbeats 8000000 in
theorem onward_any (s : S) (ad : Option Addr) (k a : Nat) (w : World) (h : CelsIn w (.slice ad s.cs.length k) s.cs) (h8 : Sound s.cs) (hl : s.cs.length < 10000) (ha : a < s.cs.length) :
    Calls Tryd.prog 57 #[.agg #[.int .i64 s.rows, .int .i64 s.cols, .slice ad s.cs.length k, .int .i64 s.cur, .bool s.lk, .bool s.ins], .int .i64 (a : Int)] w fun e w' => e = .returned (.int .i64 ((goes s.cs a : Nat) : Int)) ∧ Below w.heap.size w w' := by
  have HB := Lib.hid (al_any w (.cells #[.int .i64 s.rows, .int .i64 s.cols, .slice ad s.cs.length k, .int .i64 s.cur, .bool s.lk, .bool s.ins] 24))
  have HX := Lib.hid (heap_alloc_new w (.cells #[.int .i64 s.rows, .int .i64 s.cols, .slice ad s.cs.length k, .int .i64 s.cur, .bool s.lk, .bool s.ins] 24))
  have HI := Lib.hid (h.below HB.out)
  have HP := Lib.hid (show 0 < s.cs.length by omega)
  have HL := Lib.hid hl
  have HO := Lib.hid fun (x : Nat) (hx : x < s.cs.length) W => on_any s.rows s.cols ad s.cs.length k s.cur s.lk s.ins (x : Int) 1 W HP.out (by have := HL.out; omega) (by have := HL.out; rw [IntKind.wrap_i64]; omega) (by decide)
  have HT := Lib.hid (on_lt HP.out (a : Int) 1)
  have HN := Lib.hid fun W hb => fnext_any s ad k (on s.cs.length (a : Int) 1) W (HI.out.below hb) h8 HP.out hl HT.out
  have HA := Lib.hid ha
  have HE := Lib.hid (show goes s.cs a = (if (s.cs.getD (on s.cs.length (a : Int) 1) noC).f then (if ((s.cs.getD (on s.cs.length (a : Int) 1) noC).p && (s.cs.getD (on s.cs.length (a : Int) 1) noC).n) && decide (0 ≤ next s.cs (on s.cs.length (a : Int) 1)) then (next s.cs (on s.cs.length (a : Int) 1)).toNat else on s.cs.length ((on s.cs.length (a : Int) 1 : Nat) : Int) 1) else on s.cs.length (a : Int) 1) from rfl)
  clear h h8 hl ha
  generalize goes s.cs a = res at *
  go_enter Tryd.func57, Tryd.ntmps57
  go_upto_region 1 with (fail)
  generalize w.alloc _ = w1 at *
  obtain ⟨c0, c1, c2, c3, c4, c5⟩ := cells6 HX.out
  go_wp2_with fail
  with_reducible refine (HO.out a HA.out _).mono ?_
  rintro e w2 ⟨rfl, hb⟩
  have K2 := kept_hid HB hb
  have HN2 := Lib.hid fun W hb2 => HN.out W (kept_trans hb hb2)
  have X2 := Lib.hid (blk HX.out hb)
  have I2 := Lib.hid (HI.out.below hb)
  clear hb c0 c1 c2 c3 c4 c5 HN HX HI HB
  generalize on s.cs.length (a : Int) 1 = t at *
  obtain ⟨xf, xp, xn, xs, xm, xc, ex⟩ := c_eta (s.cs.getD t noC)
  rw [ex] at HE
  obtain ⟨b1, o1, rfl, g0, g1, g2, g3, g4, g5⟩ := I2.out.cells HT.out ex
  have g2' : w2.cell? ⟨b1, o1 + t * 6 + 1 + 1, none⟩ = some (.bool xn) := g2
  have g3' : w2.cell? ⟨b1, o1 + t * 6 + 1 + 2, none⟩ = some (.int .i64 xs) := g3
  have g4' : w2.cell? ⟨b1, o1 + t * 6 + 1 + 3, none⟩ = some (.bool xm) := g4
  have hi0 : (0 : Int) ≤ (t : Int) := by omega
  have hi1 : (t : Int) < (s.cs.length : Int) := by have := HT.out; omega
  have HAL := al_any w2 (.cells #[.bool xf, .bool xp, .bool xn, .int .i64 xs, .bool xm, .int .u8 (xc : Int)] 35)
  have K3 := kept_hid K2 HAL
  have X3 := Lib.hid (blk X2.out HAL)
  have Y3 := Lib.hid (heap_alloc_new w2 (.cells #[.bool xf, .bool xp, .bool xn, .int .i64 xs, .bool xm, .int .u8 (xc : Int)] 35))
  have HN3 := Lib.hid fun W hb2 => HN2.out W (kept_trans HAL hb2)
  obtain ⟨c0, c1, c2, c3, c4, c5⟩ := cells6 X2.out
  clear HAL ex
  go_upto_region 3 with (fail)
  clear c0 c1 c2 c3 c4 c5 g0 g1 g2 g3 g4 g5 g2' g3' g4' I2 K2 X2 HN2
  generalize w2.alloc _ = w3 at *
  generalize w2.heap.size = Y at *
  obtain ⟨y0, y1, y2, y3, y4, y5⟩ := cells6 Y3.out
  obtain ⟨c0, c1, c2, c3, c4, c5⟩ := cells6 X3.out
  cases xf with
  | false =>
    go_wp2_with fail
    go_ret
    exact ⟨by rw [HE.out]; rfl, K3.out⟩
  | true =>
    have HO2 := Lib.hid (HO.out t HT.out)
    cases hpn : (xp && xn) with
    | false =>
      simp only [hpn, Bool.false_and, if_true, Bool.false_eq_true, if_false] at HE
      have hgo : (xp = true ∧ xn = false) ∨ xp = false := by cases xp <;> cases xn <;> simp_all
      clear hpn
      rcases hgo with ⟨rfl, rfl⟩ | rfl
      all_goals
        go_wp2_with fail
        with_reducible refine (HO2.out _).mono ?_
        rintro e w4 ⟨rfl, hb⟩
        have K4 := kept_hid K3 hb
        clear hb c0 c1 c2 c3 c4 c5
        go_wp2_with fail
        go_ret
        exact ⟨by rw [HE.out]; rfl, K4.out⟩
    | true =>
      simp only [hpn, Bool.true_and, if_true] at HE
      obtain ⟨rfl, rfl⟩ : xp = true ∧ xn = true := by cases xp <;> cases xn <;> simp_all
      clear hpn
      have HB3 := HN3.out w3 (Below.refl _ _)
      go_wp2_with fail
      with_reducible refine HB3.mono ?_
      rintro e w4 ⟨rfl, hb⟩
      have K4 := kept_hid K3 hb
      have X4 := Lib.hid (blk X3.out hb)
      clear hb c0 c1 c2 c3 c4 c5 HN3 y0 y1 y2 y3 y4 y5
      by_cases hn0 : 0 ≤ next s.cs t
      · rw [decide_eq_true hn0, if_pos rfl] at HE
        obtain ⟨nx, hnx⟩ : ∃ nx : Nat, next s.cs t = (nx : Int) := ⟨(next s.cs t).toNat, by omega⟩
        rw [hnx] at HE ⊢
        clear hnx hn0
        have h0 : (0 : Int) ≤ (nx : Int) := by omega
        go_wp2_with fail
        go_ret
        exact ⟨by rw [HE.out]; rfl, K4.out⟩
      · rw [decide_eq_false hn0, if_neg (by decide)] at HE
        have hd : decide (0 ≤ next s.cs t) = false := decide_eq_false hn0
        generalize next s.cs t = nx at *
        clear hn0
        obtain ⟨c0, c1, c2, c3, c4, c5⟩ := cells6 X4.out
        go_wp2_with fail
        with_reducible refine (HO2.out _).mono ?_
        rintro e w5 ⟨rfl, hb⟩
        have K5 := kept_hid K4 hb
        clear hb c0 c1 c2 c3 c4 c5
        go_wp2_with fail
        go_ret
        exact ⟨by rw [HE.out]; rfl, K5.out⟩
/-- The closure of Type: a cell without a character. -/
theorem empty_any (s : S) (ad : Option Addr) (k a X : Nat) (w : World) (h : CelsIn w (.slice ad s.cs.length k) s.cs) (hX : w.heap[X]? = some (.cells #[.int .i64 s.rows, .int .i64 s.cols, .slice ad s.cs.length k, .int .i64 s.cur, .bool s.lk, .bool s.ins] 24 (0, 0))) (ha : a < s.cs.length) :
    Calls Tryd.prog 42 #[.int .i64 (a : Int), .pointer (some ⟨X, 0, none⟩)] w fun e w' => e = .returned (.bool ((s.cs.getD a noC).c == 0)) ∧ w = w' := by
  obtain ⟨c0, c1, c2, c3, c4, c5⟩ := cells6 hX
  obtain ⟨xf, xp, xn, xs, xm, xc, ex⟩ := c_eta (s.cs.getD a noC)
  obtain ⟨b1, o1, rfl, g0, g1, g2, g3, g4, g5⟩ := h.cells ha ex
  have hi0 : (0 : Int) ≤ (a : Int) := by omega
  have hi1 : (a : Int) < (s.cs.length : Int) := by omega
  rw [ex]
  have e0 : ((xc : Int) == 0) = (xc == 0) := by rw [Bool.eq_iff_iff]; simp
  clear ex h hX ha
  go_enter Tryd.func42, Tryd.ntmps42
  go_wp2_with fail
  go_ret
  exact ⟨rfl, rfl⟩
set_option maxRecDepth 100000 in
set_option maxHeartbeats 8000000 in
theorem indexF_any (s : S) (ad : Option Addr) (k X : Nat) (v : Value) (xs : List Nat) (w : World) (h : CelsIn w (.slice ad s.cs.length k) s.cs) (hX : w.heap[X]? = some (.cells #[.int .i64 s.rows, .int .i64 s.cols, .slice ad s.cs.length k, .int .i64 s.cur, .bool s.lk, .bool s.ins] 24 (0, 0))) (hv : IntsIn w v xs) (hx : ∀ x ∈ xs, x < s.cs.length) (hl : xs.length < 100000000) :
    Calls Tryd.prog 41 #[v, .func (.func 42) #[] #[.pointer (some ⟨X, 0, none⟩)]] w fun e w' => (∃ j : Int, e = .returned (.int .i64 j) ∧ ((∃ q : Nat, free s.cs xs = some q ∧ j = q) ∨ (free s.cs xs = none ∧ j = -1))) ∧ w = w' := by
  have H1 := Lib.hid hv
  have HL := Lib.hid hl
  have HXX := Lib.hid hx
  have HE := Lib.hid fun a (ha : a < s.cs.length) => empty_any s ad k a X w h hX ha
  obtain ⟨a1, k1, rfl⟩ := hv.form
  clear h hX hv hx hl
  go_enter Tryd.func41, Tryd.ntmps41
  go_wp2_with fail
  go_loopg [8] (xs.length + 1) (fun m i wr => ∃ q : Nat, q ≤ xs.length ∧ m = xs.length + 1 - q ∧ i = .int .i64 q ∧ Hid (∀ i, i < q → (s.cs.getD (xs.getD i 0) noC).c ≠ 0) ∧ w = wr)
  case atStart => exact ⟨0, Nat.zero_le _, rfl, rfl, Lib.hid (fun i hi => absurd hi (Nat.not_lt_zero _)), rfl⟩
  case round =>
    obtain ⟨q, hq, rfl, rfl, HN, rfl⟩ := hrel
    have ew : IntKind.i64.wrap ((q : Int) + 1) = (q : Int) + 1 := by
      have := HL.out
      rw [IntWalk.i64_in] <;> omega
    by_cases hlt : q < xs.length
    · obtain ⟨g1, o1, rfl, d1⟩ := H1.out.cell hlt
      have hxl : xs.getD q 0 < s.cs.length := HXX.out _ (by rw [List.getD_eq_getElem?_getD, List.getElem?_eq_getElem hlt]; exact List.getElem_mem hlt)
      have HC := Lib.hid (HE.out _ hxl)
      have hi0 : (0 : Int) ≤ (q : Int) := by omega
      have hi1 : (q : Int) < (xs.length : Int) := by omega
      have HQ := Lib.hid hlt
      cases hz : ((s.cs.getD (xs.getD q 0) noC).c == 0) with
      | true =>
        have HF := Lib.hid (show free s.cs xs = some q from firstK_is (Nat.zero_le _) (by omega) hz (fun i _ hi => by have := HN.out i hi; simpa using this))
        rw [hz] at HC
        generalize xs.getD q 0 = x at *
        clear hz hlt hxl
        go_wp2_with fail
        with_reducible refine HC.out.mono ?_
        rintro e wx ⟨rfl, rfl⟩
        go_wp2_with fail
        go_ret
        exact ⟨⟨(q : Int), rfl, .inl ⟨q, HF.out, rfl⟩⟩, rfl⟩
      | false =>
        have HN' := Lib.hid (show ∀ i, i < q + 1 → (s.cs.getD (xs.getD i 0) noC).c ≠ 0 from fun i hi => by
          rcases Nat.lt_succ_iff_lt_or_eq.1 hi with h | rfl
          · exact HN.out i h
          · simpa using hz)
        rw [hz] at HC
        generalize xs.getD q 0 = x at *
        clear hz hlt hxl
        go_wp2_with fail
        with_reducible refine HC.out.mono ?_
        rintro e wx ⟨rfl, rfl⟩
        go_wp2_with fail
        go_roundg (xs.length + 1 - (q + 1))
        case measure => omega
        case rel => exact ⟨q + 1, HQ.out, rfl, by first | rfl | go_num, HN', rfl⟩
    · have hn0 : ¬ (q : Int) < (xs.length : Int) := by omega
      have HF := Lib.hid (show free s.cs xs = none from firstK_no (fun i _ hi => by have := HN.out i (by omega); simpa using this))
      clear hlt
      go_wp2_with fail
      go_ret
      exact ⟨⟨-1, rfl, .inr ⟨HF.out, rfl⟩⟩, rfl⟩
end Edt
end Go.Proofs.YtaopkelobglnbaaDoor
