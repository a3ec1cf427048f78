/- The law GridRing. -/
import Derived.Test.YtilabepmmebkcaaGrdSpansL
namespace Go.Proofs.Ytilabepmmebkcaa
open Go.RowKit Sha Six Apd Cut Err Att
set_option linter.unusedVariables false
namespace Grd
set_option maxRecDepth 100000 in
set_option maxHeartbeats 8000000 in
theorem ring_any (s : S) (ad : Option Addr) (k : Nat) (a n m : Int) (w : World) (h : CelsIn w (.slice ad s.cs.length k) s.cs) (hwf : Opn.Wf s.cs) (hm : s.cs.length ≤ maxLen) (wa : (Lit.int .u16 a).wf = true) (wn : (Lit.int .i64 n).wf = true) (wm : (Lit.int .i16 m).wf = true) :
    Calls Try.prog 4 #[.agg #[.int .i64 s.rows, .int .i64 s.cols, .slice ad s.cs.length k, .int .i64 s.cur, .bool s.lk, .bool s.ins], .int .u16 a, .int .i64 n, .int .i16 m] w fun e w' => e = .returned (.bool true) ∧ Below w.heap.size w w' := by
  obtain ⟨b0, b1⟩ := Ord.wf_u16 wa
  have bn := bounds_i64 wn
  have bm := bounds_i16 wm
  obtain ⟨a, rfl⟩ := Int.eq_ofNat_of_zero_le b0
  have HAW := Lib.hid fun W => awake_any W
  have HB := Lib.hid (al_any w (.cells #[.int .i64 s.rows, .int .i64 s.cols, .slice ad s.cs.length k, .int .i64 s.cur, .bool s.lk, .bool s.ins] 24))
  have HX := Lib.hid (heap_alloc_new w (.cells #[.int .i64 s.rows, .int .i64 s.cols, .slice ad s.cs.length k, .int .i64 s.cur, .bool s.lk, .bool s.ins] 24))
  have HI := Lib.hid (h.below HB.out)
  have HF := Lib.hid fun W hb => rfew_any s ad k W (HI.out.below hb) (wf_sound hwf)
  clear h hwf hm wa wn wm
  cases hf : few s with
  | false =>
    rw [hf] at HF
    go_enter Try.func4, Try.ntmps4
    go_upto_region 1 with (fail)
    generalize w.alloc _ = w1 at *
    go_wp2_with fail
    with_reducible refine (HAW.out _).mono ?_
    rintro e w2 ⟨rfl, hb⟩
    have K2 := Lib.hid hb
    obtain ⟨c0, c1, c2, c3, c4, c5⟩ := cells6 (blk HX.out hb)
    clear hb
    go_wp2_with fail
    with_reducible refine (HF.out _ K2.out).mono ?_
    rintro e w3 ⟨rfl, hb⟩
    have K3 := kept_hid HB (kept_trans K2.out hb)
    clear hb c0 c1 c2 c3 c4 c5
    go_wp2_with fail
    with_reducible refine (HAW.out _).mono ?_
    rintro e w4 ⟨rfl, hb⟩
    have K4 := kept_hid K3 hb
    clear hb
    go_wp2_with fail
    go_ret
    exact ⟨rfl, K4.out⟩
  | true =>
    rw [hf] at HF
    obtain ⟨q1, q2, _⟩ := few_parts hf
    have HL := Lib.hid q1
    have HP := Lib.hid q2
    have hx : ((a : Int) % (s.cs.length : Int)) = ((a % s.cs.length : Nat) : Int) := by omega
    have HXL := Lib.hid (Nat.mod_lt a q2)
    have hne : ¬ ((s.cs.length : Int) = 0) := by omega
    generalize a % s.cs.length = x at *
    clear hf q1 q2
    go_enter Try.func4, Try.ntmps4
    go_upto_region 1 with (fail)
    generalize w.alloc _ = w1 at *
    go_wp2_with fail
    with_reducible refine (HAW.out _).mono ?_
    rintro e w2 ⟨rfl, hb⟩
    have K2 := Lib.hid hb
    obtain ⟨c0, c1, c2, c3, c4, c5⟩ := cells6 (blk HX.out hb)
    clear hb
    go_wp2_with fail
    with_reducible refine (HF.out _ K2.out).mono ?_
    rintro e w3 ⟨rfl, hb⟩
    have K3 := kept_hid HB (kept_trans K2.out hb)
    have X3 := Lib.hid (blk HX.out (kept_trans K2.out hb))
    clear hb c0 c1 c2 c3 c4 c5
    obtain ⟨c0, c1, c2, c3, c4, c5⟩ := cells6 X3.out
    have HO := Lib.hid fun (u v : Int) (hu : IntKind.i64.wrap u = u) (hv : IntKind.i64.wrap v = v) W => on_any s.rows s.cols ad s.cs.length k s.cur s.lk s.ins u v W (by have := HP.out; omega) (by have := HL.out; omega) hu hv
    have HNX := Lib.hid fun W => rnext_any s.rows s.cols ad s.cs.length k s.cur s.lk s.ins x W HXL.out (by have := HL.out; omega)
    have HWX := Lib.hid (show IntKind.i64.wrap (x : Int) = x from IntWalk.i64_in _ (by have := HXL.out; have := HL.out; omega))
    have HWN := Lib.hid (show IntKind.i64.wrap n = n from IntWalk.i64_in _ (by omega))
    have HWM := Lib.hid (show IntKind.i64.wrap m = m from IntWalk.i64_in _ (by omega))
    have HWM1 := Lib.hid (show IntKind.i64.wrap (m + 1) = m + 1 from IntWalk.i64_in _ (by omega))
    have HWMM := Lib.hid (show IntKind.i64.wrap (-m) = -m from IntWalk.i64_in _ (by omega))
    have HWL := Lib.hid (show IntKind.i64.wrap (s.cs.length : Int) = (s.cs.length : Int) from IntWalk.i64_in _ (by have := HL.out; omega))
    have HON := Lib.hid (fun (u : Nat) => show ∀ v : Int, IntKind.i64.wrap ((on s.cs.length (u : Int) v : Nat) : Int) = ((on s.cs.length (u : Int) v : Nat) : Int) from fun v => IntWalk.i64_in _ (by have := on_lt (z := s.cs.length) (by have := HP.out; omega) (u : Int) v; have := HL.out; omega))
    obtain ⟨bm1, bm2⟩ := bm
    clear bn
    go_wp2_with fail
    with_reducible refine (HO.out _ _ HWX.out HWN.out _).mono ?_
    rintro e w4 ⟨rfl, hb⟩
    have K4 := kept_hid K3 hb
    have X4 := Lib.hid (blk X3.out hb)
    clear hb K3 X3 c0 c1 c2 c3 c4 c5
    have HYL := Lib.hid (on_lt (z := s.cs.length) (by have := HP.out; omega) (x : Int) n)
    generalize on s.cs.length (x : Int) n = y at *
    have hy0 : decide ((y : Int) < 0) = false := by simp
    have hy1 : decide ((s.cs.length : Int) ≤ (y : Int)) = false := by have := HYL.out; simp; omega
    have hy2 : decide (s.cs.length ≤ y) = false := by have := HYL.out; simp; omega
    have hxx : ((x : Int) != (x : Int)) = false := by simp
    have R1 := Lib.hid (HO.out (x : Int) (s.cs.length : Int) HWX.out HWL.out)
    have R2 := Lib.hid (HO.out (x : Int) 0 HWX.out (IntWalk.i64_in _ (by decide)))
    have R3 := Lib.hid (HO.out (x : Int) 1 HWX.out (IntWalk.i64_in _ (by decide)))
    have R4 := Lib.hid (HO.out ((on s.cs.length (x : Int) 1 : Nat) : Int) (-1) (HON.out _ _) (IntWalk.i64_in _ (by decide)))
    rw [on_all HXL.out] at R1
    rw [on_zero HXL.out] at R2
    rw [on_back HXL.out] at R4
    replace R1 := Lib.hid R1.out
    replace R2 := Lib.hid R2.out
    replace R4 := Lib.hid R4.out
    obtain ⟨c0, c1, c2, c3, c4, c5⟩ := cells6 X4.out
    go_wp2_with fail
    clear c0 c1 c2 c3 c4 c5
    first
      | go_region_held3 (fun W' => Below w4.heap.size w4 W' ∧ W'.cell? ⟨w.heap.size, 0, none⟩ = some (.int .i64 s.rows) ∧ W'.cell? ⟨w.heap.size, 1, none⟩ = some (.int .i64 s.cols) ∧ W'.cell? ⟨w.heap.size, 2, none⟩ = some (.slice ad s.cs.length k) ∧ W'.cell? ⟨w.heap.size, 3, none⟩ = some (.int .i64 s.cur) ∧ W'.cell? ⟨w.heap.size, 4, none⟩ = some (.bool s.lk) ∧ W'.cell? ⟨w.heap.size, 5, none⟩ = some (.bool s.ins))
          (first | with_reducible exact below6 X4.out _ (Below.refl _ _).drew | with_reducible exact below6 X4.out _ (Below.refl _ _) | with_reducible exact below6 X4.out _ (And.left (by assumption)) | with_reducible exact below6 X4.out _ (kept_trans (And.left (by assumption)) hb))
          (first
            | (go_at_call 11; with_reducible refine (R1.out _).mono ?_; rintro e w5 ⟨rfl, hb⟩)
            | (go_at_call 11; with_reducible refine (R2.out _).mono ?_; rintro e w6 ⟨rfl, hb⟩)
            | (go_at_call 11; with_reducible refine (R3.out _).mono ?_; rintro e w7 ⟨rfl, hb⟩)
            | (go_at_call 11; with_reducible refine (R4.out _).mono ?_; rintro e w8 ⟨rfl, hb⟩))
      | fail "no"
    have hS := And.left (by assumption : Below w4.heap.size w4 _ ∧ _)
    have K5 := kept_hid K4 hS
    have X5 := Lib.hid (blk X4.out hS)
    clear hS hb K4 X4 R1 R2 R4 hy0 hy1 hy2
    have R5 := Lib.hid (HO.out (x : Int) m HWX.out HWM.out)
    have R6 := Lib.hid (HO.out ((on s.cs.length (x : Int) m : Nat) : Int) 1 (HON.out _ _) (IntWalk.i64_in _ (by decide)))
    have R7 := Lib.hid (HO.out (x : Int) (m + 1) HWX.out HWM1.out)
    have R8 := Lib.hid (HO.out ((on s.cs.length (x : Int) m : Nat) : Int) (-m) (HON.out _ _) HWMM.out)
    rw [on_back HXL.out] at R8
    rw [on_on (by have := HP.out; omega)] at R6
    replace R6 := Lib.hid R6.out
    replace R8 := Lib.hid R8.out
    have hm1 := HWM1.out
    have hmm := HWMM.out
    generalize on s.cs.length (x : Int) m = pp at *
    generalize on s.cs.length (x : Int) (m + 1) = z at *
    generalize on s.cs.length (x : Int) 1 = q1 at *
    clear HO HON
    have hz1 : ((z : Int) == (z : Int)) = true := by simp
    have hz2 : ((q1 : Int) == (q1 : Int)) = true := by simp
    have hz3 : ((x : Int) == (x : Int)) = true := by simp
    obtain ⟨c0, c1, c2, c3, c4, c5⟩ := cells6 X5.out
    go_wp2_with fail
    clear c0 c1 c2 c3 c4 c5
    first
      | go_region_held3 (fun W' => Below w8.heap.size w8 W' ∧ W'.cell? ⟨w.heap.size, 0, none⟩ = some (.int .i64 s.rows) ∧ W'.cell? ⟨w.heap.size, 1, none⟩ = some (.int .i64 s.cols) ∧ W'.cell? ⟨w.heap.size, 2, none⟩ = some (.slice ad s.cs.length k) ∧ W'.cell? ⟨w.heap.size, 3, none⟩ = some (.int .i64 s.cur) ∧ W'.cell? ⟨w.heap.size, 4, none⟩ = some (.bool s.lk) ∧ W'.cell? ⟨w.heap.size, 5, none⟩ = some (.bool s.ins))
          (first | with_reducible exact below6 X5.out _ (Below.refl _ _).drew | with_reducible exact below6 X5.out _ (Below.refl _ _) | with_reducible exact below6 X5.out _ (And.left (by assumption)) | with_reducible exact below6 X5.out _ (kept_trans (And.left (by assumption)) hb))
          (first
            | (go_at_call 11; with_reducible refine (R5.out _).mono ?_; rintro e wa ⟨rfl, hb⟩)
            | (go_at_call 11; with_reducible refine (R6.out _).mono ?_; rintro e wb ⟨rfl, hb⟩))
      | fail "no"
    have hS := And.left (by assumption : Below w8.heap.size w8 wb ∧ _)
    have K6 := kept_hid K5 hS
    have X6 := Lib.hid (blk X5.out hS)
    clear hS hb K5 X5
    go_wp2_with fail
    first
      | go_region_held3 (fun W' => Below wb.heap.size wb W' ∧ W'.cell? ⟨w.heap.size, 0, none⟩ = some (.int .i64 s.rows) ∧ W'.cell? ⟨w.heap.size, 1, none⟩ = some (.int .i64 s.cols) ∧ W'.cell? ⟨w.heap.size, 2, none⟩ = some (.slice ad s.cs.length k) ∧ W'.cell? ⟨w.heap.size, 3, none⟩ = some (.int .i64 s.cur) ∧ W'.cell? ⟨w.heap.size, 4, none⟩ = some (.bool s.lk) ∧ W'.cell? ⟨w.heap.size, 5, none⟩ = some (.bool s.ins))
          (first | with_reducible exact below6 X6.out _ (Below.refl _ _).drew | with_reducible exact below6 X6.out _ (Below.refl _ _) | with_reducible exact below6 X6.out _ (And.left (by assumption)) | with_reducible exact below6 X6.out _ (kept_trans (And.left (by assumption)) hb))
          (first
            | (go_at_call 11; with_reducible refine (R7.out _).mono ?_; rintro e wd ⟨rfl, hb⟩)
            | (go_at_call 11; with_reducible refine (R3.out _).mono ?_; rintro e we ⟨rfl, hb⟩)
            | (go_at_call 12; with_reducible refine (HNX.out _).mono ?_; rintro e wf ⟨rfl, hb⟩)
            | (go_at_call 11; with_reducible refine (R5.out _).mono ?_; rintro e wg ⟨rfl, hb⟩)
            | (go_at_call 11; with_reducible refine (R8.out _).mono ?_; rintro e wh ⟨rfl, hb⟩))
      | fail "no"
    have hS := And.left (by assumption : Below wb.heap.size wb wh ∧ _)
    have K7 := kept_hid K6 hS
    clear hS hb K6 X6
    go_wp2_with fail
    go_ret
    exact ⟨rfl, K7.out⟩
end Grd
end Go.Proofs.Ytilabepmmebkcaa
