/- The law GridSpans. -/
import Derived.Test.YtilabepmmebkcaaGrdAwake
import Derived.Test.YtilabepmmebkcaaGrdFew
import Derived.Test.YtilabepmmebkcaaOpnScr
namespace Go.Proofs.Ytilabepmmebkcaa
open Go.RowKit Sha Six Apd Cut Err Att
set_option linter.unusedVariables false
namespace Grd
theorem wf_sound {cs : List C} (h : Opn.Wf cs) : Sound cs := fun o ho => (h o ho).1
set_option maxRecDepth 100000 in
set_option maxHeartbeats 8000000 in
theorem spans_any (s : S) (ad : Option Addr) (k : Nat) (a b : Int) (w : World) (h : CelsIn w (.slice ad s.cs.length k) s.cs) (hwf : Opn.Wf s.cs) (hm : s.cs.length ≤ maxLen) (wa : (Lit.int .u16 a).wf = true) (wb : (Lit.int .u16 b).wf = true) :
    Calls Try.prog 3 #[.agg #[.int .i64 s.rows, .int .i64 s.cols, .slice ad s.cs.length k, .int .i64 s.cur, .bool s.lk, .bool s.ins], .int .u16 a, .int .u16 b] w fun e w' => e = .returned (.bool true) ∧ Below w.heap.size w w' := by
  obtain ⟨b0, b1⟩ := Ord.wf_u16 wa
  obtain ⟨b2, b3⟩ := Ord.wf_u16 wb
  obtain ⟨a, rfl⟩ := Int.eq_ofNat_of_zero_le b0
  obtain ⟨b, rfl⟩ := Int.eq_ofNat_of_zero_le b2
  have HAW := Lib.hid fun W => awake_any W
  have HB := Lib.hid (al_any w (.cells #[.int .i64 s.rows, .int .i64 s.cols, .slice ad s.cs.length k, .int .i64 s.cur, .bool s.lk, .bool s.ins] 24))
  have HX := Lib.hid (heap_alloc_new w (.cells #[.int .i64 s.rows, .int .i64 s.cols, .slice ad s.cs.length k, .int .i64 s.cur, .bool s.lk, .bool s.ins] 24))
  have HI := Lib.hid (h.below HB.out)
  have HF := Lib.hid fun W hb => rfew_any s ad k W (HI.out.below hb) (wf_sound hwf)
  clear h hwf hm wa wb
  cases hf : few s with
  | false =>
    rw [hf] at HF
    go_enter Try.func3, Try.ntmps3
    go_upto_region 1 with (fail)
    generalize w.alloc _ = w1 at *
    go_wp2_with fail
    with_reducible refine (HAW.out _).mono ?_
    rintro e w2 ⟨rfl, hb⟩
    have K2 := Lib.hid hb
    obtain ⟨c0, c1, c2, c3, c4, c5⟩ := cells6 (blk HX.out hb)
    clear hb
    go_wp2_with fail
    with_reducible refine (HF.out _ K2.out).mono ?_
    rintro e w3 ⟨rfl, hb⟩
    have K3 := kept_hid HB (kept_trans K2.out hb)
    clear hb c0 c1 c2 c3 c4 c5
    go_wp2_with fail
    with_reducible refine (HAW.out _).mono ?_
    rintro e w4 ⟨rfl, hb⟩
    have K4 := kept_hid K3 hb
    clear hb
    go_wp2_with fail
    go_ret
    exact ⟨rfl, K4.out⟩
  | true =>
    rw [hf] at HF
    obtain ⟨q1, q2, _⟩ := few_parts hf
    have HL := Lib.hid q1
    have HP := Lib.hid q2
    have hx : ((a : Int) % (s.cs.length : Int)) = ((a % s.cs.length : Nat) : Int) := by omega
    have hy : ((b : Int) % (s.cs.length : Int)) = ((b % s.cs.length : Nat) : Int) := by omega
    have HXL := Lib.hid (Nat.mod_lt a q2)
    have HYL := Lib.hid (Nat.mod_lt b q2)
    have hne : ¬ ((s.cs.length : Int) = 0) := by omega
    generalize a % s.cs.length = x at *
    generalize b % s.cs.length = y at *
    clear hf q1 q2
    go_enter Try.func3, Try.ntmps3
    go_upto_region 1 with (fail)
    generalize w.alloc _ = w1 at *
    go_wp2_with fail
    with_reducible refine (HAW.out _).mono ?_
    rintro e w2 ⟨rfl, hb⟩
    have K2 := Lib.hid hb
    obtain ⟨c0, c1, c2, c3, c4, c5⟩ := cells6 (blk HX.out hb)
    clear hb
    go_wp2_with fail
    with_reducible refine (HF.out _ K2.out).mono ?_
    rintro e w3 ⟨rfl, hb⟩
    have K3 := kept_hid HB (kept_trans K2.out hb)
    have X3 := Lib.hid (blk HX.out (kept_trans K2.out hb))
    clear hb c0 c1 c2 c3 c4 c5
    obtain ⟨c0, c1, c2, c3, c4, c5⟩ := cells6 X3.out
    go_wp2_with fail
    clear c0 c1 c2 c3 c4 c5
    have HS1 := Lib.hid fun W => span_any s.rows s.cols ad s.cs.length k s.cur s.lk s.ins x y W HXL.out HYL.out (by have := HL.out; omega)
    have HS2 := Lib.hid fun W => rspan_any s.rows s.cols ad s.cs.length k s.cur s.lk s.ins x y W HXL.out HYL.out (by have := HL.out; omega)
    have HSL := Lib.hid (show (span s.cs.length x y).length < 100000000 by
      rw [span_length]; have := (spanLen_pos (z := s.cs.length) (by have := HP.out; omega) (x : Int) (y : Int)).2; have := HL.out; omega)
    first
      | go_region_held3 (fun W' => Below w3.heap.size w3 W' ∧ W'.cell? ⟨w.heap.size, 0, none⟩ = some (.int .i64 s.rows) ∧ W'.cell? ⟨w.heap.size, 1, none⟩ = some (.int .i64 s.cols) ∧ W'.cell? ⟨w.heap.size, 2, none⟩ = some (.slice ad s.cs.length k) ∧ W'.cell? ⟨w.heap.size, 3, none⟩ = some (.int .i64 s.cur) ∧ W'.cell? ⟨w.heap.size, 4, none⟩ = some (.bool s.lk) ∧ W'.cell? ⟨w.heap.size, 5, none⟩ = some (.bool s.ins))
          (first | with_reducible exact below6 X3.out _ (Below.refl _ _).drew | with_reducible exact below6 X3.out _ (Below.refl _ _) | with_reducible exact below6 X3.out _ (And.left (by assumption)) | with_reducible exact below6 X3.out _ (kept_trans (And.left (by assumption)) hb))
          (first
            | (go_at_call 9; with_reducible refine (HS1.out _).mono ?_; rintro e w4 ⟨v1, rfl, ho1, hb⟩)
            | (go_at_call 10; with_reducible refine (HS2.out _).mono ?_; rintro e w5 ⟨v2, rfl, ho2, hb⟩; replace ho1 := ho1.below hb)
            | (go_at_call 8; with_reducible refine (rints_same _ _ _ _ _ _ ho1 ho2 HSL.out).mono ?_; rintro e w6 ⟨rfl, m, rfl⟩; have hb := below_drewN w5.heap.size m w5))
      | fail "no"
    have hS := And.left (by assumption : Below w3.heap.size w3 (w5.drewN m) ∧ _)
    have K6 := kept_hid K3 hS
    clear hS hb ho1 ho2 HS1 HS2
    go_wp2_with fail
    go_ret
    exact ⟨rfl, K6.out⟩
end Grd
end Go.Proofs.Ytilabepmmebkcaa
