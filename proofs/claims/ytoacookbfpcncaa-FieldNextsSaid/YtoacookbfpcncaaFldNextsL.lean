/- The law FieldNexts. -/
import Derived.Test.YtoacookbfpcncaaFldAwake
import Derived.Test.YtoacookbfpcncaaGrdFew
import Derived.Test.YtoacookbfpcncaaGrdRints
import Derived.Test.YtoacookbfpcncaaGrdEq
import Derived.Test.YtoacookbfpcncaaOpnScr
import Derived.Deep.RegionHeld3
import Derived.Deep.Cut
import Derived.Test.YtoacookbfpcncaaFldRef3
namespace Go.Proofs.Ytoacookbfpcncaa
open Go.RowKit Sha Six Apd Cut Err Att Grd
set_option linter.unusedVariables false
namespace Fld
set_option maxRecDepth 100000 in
set_option maxHeartbeats 8000000 in
theorem nexts_any (s : S) (ad : Option Addr) (k : Nat) (a : Int) (w : World) (h : CelsIn w (.slice ad s.cs.length k) s.cs) (hwf : Opn.Wf s.cs) (hm : s.cs.length ≤ maxLen) (wa : (Lit.int .u16 a).wf = true) :
    Calls Try.prog 4 #[.agg #[.int .i64 s.rows, .int .i64 s.cols, .slice ad s.cs.length k, .int .i64 s.cur, .bool s.lk, .bool s.ins], .int .u16 a] w fun e w' => e = .returned (.bool true) ∧ Below w.heap.size w w' := by
  obtain ⟨b0, b1⟩ := Ord.wf_u16 wa
  obtain ⟨a, rfl⟩ := Int.eq_ofNat_of_zero_le b0
  have HAW := Lib.hid fun W => awake_any W
  have HB := Lib.hid (al_any w (.cells #[.int .i64 s.rows, .int .i64 s.cols, .slice ad s.cs.length k, .int .i64 s.cur, .bool s.lk, .bool s.ins] 24))
  have HX := Lib.hid (heap_alloc_new w (.cells #[.int .i64 s.rows, .int .i64 s.cols, .slice ad s.cs.length k, .int .i64 s.cur, .bool s.lk, .bool s.ins] 24))
  have HI := Lib.hid (h.below HB.out)
  have HF := Lib.hid fun W hb => rfew_any s ad k W (HI.out.below hb) (wf_sound hwf)
  have HSD := Lib.hid (wf_sound hwf)
  clear h hwf hm wa
  cases hf : few s with
  | false =>
    rw [hf] at HF
    go_enter Try.func4, Try.ntmps4
    go_upto_region 1 with (fail)
    generalize w.alloc _ = w1 at *
    go_wp2_with fail
    with_reducible refine (HAW.out _).mono ?_
    rintro e w2 ⟨rfl, hb⟩
    have K2 := Lib.hid hb
    obtain ⟨c0, c1, c2, c3, c4, c5⟩ := cells6 (blk HX.out hb)
    clear hb
    go_wp2_with fail
    with_reducible refine (HF.out _ K2.out).mono ?_
    rintro e w3 ⟨rfl, hb⟩
    have K3 := kept_hid HB (kept_trans K2.out hb)
    clear hb c0 c1 c2 c3 c4 c5
    go_wp2_with fail
    with_reducible refine (HAW.out _).mono ?_
    rintro e w4 ⟨rfl, hb⟩
    have K4 := kept_hid K3 hb
    clear hb
    go_wp2_with fail
    go_ret
    exact ⟨rfl, K4.out⟩
  | true =>
    rw [hf] at HF
    obtain ⟨q1, q2, _⟩ := few_parts hf
    have HL := Lib.hid q1
    have HP := Lib.hid q2
    have HZ := Lib.hid (show 0 < s.cs.length by omega)
    have HLT := Lib.hid (show s.cs.length < 10000 by omega)
    have HLC := Lib.hid (show s.cs.length < 100000000 by omega)
    have hx : ((a : Int) % (s.cs.length : Int)) = ((a % s.cs.length : Nat) : Int) := by omega
    have HXL := Lib.hid (Nat.mod_lt a q2)
    have hne : ¬ ((s.cs.length : Int) = 0) := by omega
    generalize a % s.cs.length = x at *
    clear hf q1 q2
    go_enter Try.func4, Try.ntmps4
    go_upto_region 1 with (fail)
    generalize w.alloc _ = w1 at *
    go_wp2_with fail
    with_reducible refine (HAW.out _).mono ?_
    rintro e w2 ⟨rfl, hb⟩
    have K2 := Lib.hid hb
    obtain ⟨c0, c1, c2, c3, c4, c5⟩ := cells6 (blk HX.out hb)
    clear hb
    go_wp2_with fail
    with_reducible refine (HF.out _ K2.out).mono ?_
    rintro e w3 ⟨rfl, hb⟩
    have K3 := kept_hid HB (kept_trans K2.out hb)
    have X3 := Lib.hid (blk HX.out (kept_trans K2.out hb))
    have I3 := Lib.hid (HI.out.below (kept_trans K2.out hb))
    clear hb c0 c1 c2 c3 c4 c5 HAW HF HX HB HI K2
    have Q1 := Lib.hid fun W (hb : Below w3.heap.size w3 W) => fnext_any s ad k x W (I3.out.below hb) HSD.out HZ.out HLT.out HXL.out
    have Q2 := Lib.hid fun W (hb : Below w3.heap.size w3 W) => rnextf_any s ad k x W (I3.out.below hb) HZ.out HLC.out HXL.out
    have Q3 := Lib.hid fun W (hb : Below w3.heap.size w3 W) => fprev_any s ad k x W (I3.out.below hb) HSD.out HZ.out HLT.out HXL.out
    have Q4 := Lib.hid fun W (hb : Below w3.heap.size w3 W) => rprevf_any s ad k x W (I3.out.below hb) HZ.out HLC.out HXL.out
    generalize next s.cs x = n1 at *
    generalize prev s.cs x = p1 at *
    have hb0 : ((n1 : Int) == n1) = true := by simp
    have hb1 : ((p1 : Int) == p1) = true := by simp
    obtain ⟨c0, c1, c2, c3, c4, c5⟩ := cells6 X3.out
    go_wp2_with fail
    clear c0 c1 c2 c3 c4 c5
    first
      | go_region_held3 (fun W' => Below w3.heap.size w3 W' ∧ W'.cell? ⟨w.heap.size, 0, none⟩ = some (.int .i64 s.rows) ∧ W'.cell? ⟨w.heap.size, 1, none⟩ = some (.int .i64 s.cols) ∧ W'.cell? ⟨w.heap.size, 2, none⟩ = some (.slice ad s.cs.length k) ∧ W'.cell? ⟨w.heap.size, 3, none⟩ = some (.int .i64 s.cur) ∧ W'.cell? ⟨w.heap.size, 4, none⟩ = some (.bool s.lk) ∧ W'.cell? ⟨w.heap.size, 5, none⟩ = some (.bool s.ins))
          (first | with_reducible exact below6 X3.out _ (Below.refl _ _).drew | with_reducible exact below6 X3.out _ (Below.refl _ _) | with_reducible exact below6 X3.out _ (And.left (by assumption)) | with_reducible exact below6 X3.out _ (kept_trans (And.left (by assumption)) hb))
          (first
            | (go_at_call 22; with_reducible refine (Q1.out _ (And.left (by assumption))).mono ?_; rintro e wa ⟨rfl, hb⟩)
            | (go_at_call 23; with_reducible refine (Q2.out _ (And.left (by assumption))).mono ?_; rintro e wb ⟨rfl, hb⟩)
            | (go_at_call 24; with_reducible refine (Q3.out _ (And.left (by assumption))).mono ?_; rintro e wc ⟨rfl, hb⟩)
            | (go_at_call 25; with_reducible refine (Q4.out _ (And.left (by assumption))).mono ?_; rintro e wd ⟨rfl, hb⟩))
      | fail "no"
    have hS := And.left (by assumption : Below w3.heap.size w3 wd ∧ _)
    have K4 := kept_hid K3 hS
    clear hS hb Q1 Q2 Q3 Q4 K3 X3 I3
    go_wp2_with fail
    go_ret
    exact ⟨rfl, K4.out⟩
end Fld
end Go.Proofs.Ytoacookbfpcncaa
