/- The law WindowFar. Written by tools/gen_win_laws.py. -/
import Derived.Test.YteggdfkmncikpaaDoorWinAwake
import Derived.Test.YteggdfkmncikpaaDoorWinRr
import Derived.Deep.QuietTactic
import Derived.BigQuiet
import Derived.Deep.Cut
import Derived.Deep.LoopGhost
import Derived.Deep.RegionLaw
import Derived.Deep.RegionHeld3
import Derived.IntWalk
import Derived.Lib.SmallJoins
namespace Go.Proofs.YteggdfkmncikpaaDoor
open Go.RowKit Sha Six Apd Cut Err
set_option linter.unusedVariables false
set_option linter.unusedSimpArgs false
namespace Win
set_option maxRecDepth 100000 in
set_option maxHeartbeats 8000000 in
theorem far_core (s : W) (leap back : Nat) (w : World) (hf : Fit s) (hl : leap < 4294967296) (hbk : back < 256) (hg : Handle w) :
    Calls Tryd.prog 6 #[.agg #[.int .i64 s.top, .int .u64 (s.bits : Int)], .int .u32 (leap : Int), .int .u8 (back : Int)] w fun e w' => e = .returned (.bool true) ∧ Below w.heap.size w w' := by
  have HAW := Lib.hid fun W (hb : Below w.heap.size w W) => awake_any W (hand_of hg hb)
  have HCO := Lib.hid fun W n (hb : Below w.heap.size w W) => code_errn n W (hand_of hg hb)
  have HRR := Lib.hid fun W => rright_any s W hf
  have HLC := Lib.hid fun W n hr hn => let_any s n W hr hf hn
  have HF := Lib.hid hf
  have HLP := Lib.hid hl
  have HBK := Lib.hid hbk
  have hwb : IntKind.i64.wrap (back : Int) = (back : Int) := by rw [IntWalk.i64_in] <;> omega
  have hwl : IntKind.i64.wrap (leap : Int) = (leap : Int) := by rw [IntWalk.i64_in] <;> omega
  clear hg hf
  cases hr : right s with
  | false =>
    rw [hr] at HRR
    clear hr HLC HF
    obtain ⟨t, b⟩ := s
    simp only at *
    have HB := Lib.hid (al_any w (.cells #[.int .i64 t, .int .u64 (b : Int)] 24))
    have HX := Lib.hid (heap_alloc_new w (.cells #[.int .i64 t, .int .u64 (b : Int)] 24))
    go_enter Tryd.func6, Tryd.ntmps6
    go_upto_region 1 with (fail)
    generalize w.alloc _ = w1 at *
    go_wp2_with fail
    with_reducible refine (HAW.out _ HB.out).mono ?_
    rintro e w2 ⟨rfl, hb⟩
    have K2 := kept_hid HB hb
    have X2 := Lib.hid (blk HX.out hb)
    clear hb HB HX
    obtain ⟨c0, c1⟩ := cells2 X2.out
    go_wp2_with fail
    with_reducible refine (HRR.out _).mono ?_
    rintro e w3 ⟨rfl, hb⟩
    have K3 := kept_hid K2 hb
    clear hb K2 X2 c0 c1
    go_wp2_with fail
    with_reducible refine (HAW.out _ K3.out).mono ?_
    rintro e wq ⟨rfl, hb⟩
    have KE := kept_hid K3 hb
    clear hb
    go_wp2_with fail
    go_ret
    exact ⟨rfl, KE.out⟩
  | true =>
    rw [hr] at HRR
    obtain ⟨ht0, ht1⟩ := right_fit hr
    have HLC := Lib.hid fun W n hn => HLC.out W n hr hn
    have HRT := Lib.hid hr
    clear hr
    by_cases h40 : s.top ≤ 1099511627776
    · have hup := lets_up (s := s) (n := s.top + 1 + (leap : Int)) (by omega) (by omega) (by omega)
      have HIN := Lib.hid (in_right HRT.out HF.out.bits (n := s.top + 1 + (leap : Int)) (by omega) (by omega) (by omega))
      have HIB := Lib.hid (in_lt (n := s.top + 1 + (leap : Int)) HF.out.bits (by omega))
      have HU := Lib.hid fun W => HLC.out W (s.top + 1 + (leap : Int)) (by rw [IntWalk.i64_in] <;> omega)
      rw [hup.1] at HU
      have HTP := Lib.hid hup.2
      have HL2 := Lib.hid fun W m hm => let_any (in_ s (s.top + 1 + (leap : Int))) m W HIN.out ⟨HIB.out, by rw [HTP.out, IntWalk.i64_in] <;> omega⟩ hm
      simp only [GaveL, errn_0] at HU HL2
      clear hup HLC HRT HIN HIB
      generalize in_ s (s.top + 1 + (leap : Int)) = u at *
      obtain ⟨t, b⟩ := s
      obtain ⟨ut, ub⟩ := u
      simp only at *
      have hn1 : wrap64 (t + 1) = t + 1 := by rw [IntWalk.wrap64_in] <;> omega
      have hn2 : wrap64 (t + 1 + (leap : Int)) = t + 1 + (leap : Int) := by rw [IntWalk.wrap64_in] <;> omega
      have hut : (ut != t + 1 + (leap : Int)) = false := by rw [HTP.out]; simp
      have h40' : ¬ 1099511627776 < t := by omega
      have HNP := Lib.hid (show t + 1 + (leap : Int) ≤ 1103806595072 ∧ 1 ≤ t + 1 + (leap : Int) by omega)
      have HB := Lib.hid (al_any w (.cells #[.int .i64 t, .int .u64 (b : Int)] 24))
      have HX := Lib.hid (heap_alloc_new w (.cells #[.int .i64 t, .int .u64 (b : Int)] 24))
      go_enter Tryd.func6, Tryd.ntmps6
      go_upto_region 1 with (fail)
      generalize w.alloc _ = w1 at *
      go_wp2_with fail
      with_reducible refine (HAW.out _ HB.out).mono ?_
      rintro e w2 ⟨rfl, hb⟩
      have K2 := kept_hid HB hb
      have X2 := Lib.hid (blk HX.out hb)
      clear hb HB HX
      obtain ⟨c0, c1⟩ := cells2 X2.out
      go_wp2_with fail
      with_reducible refine (HRR.out _).mono ?_
      rintro e w3 ⟨rfl, hb⟩
      have K3 := kept_hid K2 hb
      have X3 := Lib.hid (blk X2.out hb)
      clear hb K2 X2 c0 c1
      obtain ⟨c0, c1⟩ := cells2 X3.out
      go_wp2_with fail
      generalize t + 1 + (leap : Int) = n at *
      with_reducible refine (HU.out _).mono ?_
      rintro e w4 ⟨rfl, hb⟩
      have HA := al_any w4 (.cells #[.int .i64 ut, .int .u64 (ub : Int)] 24)
      have Y5 := Lib.hid (heap_alloc_new w4 (.cells #[.int .i64 ut, .int .u64 (ub : Int)] 24))
      have K5 := kept_hid K3 (kept_trans hb HA)
      clear hb HA K3 X3 c0 c1 HU HRR hn1 hn2
      go_upto_region 5 with (fail)
      generalize w4.heap.size = G1 at *
      generalize w4.alloc _ = w5 at *
      obtain ⟨c0, c1⟩ := cells2 Y5.out
      obtain rfl : ut = n := HTP.out
      have hk1 : wrap64 (ut - 64) = ut - 64 := by have := HNP.out; rw [IntWalk.wrap64_in] <;> omega
      have hk2 : wrap64 (ut - 64 - (back : Int)) = ut - 64 - (back : Int) := by have := HNP.out; have := HBK.out; rw [IntWalk.wrap64_in] <;> omega
      have hk3 : IntKind.i64.wrap (ut - 64 - (back : Int)) = ut - 64 - (back : Int) := by have := HNP.out; have := HBK.out; rw [IntWalk.i64_in] <;> omega
      by_cases hk : ut - 64 - (back : Int) < 1
      · go_wp2_with fail
        go_ret
        exact ⟨rfl, K5.out⟩
      · have HL3 := Lib.hid fun W => HL2.out W (ut - 64 - (back : Int)) hk3
        rw [lets_old (s := ⟨ut, ub⟩) (n := ut - 64 - (back : Int)) (by omega) (by have := HNP.out; omega) (by simp only; omega)] at HL3
        simp only [show errn 12 = .iface 46 (.int .i64 12) from rfl] at HL3
        have hk' : 1 ≤ ut - 64 - (back : Int) := by omega
        have HC := Lib.hid fun W (hb : Below w.heap.size w W) => HCO.out W 12 hb
        simp only [show errn 12 = .iface 46 (.int .i64 12) from rfl] at HC
        clear hk HL2 HCO
        go_wp2_with fail
        with_reducible refine (HL3.out _).mono ?_
        rintro e w6 ⟨rfl, hb⟩
        have HA := al_any w6 (.cells #[.int .i64 ut, .int .u64 (ub : Int)] 24)
        have Z7 := Lib.hid (heap_alloc_new w6 (.cells #[.int .i64 ut, .int .u64 (ub : Int)] 24))
        have Y7 := Lib.hid (blk Y5.out (kept_trans hb HA))
        have K7 := kept_hid K5 (kept_trans hb HA)
        clear hb HA K5 Y5 c0 c1 HL3
        go_upto_region 11 with (fail)
        generalize w6.heap.size = G2 at *
        generalize w6.alloc _ = w7 at *
        go_wp2_with fail
        with_reducible refine (HC.out _ K7.out).mono ?_
        rintro e w8 ⟨rfl, hb⟩
        have K8 := kept_hid K7 hb
        obtain ⟨c0, c1⟩ := cells2 (blk Y7.out hb)
        obtain ⟨d0, d1⟩ := cells2 (blk Z7.out hb)
        have hq := fun W => run_sameS ⟨ut, ub⟩ W
        simp only at hq
        clear hb K7 Y7 Z7
        go_wp2_with fail
        go_ret
        exact ⟨rfl, K8.out⟩
    · have h40' : 1099511627776 < s.top := by omega
      clear HLC HF HRT
      obtain ⟨t, b⟩ := s
      simp only at *
      have HB := Lib.hid (al_any w (.cells #[.int .i64 t, .int .u64 (b : Int)] 24))
      have HX := Lib.hid (heap_alloc_new w (.cells #[.int .i64 t, .int .u64 (b : Int)] 24))
      go_enter Tryd.func6, Tryd.ntmps6
      go_upto_region 1 with (fail)
      generalize w.alloc _ = w1 at *
      go_wp2_with fail
      with_reducible refine (HAW.out _ HB.out).mono ?_
      rintro e w2 ⟨rfl, hb⟩
      have K2 := kept_hid HB hb
      have X2 := Lib.hid (blk HX.out hb)
      clear hb HB HX
      obtain ⟨c0, c1⟩ := cells2 X2.out
      go_wp2_with fail
      with_reducible refine (HRR.out _).mono ?_
      rintro e w3 ⟨rfl, hb⟩
      have K3 := kept_hid K2 hb
      have X3 := Lib.hid (blk X2.out hb)
      clear hb K2 X2 c0 c1
      obtain ⟨c0, c1⟩ := cells2 X3.out
      go_wp2_with fail
      with_reducible refine (HAW.out _ K3.out).mono ?_
      rintro e wq ⟨rfl, hb⟩
      have KE := kept_hid K3 hb
      clear hb
      go_wp2_with fail
      go_ret
      exact ⟨rfl, KE.out⟩
end Win
end Go.Proofs.YteggdfkmncikpaaDoor
