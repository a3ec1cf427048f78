/- The law WipeDoes. Written by tools/gen_wip_laws.py. -/
import Derived.Test.YtaopkelobglnbaaGreatDoorWipAwake
import Derived.Test.YtaopkelobglnbaaGreatDoorWipRef
import Derived.Test.YtaopkelobglnbaaGreatDoorBunGrd
import Derived.Test.YtaopkelobglnbaaGreatDoorBunGrd
import Derived.Test.YtaopkelobglnbaaGreatDoorOpnScr
import Derived.StillTailTactics
import Derived.Deep.Cut
import Derived.Deep.RegionHeld3
namespace Go.Proofs.YtaopkelobglnbaaGreatDoor
open Go.RowKit Sha Six Apd Cut Err Att Grd Fld Scr Edt
set_option linter.unusedVariables false
namespace Wip
theorem ret_b {a b : Bool} (h : a = b) : Ending.returned (.bool a) = .returned (.bool b) := by rw [h]
set_option maxRecDepth 100000 in
set_option maxHeartbeats 8000000 in
theorem does_any (s : S) (ad : Option Addr) (k : Nat) (kind : Int) (w : World) (h : CelsIn w (.slice ad s.cs.length k) s.cs) (hwf : Opn.Wf s.cs) (hm : s.cs.length ≤ maxLen) (wkind : (Lit.int .i64 kind).wf = true) (hg : Handle w) :
    Calls Tryz.prog 3 #[.agg #[.int .i64 s.rows, .int .i64 s.cols, .slice ad s.cs.length k, .int .i64 s.cur, .bool s.lk, .bool s.ins], .int .i64 kind] w fun e w' => e = .returned (.bool true) ∧ Below w.heap.size w w' := by
  have HG := Lib.hid fun W (hb : Below w.heap.size w W) => hand_of hg hb
  have HAW := Lib.hid fun W (hb : Below w.heap.size w W) => awake_any W (hand_of hg hb)
  have HB := Lib.hid (al_any w (.cells #[.int .i64 s.rows, .int .i64 s.cols, .slice ad s.cs.length k, .int .i64 s.cur, .bool s.lk, .bool s.ins] 24))
  have HX := Lib.hid (heap_alloc_new w (.cells #[.int .i64 s.rows, .int .i64 s.cols, .slice ad s.cs.length k, .int .i64 s.cur, .bool s.lk, .bool s.ins] 24))
  have HI := Lib.hid (h.below HB.out)
  have HF := Lib.hid fun W hb => rfew_any s ad k W (HI.out.below hb) (wf_sound hwf)
  have H8 := Lib.hid (wf_sound hwf)
  have HCO := Lib.hid fun W ev (c n : Int) (hb : Below w.heap.size w W) (ht : Err.Told W ev c n) => code_told ev c n W (hand_of hg hb) ht
  have HWH := Lib.hid fun W ev (c n : Int) (hb : Below w.heap.size w W) (ht : Err.Told W ev c n) => where_told ev c n W (hand_of hg hb) ht
  clear h hwf hm hg wkind
  cases hf : few s with
  | false =>
    rw [hf] at HF
    go_enter Tryz.func3, Tryz.ntmps3
    go_upto_region 1 with (fail)
    generalize w.alloc _ = w1 at *
    go_wp2_with fail
    with_reducible refine (HAW.out _ HB.out).mono ?_
    rintro e w2 ⟨rfl, hb⟩
    have K2 := Lib.hid hb
    have X2 := Lib.hid (blk HX.out hb)
    have K2' := kept_hid HB hb
    have I2 := Lib.hid (HI.out.below hb)
    clear hb
    obtain ⟨c0, c1, c2, c3, c4, c5⟩ := cells6 X2.out
    go_wp2_with fail
    with_reducible refine (HF.out _ K2.out).mono ?_
    rintro e w3 ⟨rfl, hb⟩
    have K3 := kept_hid K2' hb
    have X3 := Lib.hid (blk X2.out hb)
    have I3 := Lib.hid (I2.out.below hb)
    clear hb c0 c1 c2 c3 c4 c5 K2 K2' X2 I2 HB HX HI HF
    go_wp2_with fail
    with_reducible refine (HAW.out _ K3.out).mono ?_
    rintro e w4 ⟨rfl, hb⟩
    have KE := kept_hid K3 hb
    clear hb
    go_wp2_with fail
    go_ret
    exact ⟨rfl, KE.out⟩
  | true =>
    rw [hf] at HF
    obtain ⟨q1, q2, q3⟩ := few_parts hf
    have HL := Lib.hid q1
    have HP := Lib.hid q2
    have HR := Lib.hid q3
    have HLT := Lib.hid (show s.cs.length < 10000 from by have := HL.out; omega)
    clear q1 q2 q3 hf
    go_enter Tryz.func3, Tryz.ntmps3
    go_upto_region 1 with (fail)
    generalize w.alloc _ = w1 at *
    go_wp2_with fail
    with_reducible refine (HAW.out _ HB.out).mono ?_
    rintro e w2 ⟨rfl, hb⟩
    have K2 := Lib.hid hb
    have X2 := Lib.hid (blk HX.out hb)
    have K2' := kept_hid HB hb
    have I2 := Lib.hid (HI.out.below hb)
    clear hb
    obtain ⟨c0, c1, c2, c3, c4, c5⟩ := cells6 X2.out
    go_wp2_with fail
    with_reducible refine (HF.out _ K2.out).mono ?_
    rintro e w3 ⟨rfl, hb⟩
    have K3 := kept_hid K2' hb
    have X3 := Lib.hid (blk X2.out hb)
    have I3 := Lib.hid (I2.out.below hb)
    clear hb c0 c1 c2 c3 c4 c5 K2 K2' X2 I2 HB HX HI HF
    clear HAW
    have HTL := Lib.hid (wdo_length s kind)
    have Q1 := Lib.hid (do_any s ad k kind w3 I3.out HR.out H8.out HLT.out)
    have Q2 := Lib.hid fun W (h : CelsIn W (.slice ad s.cs.length k) s.cs) => rdo_any s ad k kind W h HR.out HLT.out
    have HWI := Lib.hid fun W => wipes_any kind W
    have HIM := Lib.hid (show isWipe kind = (decide (12 ≤ kind) && decide (kind ≤ 14)) from rfl)
    simp only [GaveE] at Q1
    simp only [ShownE] at Q2
    generalize isWipe kind = im at *
    generalize (wdo s kind).2.2 = wh at *
    generalize (wdo s kind).2.1 = code at *
    generalize (wdo s kind).1 = t at *
    have HLN := Lib.hid (show t.cs.length < 1000000000 from by rw [HTL.out.1]; have := HL.out; omega)
    obtain ⟨c0, c1, c2, c3, c4, c5⟩ := cells6 X3.out
    go_wp2_with fail
    with_reducible refine Q1.out.mono ?_
    rintro e w4 ⟨va1, vc1, ev1, rfl, hc, ht, hn, hb⟩
    clear c0 c1 c2 c3 c4 c5
    have HA := al_any w4 (.cells #[.int .i64 t.rows, .int .i64 t.cols, .slice va1 t.cs.length vc1, .int .i64 t.cur, .bool t.lk, .bool t.ins] 24)
    have B1 := Lib.hid (heap_alloc_new w4 (.cells #[.int .i64 t.rows, .int .i64 t.cols, .slice va1 t.cs.length vc1, .int .i64 t.cur, .bool t.lk, .bool t.ins] 24))
    have C1 := Lib.hid (hc.below HA)
    have T1 := Lib.hid (Err.Told.below ht HA)
    have E1 := Lib.hid (fun h => (hn h).1)
    replace hb := kept_trans hb HA
    replace X3 := Lib.hid (blk X3.out hb)
    replace I3 := Lib.hid (I3.out.below hb)
    replace K3 := kept_hid K3 hb
    clear HA hc ht hn hb
    go_upto_region 4 with (fail)
    generalize w4.heap.size = N1 at *
    generalize w4.alloc _ = w4b at *
    obtain ⟨c0, c1, c2, c3, c4, c5⟩ := cells6 X3.out
    go_wp2_with fail
    with_reducible refine (Q2.out _ I3.out).mono ?_
    rintro e w5 ⟨va2, vc2, rfl, hc, hb⟩
    clear c0 c1 c2 c3 c4 c5
    have HA := al_any w5 (.cells #[.int .i64 t.rows, .int .i64 t.cols, .slice va2 t.cs.length vc2, .int .i64 t.cur, .bool t.lk, .bool t.ins] 24)
    have B2 := Lib.hid (heap_alloc_new w5 (.cells #[.int .i64 t.rows, .int .i64 t.cols, .slice va2 t.cs.length vc2, .int .i64 t.cur, .bool t.lk, .bool t.ins] 24))
    have C2 := Lib.hid (hc.below HA)
    replace hb := kept_trans hb HA
    replace X3 := Lib.hid (blk X3.out hb)
    replace B1 := Lib.hid (blk B1.out hb)
    replace C1 := Lib.hid (C1.out.below hb)
    replace T1 := Lib.hid (Err.Told.below T1.out hb)
    replace K3 := kept_hid K3 hb
    clear HA hc hb
    go_upto_region 5 with (fail)
    generalize w5.heap.size = N2 at *
    generalize w5.alloc _ = w5b at *
    have HSM := Lib.hid (rsame_any t.rows t.cols t.cur t.lk t.ins va1 t.cs.length vc1 va2 t.cs.length vc2 t.cs t.cs w5b C1.out C2.out HLN.out)
    rw [decide_eq_true rfl] at HSM
    obtain ⟨c0, c1, c2, c3, c4, c5⟩ := cells6 B1.out
    obtain ⟨e0, e1, e2, e3, e4, e5⟩ := cells6 B2.out
    go_wp2_with fail
    with_reducible refine HSM.out.mono ?_
    rintro e w6 ⟨rfl, hb⟩
    replace K3 := kept_hid K3 hb
    replace T1 := Lib.hid (Err.Told.below T1.out hb)
    clear hb c0 c1 c2 c3 c4 c5 e0 e1 e2 e3 e4 e5
    go_wp2_with fail
    with_reducible refine (HCO.out _ _ _ _ K3.out T1.out).mono ?_
    rintro e w7 ⟨rfl, hb⟩
    replace K3 := kept_hid K3 hb
    replace T1 := Lib.hid (Err.Told.below T1.out hb)
    clear hb
    go_wp2_with fail
    with_reducible refine (HWH.out _ _ _ _ K3.out T1.out).mono ?_
    rintro e w8 ⟨rfl, hb⟩
    replace K3 := kept_hid K3 hb
    clear hb
    by_cases h2 : 12 ≤ kind
    · have h2b : decide (12 ≤ kind) = true := by simp [h2]
      have HI2 := Lib.hid (show im = decide (kind ≤ 14) by rw [HIM.out, h2b]; rfl)
      go_wp2_with fail
      with_reducible refine (HWI.out _).mono ?_
      rintro e w9 ⟨rfl, rfl⟩
      rw [HI2.out]
      go_wp2_with fail
      go_ret
      exact ⟨ret_b (by simp), K3.out⟩
    · have h2b : decide (12 ≤ kind) = false := by simp [h2]
      have HI2 := Lib.hid (show im = false by rw [HIM.out, h2b]; rfl)
      go_wp2_with fail
      with_reducible refine (HWI.out _).mono ?_
      rintro e w9 ⟨rfl, rfl⟩
      rw [HI2.out]
      go_wp2_with fail
      go_ret
      exact ⟨ret_b (by simp), K3.out⟩
end Wip
end Go.Proofs.YtaopkelobglnbaaGreatDoor
