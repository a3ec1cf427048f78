/- The law WipeHost. Written by tools/gen_wip_laws.py. -/
import Derived.Test.YtaopkelobglnbaaDoorWipAwake
import Derived.Test.YtaopkelobglnbaaDoorWipOk
import Derived.Test.YtaopkelobglnbaaDoorBunGrd
import Derived.Test.YtaopkelobglnbaaDoorBunGrd
import Derived.Test.YtaopkelobglnbaaDoorOpnScr
import Derived.StillTailTactics
import Derived.Deep.Cut
import Derived.Deep.RegionHeld3
namespace Go.Proofs.YtaopkelobglnbaaDoor
open Go.RowKit Sha Six Apd Cut Err Att Grd Fld Scr Edt
set_option linter.unusedVariables false
namespace Wip
set_option maxRecDepth 100000 in
set_option maxHeartbeats 8000000 in
theorem hosts_any (s : S) (ad : Option Addr) (k : Nat) (w : World) (h : CelsIn w (.slice ad s.cs.length k) s.cs) (hwf : Opn.Wf s.cs) (hm : s.cs.length ≤ maxLen) (hg : Handle w) :
    Calls Tryd.prog 4 #[.agg #[.int .i64 s.rows, .int .i64 s.cols, .slice ad s.cs.length k, .int .i64 s.cur, .bool s.lk, .bool s.ins]] w fun e w' => e = .returned (.bool true) ∧ Below w.heap.size w w' := by
  have HG := Lib.hid fun W (hb : Below w.heap.size w W) => hand_of hg hb
  have HAW := Lib.hid fun W (hb : Below w.heap.size w W) => awake_any W (hand_of hg hb)
  have HB := Lib.hid (al_any w (.cells #[.int .i64 s.rows, .int .i64 s.cols, .slice ad s.cs.length k, .int .i64 s.cur, .bool s.lk, .bool s.ins] 24))
  have HX := Lib.hid (heap_alloc_new w (.cells #[.int .i64 s.rows, .int .i64 s.cols, .slice ad s.cs.length k, .int .i64 s.cur, .bool s.lk, .bool s.ins] 24))
  have HI := Lib.hid (h.below HB.out)
  have HF := Lib.hid fun W hb => rfew_any s ad k W (HI.out.below hb) (wf_sound hwf)
  have H8 := Lib.hid (wf_sound hwf)
  clear h hwf hm hg
  cases hf : few s with
  | false =>
    rw [hf] at HF
    go_enter Tryd.func4, Tryd.ntmps4
    go_upto_region 1 with (fail)
    generalize w.alloc _ = w1 at *
    go_wp2_with fail
    with_reducible refine (HAW.out _ HB.out).mono ?_
    rintro e w2 ⟨rfl, hb⟩
    have K2 := Lib.hid hb
    have X2 := Lib.hid (blk HX.out hb)
    have K2' := kept_hid HB hb
    have I2 := Lib.hid (HI.out.below hb)
    clear hb
    obtain ⟨c0, c1, c2, c3, c4, c5⟩ := cells6 X2.out
    go_wp2_with fail
    with_reducible refine (HF.out _ K2.out).mono ?_
    rintro e w3 ⟨rfl, hb⟩
    have K3 := kept_hid K2' hb
    have X3 := Lib.hid (blk X2.out hb)
    have I3 := Lib.hid (I2.out.below hb)
    clear hb c0 c1 c2 c3 c4 c5 K2 K2' X2 I2 HB HX HI HF
    go_wp2_with fail
    with_reducible refine (HAW.out _ K3.out).mono ?_
    rintro e w4 ⟨rfl, hb⟩
    have KE := kept_hid K3 hb
    clear hb
    go_wp2_with fail
    go_ret
    exact ⟨rfl, KE.out⟩
  | true =>
    rw [hf] at HF
    obtain ⟨q1, q2, q3⟩ := few_parts hf
    have HL := Lib.hid q1
    have HP := Lib.hid q2
    have HR := Lib.hid q3
    have HLT := Lib.hid (show s.cs.length < 10000 from by have := HL.out; omega)
    clear q1 q2 q3 hf
    go_enter Tryd.func4, Tryd.ntmps4
    go_upto_region 1 with (fail)
    generalize w.alloc _ = w1 at *
    go_wp2_with fail
    with_reducible refine (HAW.out _ HB.out).mono ?_
    rintro e w2 ⟨rfl, hb⟩
    have K2 := Lib.hid hb
    have X2 := Lib.hid (blk HX.out hb)
    have K2' := kept_hid HB hb
    have I2 := Lib.hid (HI.out.below hb)
    clear hb
    obtain ⟨c0, c1, c2, c3, c4, c5⟩ := cells6 X2.out
    go_wp2_with fail
    with_reducible refine (HF.out _ K2.out).mono ?_
    rintro e w3 ⟨rfl, hb⟩
    have K3 := kept_hid K2' hb
    have X3 := Lib.hid (blk X2.out hb)
    have I3 := Lib.hid (I2.out.below hb)
    clear hb c0 c1 c2 c3 c4 c5 K2 K2' X2 I2 HB HX HI HF
    clear HAW
    obtain ⟨c0, c1, c2, c3, c4, c5⟩ := cells6 X3.out
    obtain ⟨f0, f1, f2, f3, f4, f5⟩ := free6 X3.out
    have SO := gsetCell w3 w.heap.size 4 (.bool false)
    have X4 := Lib.hid (show (w3.setCell ⟨w.heap.size, 4, none⟩ (.bool false)).heap[w.heap.size]? = some (.cells #[.int .i64 s.rows, .int .i64 s.cols, .slice ad s.cs.length k, .int .i64 s.cur, .bool false, .bool s.ins] 24 (0, 0)) from heap_setCell_same w3 w.heap.size 4 _ 24 (.bool false) X3.out)
    have I4 := Lib.hid (celsIn_away I3.out SO (fun y hy => (not_screen I3.out HP.out X3.out y hy).1))
    have K4 := Lib.hid (below_grown K3.out SO (Nat.le_refl _))
    clear SO X3 I3 K3
    go_upto_region 4 with (fail)
    clear c0 c1 c2 c3 c4 c5 f0 f1 f2 f3 f4 f5
    generalize w3.setCell _ _ = w4 at *
    have Q1 := Lib.hid (all_ok1 s ad k w4 I4.out HR.out HLT.out)
    have Q2 := Lib.hid fun W (h : CelsIn W (.slice ad s.cs.length k) s.cs) => host_ok s ad k W h HR.out HLT.out
    have HTL := Lib.hid (Hst.hclean_length s)
    generalize (Hst.hclean s).cs = ts at *
    generalize Hst.curOf s.cs = cu at *
    obtain ⟨c0, c1, c2, c3, c4, c5⟩ := cells6 X4.out
    go_wp2_with fail
    with_reducible refine Q1.out.mono ?_
    rintro e w5 ⟨va1, vc1, rfl, ho, hb⟩
    clear c0 c1 c2 c3 c4 c5
    have HA := al_any w5 (.cells #[.int .i64 s.rows, .int .i64 s.cols, .slice va1 s.cs.length vc1, .int .i64 cu, .bool false, .bool s.ins] 24)
    have B1 := Lib.hid (heap_alloc_new w5 (.cells #[.int .i64 s.rows, .int .i64 s.cols, .slice va1 s.cs.length vc1, .int .i64 cu, .bool false, .bool s.ins] 24))
    have C1 := Lib.hid ((OwnCels.below ho HA).to)
    replace hb := kept_trans hb HA
    replace X4 := Lib.hid (blk X4.out hb)
    replace I4 := Lib.hid (I4.out.below hb)
    replace K4 := kept_hid K4 hb
    clear HA ho hb
    go_upto_region 5 with (fail)
    generalize w5.heap.size = N1 at *
    generalize w5.alloc _ = w5b at *
    obtain ⟨c0, c1, c2, c3, c4, c5⟩ := cells6 X4.out
    go_wp2_with fail
    with_reducible refine (Q2.out _ I4.out).mono ?_
    rintro e w6 ⟨va2, vc2, rfl, ho, hb⟩
    clear c0 c1 c2 c3 c4 c5
    have HN := Lib.hid (show N1 < w6.heap.size from there_lt (blk B1.out hb))
    have HW := Lib.hid (show w.heap.size < w6.heap.size from there_lt (blk X4.out hb))
    have HA := al_any w6 (.cells #[.int .i64 s.rows, .int .i64 s.cols, .slice va2 s.cs.length vc2, .int .i64 cu, .bool false, .bool false] 24)
    have B2 := Lib.hid (heap_alloc_new w6 (.cells #[.int .i64 s.rows, .int .i64 s.cols, .slice va2 s.cs.length vc2, .int .i64 cu, .bool false, .bool false] 24))
    have C2 := Lib.hid ((OwnCels.below ho HA).to)
    replace hb := kept_trans hb HA
    replace X4 := Lib.hid (blk X4.out hb)
    replace B1 := Lib.hid (blk B1.out hb)
    replace C1 := Lib.hid (C1.out.below hb)
    replace K4 := kept_hid K4 hb
    clear HA ho hb
    go_upto_region 6 with (fail)
    generalize w6.heap.size = N2 at *
    generalize w6.alloc _ = w6b at *
    obtain ⟨c0, c1, c2, c3, c4, c5⟩ := cells6 X4.out
    obtain ⟨d0, d1, d2, d3, d4, d5⟩ := cells6 B2.out
    obtain ⟨f0, f1, f2, f3, f4, f5⟩ := free6 B2.out
    have SO := gsetCell w6b N2 5 (.bool s.ins)
    have B3 := Lib.hid (show (w6b.setCell ⟨N2, 5, none⟩ (.bool s.ins)).heap[N2]? = some (.cells #[.int .i64 s.rows, .int .i64 s.cols, .slice va2 s.cs.length vc2, .int .i64 cu, .bool false, .bool s.ins] 24 (0, 0)) from heap_setCell_same w6b N2 5 _ 24 (.bool s.ins) B2.out)
    have D1 := Lib.hid (blk_g B1.out SO (by intro e; injection e with e; have := HN.out; omega))
    have G1 := Lib.hid (celsIn_away C1.out SO (fun y hy => (not_screen C1.out (by rw [HTL.out]; exact HP.out) B2.out y hy).1))
    have G2 := Lib.hid (celsIn_away C2.out SO (fun y hy => (not_screen C2.out (by rw [HTL.out]; exact HP.out) B2.out y hy).1))
    have K5 := Lib.hid (below_grown K4.out SO (by have := HW.out; omega))
    clear SO B1 B2 C1 C2 X4 K4 I4
    go_upto_region 7 with (fail)
    clear c0 c1 c2 c3 c4 c5 d0 d1 d2 d3 d4 d5 f0 f1 f2 f3 f4 f5
    generalize w6b.setCell _ _ = w7 at *
    have HSM := Lib.hid (rsame_any s.rows s.cols cu false s.ins va1 s.cs.length vc1 va2 s.cs.length vc2 ts ts w7 G1.out G2.out (by rw [HTL.out]; have := HL.out; omega))
    rw [decide_eq_true rfl] at HSM
    obtain ⟨c0, c1, c2, c3, c4, c5⟩ := cells6 D1.out
    obtain ⟨d0, d1, d2, d3, d4, d5⟩ := cells6 B3.out
    go_wp2_with fail
    with_reducible refine HSM.out.mono ?_
    rintro e w8 ⟨rfl, hb⟩
    have K6 := kept_hid K5 hb
    clear hb
    go_wp2_with fail
    go_ret
    exact ⟨rfl, K6.out⟩
end Wip
end Go.Proofs.YtaopkelobglnbaaDoor
