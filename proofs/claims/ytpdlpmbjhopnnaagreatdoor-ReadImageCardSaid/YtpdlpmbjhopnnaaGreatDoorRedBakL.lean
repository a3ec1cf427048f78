/- The law ReadImage. Written by tools/gen_red_zd.py. -/
import Derived.Test.YtpdlpmbjhopnnaaGreatDoorRedAwake
import Derived.Test.YtpdlpmbjhopnnaaGreatDoorBunRdc
import Derived.Test.YtpdlpmbjhopnnaaGreatDoorBunRdm
import Derived.Test.YtpdlpmbjhopnnaaGreatDoorBunSrd
import Derived.Test.YtpdlpmbjhopnnaaGreatDoorStrLt
import Derived.Test.YtpdlpmbjhopnnaaGreatDoorBunGrd
import Derived.Test.YtpdlpmbjhopnnaaGreatDoorBunPnc
import Derived.Test.YtpdlpmbjhopnnaaGreatDoorBunScr
import Derived.Test.YtpdlpmbjhopnnaaGreatDoorBunGrd
import Derived.Test.YtpdlpmbjhopnnaaGreatDoorBunGrd
import Derived.Test.YtpdlpmbjhopnnaaGreatDoorOpnScr
import Derived.StillTailTactics
import Derived.Deep.Cut
import Derived.Deep.RegionHeld3
namespace Go.Proofs.YtpdlpmbjhopnnaaGreatDoor
open Go.RowKit Sha Six Apd Cut Err Att Grd Fld Pnt
set_option linter.unusedVariables false
namespace Red
set_option maxRecDepth 100000 in
set_option maxHeartbeats 8000000 in
theorem back_law (s : S) (ad : Option Addr) (k : Nat) (w : World) (h : CelsIn w (.slice ad s.cs.length k) s.cs) (hwf : Opn.Wf s.cs) (hm : s.cs.length ≤ maxLen) (hg : Handle w) :
    Calls Tryz.prog 4 #[.agg #[.int .i64 s.rows, .int .i64 s.cols, .slice ad s.cs.length k, .int .i64 s.cur, .bool s.lk, .bool s.ins]] w fun e w' => e = .returned (.bool true) ∧ Below w.heap.size w w' := by
  have HG := Lib.hid fun W (hb : Below w.heap.size w W) => hand_of hg hb
  have HAW := Lib.hid fun W (hb : Below w.heap.size w W) => awake_any W (hand_of hg hb)
  have HB := Lib.hid (al_any w (.cells #[.int .i64 s.rows, .int .i64 s.cols, .slice ad s.cs.length k, .int .i64 s.cur, .bool s.lk, .bool s.ins] 24))
  have HX := Lib.hid (heap_alloc_new w (.cells #[.int .i64 s.rows, .int .i64 s.cols, .slice ad s.cs.length k, .int .i64 s.cur, .bool s.lk, .bool s.ins] 24))
  have HI := Lib.hid (h.below HB.out)
  have HF := Lib.hid fun W hb => rfew_any s ad k W (HI.out.below hb) (wf_sound hwf)
  have H8 := Lib.hid (wf_sound hwf)
  clear h hwf hm hg
  cases hf : few s with
  | false =>
    rw [hf] at HF
    go_enter Tryz.func4, Tryz.ntmps4
    go_upto_region 1 with (fail)
    generalize w.alloc _ = w1 at *
    go_wp2_with fail
    with_reducible refine (HAW.out _ HB.out).mono ?_
    rintro e w2 ⟨rfl, hb⟩
    have K2 := Lib.hid hb
    have X2 := Lib.hid (blk HX.out hb)
    have K2' := kept_hid HB hb
    have I2 := Lib.hid (HI.out.below hb)
    clear hb
    obtain ⟨c0, c1, c2, c3, c4, c5⟩ := cells6 X2.out
    go_wp2_with fail
    with_reducible refine (HF.out _ K2.out).mono ?_
    rintro e w3 ⟨rfl, hb⟩
    have K3 := kept_hid K2' hb
    have X3 := Lib.hid (blk X2.out hb)
    have I3 := Lib.hid (I2.out.below hb)
    clear hb c0 c1 c2 c3 c4 c5 K2 K2' X2 I2 HB HX HI HF
    go_wp2_with fail
    with_reducible refine (HAW.out _ K3.out).mono ?_
    rintro e w4 ⟨rfl, hb⟩
    have KE := kept_hid K3 hb
    clear hb
    go_wp2_with fail
    go_ret
    exact ⟨rfl, KE.out⟩
  | true =>
    rw [hf] at HF
    obtain ⟨q1, q2, q3⟩ := few_parts hf
    have HL := Lib.hid q1
    have HP := Lib.hid q2
    have HR := Lib.hid q3
    have HLT := Lib.hid (show s.cs.length < 10000 from by have := HL.out; omega)
    clear q1 q2 q3 hf
    go_enter Tryz.func4, Tryz.ntmps4
    go_upto_region 1 with (fail)
    generalize w.alloc _ = w1 at *
    go_wp2_with fail
    with_reducible refine (HAW.out _ HB.out).mono ?_
    rintro e w2 ⟨rfl, hb⟩
    have K2 := Lib.hid hb
    have X2 := Lib.hid (blk HX.out hb)
    have K2' := kept_hid HB hb
    have I2 := Lib.hid (HI.out.below hb)
    clear hb
    obtain ⟨c0, c1, c2, c3, c4, c5⟩ := cells6 X2.out
    go_wp2_with fail
    with_reducible refine (HF.out _ K2.out).mono ?_
    rintro e w3 ⟨rfl, hb⟩
    have K3 := kept_hid K2' hb
    have X3 := Lib.hid (blk X2.out hb)
    have I3 := Lib.hid (I2.out.below hb)
    clear hb c0 c1 c2 c3 c4 c5 K2 K2' X2 I2 HB HX HI HF
    clear HAW
    have Q1 := Lib.hid (reply_any s ad k 0 242 w3 I3.out HR.out H8.out (by have := HL.out; omega) (by decide))
    simp only [GaveB, show replyB s 242 0 = imageB s from by unfold replyB; rw [if_pos rfl], show replyE 242 0 = 0 from by unfold replyE; rw [if_pos rfl], show ((0 : Nat) : Int) = 0 from rfl] at Q1
    have HS := Lib.hid (image_sound H8.out HLT.out)
    have HMW := Lib.hid (show Str.cwrite ⟨241, false, false, false, image s⟩ s.cs.length = (imageB s, 0, -1) from by rw [imageB, image_write HR.out (by have := HL.out; omega)])
    have HBY := Lib.hid (Str.cwrite_bytes (x := ⟨241, false, false, false, image s⟩) (z := s.cs.length) (by have := HL.out; omega) HS.out)
    rw [HMW.out] at HBY
    replace HBY := Lib.hid (show (∀ y ∈ imageB s, y < 256) ∧ (imageB s).length ≤ 8192 from HBY.out)
    have HLN := Lib.hid (show (image s).length < 10000 from by have := image_len s; have := HL.out; omega)
    have HRD := Lib.hid fun W v kk (hB : BytesIn W (.slice v (imageB s).length kk) (imageB s)) (hn : v = none → (imageB s).length = 0 ∧ kk = 0) => Str.read_any v kk s.cs.length W hB HBY.out.1 hn (by have := HBY.out.2; omega)
    simp only [image_back HR.out (show s.cs.length ≤ 4000 from by have := HL.out; omega)] at HRD
    have HNW := Lib.hid fun W => new_yes s.rows s.cols s.cs.length W (sright_parts HR.out).1 (sright_parts HR.out).2.1.symm
    have HAL := Lib.hid fun W v kk v2 kk2 (hc : CelsIn W (.slice v s.cs.length kk) (List.replicate s.cs.length noC)) (ho : Str.OrdsIn W 0 (.slice v2 (image s).length kk2) (image s)) => Pnt.all_ok ⟨s.rows, s.cols, List.replicate s.cs.length noC, 0, false, false⟩ v kk 0 v2 (image s).length kk2 (image s) W (by simpa using hc) (empty_right HR.out) (empty_sound _) (by simpa using HLT.out) (by rw [List.length_replicate]; exact HP.out) ho HS.out HLN.out (by simpa using image_pwrong HR.out)
    have HCU : ((s.cur.toNat : Nat) : Int) = s.cur := by have := (sright_parts HR.out).2.2.1; omega
    simp only [List.length_replicate, pall_image HR.out, Gave, HCU, show ((0 : Nat) : Int) = 0 from rfl] at HAL
    clear HCU HMW HS
    have HSM := Lib.hid fun W v kk (h1 : CelsIn W (.slice v s.cs.length kk) s.cs) (h2 : CelsIn W (.slice ad s.cs.length k) s.cs) => rsame_any s.rows s.cols s.cur s.lk s.ins v s.cs.length kk ad s.cs.length k s.cs s.cs W h1 h2 (by have := HL.out; omega)
    rw [decide_eq_true rfl] at HSM
    generalize imageB s = bs at *
    generalize image s = os at *
    obtain ⟨c0, c1, c2, c3, c4, c5⟩ := cells6 X3.out
    go_wp2_with fail
    with_reducible refine Q1.out.mono ?_
    rintro e w4 ⟨va, vc, ev, rfl, ho, ht, hn, hb⟩
    obtain rfl := hn trivial
    have HRD4 := Lib.hid (HRD.out w4 va vc (own_bytes ho) (own_nil ho))
    have X4 := Lib.hid (blk X3.out hb)
    have I4 := Lib.hid (I3.out.below hb)
    have K4 := kept_hid K3 hb
    clear hb ho ht hn Q1 X3 I3 K3 HRD c0 c1 c2 c3 c4 c5
    obtain ⟨c0, c1, c2, c3, c4, c5⟩ := cells6 X4.out
    go_wp2_with fail
    with_reducible refine HRD4.out.mono ?_
    rintro e w5 ⟨oa, ok, oc, ev, rfl, hO, hb, hev, _⟩
    obtain rfl : ev = .nilIface := by
      rcases hev with ⟨_, h⟩ | ⟨h, _⟩
      · exact h
      · exact absurd rfl h
    obtain rfl : ok = os.length := hO.len
    have HA := al_any w5 (.cells #[.int .i64 241, .bool false, .bool false, .bool false, .slice oa os.length oc] 39)
    have Y6 := Lib.hid (heap_alloc_new w5 (.cells #[.int .i64 241, .bool false, .bool false, .bool false, .slice oa os.length oc] 39))
    have O6 := Lib.hid ((hO.below HA).mono (Nat.zero_le _))
    replace hb := kept_trans hb HA
    have X6 := Lib.hid (blk X4.out hb)
    have I6 := Lib.hid (I4.out.below hb)
    have K6 := kept_hid K4 hb
    clear hb hO hev HA X4 I4 K4 HRD4 c0 c1 c2 c3 c4 c5
    go_upto_region 5 with (fail)
    generalize w5.heap.size = N5 at *
    generalize w5.alloc _ = w6 at *
    obtain ⟨c0, c1, c2, c3, c4, c5⟩ := cells6 X6.out
    go_wp2_with fail
    with_reducible refine (HNW.out _).mono ?_
    rintro e w7 ⟨gt, rfl, hc, hb⟩
    have HA := al_any w7 (.cells #[.int .i64 s.rows, .int .i64 s.cols, .slice (some ⟨gt, 0, none⟩) s.cs.length s.cs.length, .int .i64 0, .bool false, .bool false] 24)
    have T8 := Lib.hid (heap_alloc_new w7 (.cells #[.int .i64 s.rows, .int .i64 s.cols, .slice (some ⟨gt, 0, none⟩) s.cs.length s.cs.length, .int .i64 0, .bool false, .bool false] 24))
    have C8 := Lib.hid (hc.to.below HA)
    replace hb := kept_trans hb HA
    have X8 := Lib.hid (blk X6.out hb)
    have Y8 := Lib.hid (blk Y6.out hb)
    have O8 := Lib.hid (O6.out.below hb)
    have I8 := Lib.hid (I6.out.below hb)
    have K8 := kept_hid K6 hb
    clear hb hc HA X6 Y6 O6 I6 K6 HNW c0 c1 c2 c3 c4 c5
    go_upto_region 6 with (fail)
    generalize w7.heap.size = N7 at *
    generalize w7.alloc _ = w8 at *
    have HAL8 := Lib.hid (HAL.out w8 _ _ _ _ C8.out O8.out)
    obtain ⟨c0, c1, c2, c3, c4, c5⟩ := cells6 T8.out
    obtain ⟨y0, y1, y2, y3, y4⟩ := Scr.cells5s Y8.out
    go_wp2_with fail
    with_reducible refine HAL8.out.mono ?_
    rintro e w9 ⟨vu, ku, rfl, hu, hb⟩
    have HA := al_any w9 (.cells #[.int .i64 s.rows, .int .i64 s.cols, .slice vu s.cs.length ku, .int .i64 s.cur, .bool false, .bool false] 24)
    have U9 := Lib.hid (heap_alloc_new w9 (.cells #[.int .i64 s.rows, .int .i64 s.cols, .slice vu s.cs.length ku, .int .i64 s.cur, .bool false, .bool false] 24))
    have V9 := Lib.hid (hu.to.below HA)
    have HN9b := Lib.hid (show w.heap.size < w9.heap.size from Nat.lt_of_lt_of_le (there_lt X8.out) hb.size)
    replace hb := kept_trans hb HA
    have X9 := Lib.hid (blk X8.out hb)
    have I9 := Lib.hid (I8.out.below hb)
    have K9 := kept_hid K8 hb
    clear hb hu HA X8 Y8 O8 I8 K8 T8 C8 HAL HAL8 c0 c1 c2 c3 c4 c5 y0 y1 y2 y3 y4
    go_upto_region 7 with (fail)
    generalize w9.heap.size = N9 at *
    generalize w9.alloc _ = wa at *
    obtain ⟨c0, c1, c2, c3, c4, c5⟩ := cells6 X9.out
    obtain ⟨u0, u1, u2, u3, u4, u5⟩ := cells6 U9.out
    obtain ⟨f0, f1, f2, f3, f4, f5⟩ := free6 U9.out
    have G6 := gtrans (gsetCell wa N9 4 (.bool s.lk)) (gsetCell _ N9 5 (.bool s.ins))
    have U6 := Lib.hid (heap_setCell_same _ N9 5 _ 24 (.bool s.ins) (heap_setCell_same wa N9 4 _ 24 (.bool s.lk) U9.out))
    have X6 := Lib.hid (blk_g X9.out G6 (by intro e; injection e with e; have := HN9b.out; omega))
    have I6 := Lib.hid (Scr.celsIn_away I9.out G6 (fun y hy => (Scr.not_screen I9.out HP.out U9.out y hy).1))
    have J6 := Lib.hid (Scr.celsIn_away V9.out G6 (fun y hy => (Scr.not_screen V9.out HP.out U9.out y hy).1))
    have K6 := Lib.hid (below_grown K9.out G6 (by have := HN9b.out; omega))
    clear G6
    go_upto_region 11 with (fail)
    clear f0 f1 f2 f3 f4 f5 u0 u1 u2 u3 u4 u5 c0 c1 c2 c3 c4 c5 X9 I9 V9 K9 U9
    generalize (World.setCell _ _ _).setCell _ _ = wb at *
    have HS6 := Lib.hid (HSM.out wb _ _ J6.out I6.out)
    obtain ⟨c0, c1, c2, c3, c4, c5⟩ := cells6 X6.out
    obtain ⟨u0, u1, u2, u3, u4, u5⟩ := cells6 U6.out
    go_wp2_with fail
    with_reducible refine HS6.out.mono ?_
    rintro e wc ⟨rfl, hb⟩
    have KF := kept_hid K6 hb
    clear hb
    go_wp2_with fail
    go_ret
    exact ⟨rfl, KF.out⟩
end Red
end Go.Proofs.YtpdlpmbjhopnnaaGreatDoor
