/- The law ReadReplies. Written by tools/gen_red_laws.py. -/
import Derived.Test.YtpdlpmbjhopnnaaGreatDoorRedAwake
import Derived.Test.YtpdlpmbjhopnnaaGreatDoorBunRdm
import Derived.Test.YtpdlpmbjhopnnaaGreatDoorBunRdc
import Derived.Test.YtpdlpmbjhopnnaaGreatDoorRedRiw
import Derived.Test.YtpdlpmbjhopnnaaGreatDoorRedRmod
import Derived.Test.YtpdlpmbjhopnnaaGreatDoorRedRimg
import Derived.Test.YtpdlpmbjhopnnaaGreatDoorBunStr
import Derived.Test.YtpdlpmbjhopnnaaGreatDoorStrLt
import Derived.Test.YtpdlpmbjhopnnaaGreatDoorBunInp
import Derived.Test.YtpdlpmbjhopnnaaGreatDoorBunBase
import Derived.Test.YtpdlpmbjhopnnaaGreatDoorBunRlg
import Derived.Test.YtpdlpmbjhopnnaaGreatDoorBunGrd
import Derived.Test.YtpdlpmbjhopnnaaGreatDoorOpnScr
import Derived.StillTailTactics
import Derived.Deep.Cut
import Derived.Deep.RegionHeld3
namespace Go.Proofs.YtpdlpmbjhopnnaaGreatDoor
open Go.RowKit Sha Six Apd Cut Err Att Grd Fld
set_option linter.unusedVariables false
namespace Red
set_option maxRecDepth 100000 in
set_option maxHeartbeats 8000000 in
theorem replies_law (s : S) (ad : Option Addr) (k : Nat) (cmd : Int) (aid : Int) (w : World) (h : CelsIn w (.slice ad s.cs.length k) s.cs) (hwf : Opn.Wf s.cs) (hm : s.cs.length ≤ maxLen) (wcmd : (Lit.int .i64 cmd).wf = true) (waid : (Lit.int .u8 aid).wf = true) (hg : Handle w) :
    Calls Tryz.prog 3 #[.agg #[.int .i64 s.rows, .int .i64 s.cols, .slice ad s.cs.length k, .int .i64 s.cur, .bool s.lk, .bool s.ins], .int .i64 cmd, .int .u8 aid] w fun e w' => e = .returned (.bool true) ∧ Below w.heap.size w w' := by
  obtain ⟨b0aid, b1aid⟩ := Go.Proofs.YtpdlpmbjhopnnaaGreatDoor.Ord.wf_u8 waid
  obtain ⟨aid, rfl⟩ := Int.eq_ofNat_of_zero_le b0aid
  have HBaid := Lib.hid (show aid < 256 by omega)
  have HG := Lib.hid fun W (hb : Below w.heap.size w W) => hand_of hg hb
  have HAW := Lib.hid fun W (hb : Below w.heap.size w W) => awake_any W (hand_of hg hb)
  have HB := Lib.hid (al_any w (.cells #[.int .i64 s.rows, .int .i64 s.cols, .slice ad s.cs.length k, .int .i64 s.cur, .bool s.lk, .bool s.ins] 24))
  have HX := Lib.hid (heap_alloc_new w (.cells #[.int .i64 s.rows, .int .i64 s.cols, .slice ad s.cs.length k, .int .i64 s.cur, .bool s.lk, .bool s.ins] 24))
  have HI := Lib.hid (h.below HB.out)
  have HF := Lib.hid fun W hb => rfew_any s ad k W (HI.out.below hb) (wf_sound hwf)
  have H8 := Lib.hid (wf_sound hwf)
  have HCO := Lib.hid fun W ev (c n : Int) (hb : Below w.heap.size w W) (ht : Err.Told W ev c n) => code_told ev c n W (hand_of hg hb) ht
  clear h hwf hm hg wcmd waid b0aid b1aid
  cases hf : few s with
  | false =>
    rw [hf] at HF
    go_enter Tryz.func3, Tryz.ntmps3
    go_upto_region 1 with (fail)
    generalize w.alloc _ = w1 at *
    go_wp2_with fail
    with_reducible refine (HAW.out _ HB.out).mono ?_
    rintro e w2 ⟨rfl, hb⟩
    have K2 := Lib.hid hb
    have X2 := Lib.hid (blk HX.out hb)
    have K2' := kept_hid HB hb
    have I2 := Lib.hid (HI.out.below hb)
    clear hb
    obtain ⟨c0, c1, c2, c3, c4, c5⟩ := cells6 X2.out
    go_wp2_with fail
    with_reducible refine (HF.out _ K2.out).mono ?_
    rintro e w3 ⟨rfl, hb⟩
    have K3 := kept_hid K2' hb
    have X3 := Lib.hid (blk X2.out hb)
    have I3 := Lib.hid (I2.out.below hb)
    clear hb c0 c1 c2 c3 c4 c5 K2 K2' X2 I2 HB HX HI HF
    go_wp2_with fail
    with_reducible refine (HAW.out _ K3.out).mono ?_
    rintro e w4 ⟨rfl, hb⟩
    have KE := kept_hid K3 hb
    clear hb
    go_wp2_with fail
    go_ret
    exact ⟨rfl, KE.out⟩
  | true =>
    rw [hf] at HF
    obtain ⟨q1, q2, q3⟩ := few_parts hf
    have HL := Lib.hid q1
    have HP := Lib.hid q2
    have HR := Lib.hid q3
    have HLT := Lib.hid (show s.cs.length < 10000 from by have := HL.out; omega)
    clear q1 q2 q3 hf
    go_enter Tryz.func3, Tryz.ntmps3
    go_upto_region 1 with (fail)
    generalize w.alloc _ = w1 at *
    go_wp2_with fail
    with_reducible refine (HAW.out _ HB.out).mono ?_
    rintro e w2 ⟨rfl, hb⟩
    have K2 := Lib.hid hb
    have X2 := Lib.hid (blk HX.out hb)
    have K2' := kept_hid HB hb
    have I2 := Lib.hid (HI.out.below hb)
    clear hb
    obtain ⟨c0, c1, c2, c3, c4, c5⟩ := cells6 X2.out
    go_wp2_with fail
    with_reducible refine (HF.out _ K2.out).mono ?_
    rintro e w3 ⟨rfl, hb⟩
    have K3 := kept_hid K2' hb
    have X3 := Lib.hid (blk X2.out hb)
    have I3 := Lib.hid (I2.out.below hb)
    clear hb c0 c1 c2 c3 c4 c5 K2 K2' X2 I2 HB HX HI HF
    clear HAW
    have HAD := Lib.hid fun W => raid_any aid W HBaid.out
    by_cases h2 : cmd = 242
    · subst h2
      have Q1 := Lib.hid (reply_any s ad k aid 242 w3 I3.out HR.out H8.out (by have := HL.out; omega) HBaid.out)
      simp only [GaveB] at Q1
      rw [show replyB s 242 aid = imageB s from by first | (unfold replyB; rw [if_pos rfl]) | (unfold replyE; rw [if_pos rfl]), show replyE 242 aid = 0 from by first | (unfold replyB; rw [if_pos rfl]) | (unfold replyE; rw [if_pos rfl])] at Q1
      have HMW := Lib.hid (show Str.cwrite ⟨241, false, false, false, image s⟩ s.cs.length = (imageB s, 0, -1) from by rw [imageB, image_write HR.out (by have := HL.out; omega)])
      have HS := Lib.hid (image_sound H8.out HLT.out)
      have HBY := Lib.hid (Str.cwrite_bytes (x := ⟨241, false, false, false, image s⟩) (z := s.cs.length) (by have := HL.out; omega) HS.out)
      rw [HMW.out] at HBY
      have HLN := Lib.hid (show (image s).length ≤ 10000 from by have := image_len s; have := HL.out; omega)
      have HWR := Lib.hid fun W v1 k1 (h1 : Str.OrdsIn W 0 (.slice v1 (image s).length k1) (image s)) => Str.rwrite_any ⟨241, false, false, false, image s⟩ v1 (image s).length k1 s.cs.length W h1 HS.out HLN.out (by have := HL.out; omega)
      simp only [HMW.out] at HWR
      obtain ⟨c0, c1, c2, c3, c4, c5⟩ := cells6 X3.out
      go_wp2_with fail
      with_reducible refine Q1.out.mono ?_
      rintro e w4 ⟨va, vc, ev, rfl, ho, ht, hn, hb⟩
      have O4 := Lib.hid ho
      have T4 := Lib.hid ht
      have X4 := Lib.hid (blk X3.out hb)
      have I4 := Lib.hid (I3.out.below hb)
      have K4 := kept_hid K3 hb
      obtain rfl := hn rfl
      clear hb ho ht hn Q1 X3 I3 K3 c0 c1 c2 c3 c4 c5
      have QI := Lib.hid fun W (hb : Below w4.heap.size w4 W) => rimage_any s ad k W (I4.out.below hb) HP.out HLT.out
      try simp only at HBY
      generalize imageB s = bs at *
      generalize image s = os at *
      clear HMW HS HLN
      have HSX := Lib.hid (show ∀ W', Below w4.heap.size w4 W' → Below w4.heap.size w4 W' ∧ (W'.cell? ⟨w.heap.size, 0, none⟩ = some (.int .i64 s.rows) ∧ W'.cell? ⟨w.heap.size, 1, none⟩ = some (.int .i64 s.cols) ∧ W'.cell? ⟨w.heap.size, 2, none⟩ = some (.slice ad s.cs.length k) ∧ W'.cell? ⟨w.heap.size, 3, none⟩ = some (.int .i64 s.cur) ∧ W'.cell? ⟨w.heap.size, 4, none⟩ = some (.bool s.lk) ∧ W'.cell? ⟨w.heap.size, 5, none⟩ = some (.bool s.ins)) from fun W' hW => ⟨hW, cells6 (blk X4.out hW)⟩)
      go_upto_region 5 with (fail)
      go_region_held3 (fun W' => Below w4.heap.size w4 W' ∧ (W'.cell? ⟨w.heap.size, 0, none⟩ = some (.int .i64 s.rows) ∧ W'.cell? ⟨w.heap.size, 1, none⟩ = some (.int .i64 s.cols) ∧ W'.cell? ⟨w.heap.size, 2, none⟩ = some (.slice ad s.cs.length k) ∧ W'.cell? ⟨w.heap.size, 3, none⟩ = some (.int .i64 s.cur) ∧ W'.cell? ⟨w.heap.size, 4, none⟩ = some (.bool s.lk) ∧ W'.cell? ⟨w.heap.size, 5, none⟩ = some (.bool s.ins)))
        ((refine HSX.out _ ?_; first | with_reducible exact (Below.refl _ _).drew | with_reducible exact (Below.refl _ _) | with_reducible exact (And.left (by assumption)) | with_reducible exact kept_trans (And.left (by assumption)) hbw | with_reducible exact kept_trans (And.left (by assumption)) hb))
        (first
          | (go_at_call 10; with_reducible refine (QI.out _ (And.left (by assumption))).mono ?_; rintro e wi ⟨vi, ki, rfl, hi, hb⟩)
          | (go_at_call 9; with_reducible refine (HWR.out _ _ _ (hi.to.mono (Nat.zero_le _))).mono ?_; rintro e wn ⟨v, rfl, hw, hbw⟩))
      have hS := And.left (by assumption : Below w4.heap.size w4 wn ∧ _)
      have K8 := kept_hid K4 hS
      have HSM := Lib.hid (Go.Proofs.YtpdlpmbjhopnnaaGreatDoor.Sam.same_any _ _ bs wn (bytes_below (own_bytes O4.out) hS) hw HBY.out.1 (by have := HBY.out.2; omega))
      clear hS
      go_wp2_with fail
      with_reducible refine HSM.out.mono ?_
      rintro e w9 ⟨rfl, j, rfl⟩
      go_wp2_with fail
      go_ret
      exact ⟨rfl, kept_trans K8.out (Six.below_drewN _ _ _)⟩
    · have e2 : (cmd == 242) = false := by simpa using h2
      by_cases h1 : cmd = 246
      · subst h1
        cases ha : Att.aid aid with
        | false =>
          rw [ha] at HAD
          have Q1 := Lib.hid (reply_any s ad k aid 246 w3 I3.out HR.out H8.out (by have := HL.out; omega) HBaid.out)
          simp only [GaveB] at Q1
          rw [show replyB s 246 aid = [] from by first | (unfold replyB; rw [if_neg (by decide), if_pos rfl, ha]; rfl) | (unfold replyE asksE; rw [if_neg (by decide), if_pos rfl, ha]; rfl), show replyE 246 aid = 3 from by first | (unfold replyB; rw [if_neg (by decide), if_pos rfl, ha]; rfl) | (unfold replyE asksE; rw [if_neg (by decide), if_pos rfl, ha]; rfl)] at Q1
          obtain ⟨c0, c1, c2, c3, c4, c5⟩ := cells6 X3.out
          go_wp2_with fail
          with_reducible refine Q1.out.mono ?_
          rintro e w4 ⟨va, vc, ev, rfl, ho, ht, hn, hb⟩
          have O4 := Lib.hid ho
          have T4 := Lib.hid ht
          have X4 := Lib.hid (blk X3.out hb)
          have I4 := Lib.hid (I3.out.below hb)
          have K4 := kept_hid K3 hb
          clear hb ho ht hn Q1 X3 I3 K3 c0 c1 c2 c3 c4 c5
          clear ha
          go_wp2_with fail
          with_reducible refine (HAD.out _).mono ?_
          rintro e w6 ⟨rfl, rfl⟩
          go_wp2_with fail
          with_reducible refine (HCO.out _ _ _ _ K4.out T4.out).mono ?_
          rintro e w7 ⟨rfl, hb⟩
          have K7 := kept_hid K4 hb
          clear hb
          go_wp2_with fail
          go_ret
          exact ⟨rfl, K7.out⟩
        | true =>
          rw [ha] at HAD
          have Q1 := Lib.hid (reply_any s ad k aid 246 w3 I3.out HR.out H8.out (by have := HL.out; omega) HBaid.out)
          simp only [GaveB] at Q1
          rw [show replyB s 246 aid = Inp.ibytes (modified s aid) s.cs.length from by first | (unfold replyB; rw [if_neg (by decide), if_pos rfl, ha]; rfl) | (unfold replyE asksE; rw [if_neg (by decide), if_pos rfl, ha]; rfl), show replyE 246 aid = 0 from by first | (unfold replyB; rw [if_neg (by decide), if_pos rfl, ha]; rfl) | (unfold replyE asksE; rw [if_neg (by decide), if_pos rfl, ha]; rfl)] at Q1
          have HMW := Lib.hid (modified_write HR.out (by have := HL.out; omega) ha)
          have HMR := Lib.hid (modified_right HR.out ha)
          have HS := Lib.hid (modified_sound H8.out HLT.out aid)
          have HAI := Lib.hid (show (modified s aid).aid < 256 from by unfold modified; split <;> exact HBaid.out)
          have HBY := Inp.iwrite_bytes (x := modified s aid) (z := s.cs.length) (by have := HL.out; omega) HAI.out HS.out
          rw [HMW.out] at HBY
          replace HBY := Lib.hid HBY
          obtain ⟨hm1, hm2, hm3⟩ := modified_ok (c := aid) HR.out HP.out
          have HC0 := Lib.hid hm1
          have HC1 := Lib.hid hm2
          have HFA := Lib.hid hm3
          have HFW := Lib.hid (show (modified s aid).fs.length < 1000000 from by have := modified_few s aid HP.out; have := HL.out; omega)
          obtain ⟨c0, c1, c2, c3, c4, c5⟩ := cells6 X3.out
          go_wp2_with fail
          with_reducible refine Q1.out.mono ?_
          rintro e w4 ⟨va, vc, ev, rfl, ho, ht, hn, hb⟩
          have O4 := Lib.hid ho
          have T4 := Lib.hid ht
          have X4 := Lib.hid (blk X3.out hb)
          have I4 := Lib.hid (I3.out.below hb)
          have K4 := kept_hid K3 hb
          obtain rfl := hn rfl
          clear hb ho ht hn Q1 X3 I3 K3 c0 c1 c2 c3 c4 c5
          have QM := Lib.hid fun W (hb : Below w4.heap.size w4 W) => rmodified_any s ad k aid W (I4.out.below hb) HP.out HLT.out H8.out HBaid.out
          simp only [GaveI] at QM
          try simp only at HBY
          have HWR := Lib.hid fun W v1 k1 b (h1 : Inp.FldsIn W b (.slice v1 (modified s aid).fs.length k1) (modified s aid).fs) => riwrite_any (modified s aid) v1 k1 s.cs.length b W h1 HFW.out (by have := HL.out; omega) HC0.out HC1.out HFA.out HAI.out (by have := HBY.out.2; omega)
          clear HMW HMR HS HC0 HC1 HFA HFW ha hm1 hm2 hm3
          generalize Inp.ibytes (modified s aid) s.cs.length = bs at *
          generalize modified s aid = i at *
          have HSM := Lib.hid fun W v2 (h0 : Below w4.heap.size w4 W) (h2 : BytesIn W v2 bs) => Go.Proofs.YtpdlpmbjhopnnaaGreatDoor.Sam.same_any _ v2 bs W (bytes_below (own_bytes O4.out) h0) h2 HBY.out.1 (by have := HBY.out.2; omega)
          go_wp2_with fail
          with_reducible refine (HAD.out _).mono ?_
          rintro e w6 ⟨rfl, rfl⟩
          have HSX := Lib.hid (show ∀ W', Below w4.heap.size w4 W' → Below w4.heap.size w4 W' ∧ (W'.cell? ⟨w.heap.size, 0, none⟩ = some (.int .i64 s.rows) ∧ W'.cell? ⟨w.heap.size, 1, none⟩ = some (.int .i64 s.cols) ∧ W'.cell? ⟨w.heap.size, 2, none⟩ = some (.slice ad s.cs.length k) ∧ W'.cell? ⟨w.heap.size, 3, none⟩ = some (.int .i64 s.cur) ∧ W'.cell? ⟨w.heap.size, 4, none⟩ = some (.bool s.lk) ∧ W'.cell? ⟨w.heap.size, 5, none⟩ = some (.bool s.ins)) from fun W' hW => ⟨hW, cells6 (blk X4.out hW)⟩)
          go_upto_region 11 with (fail)
          go_region_held3 (fun W' => Below w4.heap.size w4 W' ∧ (W'.cell? ⟨w.heap.size, 0, none⟩ = some (.int .i64 s.rows) ∧ W'.cell? ⟨w.heap.size, 1, none⟩ = some (.int .i64 s.cols) ∧ W'.cell? ⟨w.heap.size, 2, none⟩ = some (.slice ad s.cs.length k) ∧ W'.cell? ⟨w.heap.size, 3, none⟩ = some (.int .i64 s.cur) ∧ W'.cell? ⟨w.heap.size, 4, none⟩ = some (.bool s.lk) ∧ W'.cell? ⟨w.heap.size, 5, none⟩ = some (.bool s.ins)))
            ((refine HSX.out _ ?_; first | with_reducible exact (Below.refl _ _).drew | with_reducible exact (Below.refl _ _) | with_reducible exact (And.left (by assumption)) | with_reducible exact kept_trans (And.left (by assumption)) (Six.below_drewN _ _ _) | with_reducible exact kept_trans (And.left (by assumption)) hbw | with_reducible exact kept_trans (And.left (by assumption)) hb))
            (first
              | (go_at_call 15; with_reducible refine (QM.out _ (And.left (by assumption))).mono ?_; rintro e wi ⟨vi, ki, rfl, hi, hb⟩)
              | (go_at_call 14; with_reducible refine (HWR.out _ _ _ 0 (hi.to.mono (Nat.zero_le _))).mono ?_; rintro e wn ⟨rb, kb, rfl, hw, hbw⟩)
              | (go_at_call 11; with_reducible refine (HSM.out _ _ (And.left (by assumption)) (own_bytes hw)).mono ?_; rintro e w9 ⟨rfl, j, rfl⟩))
          have hS := And.left (by assumption : Below w4.heap.size w4 (wn.drewN j) ∧ _)
          have K8 := kept_hid K4 hS
          clear hS
          go_wp2_with fail
          go_ret
          first | exact ⟨rfl, K8.out⟩ | exact ⟨rfl, kept_trans K8.out (Six.below_drewN _ _ _)⟩
      · have e1 : (cmd != 246) = true := by simpa using h1
        have Q1 := Lib.hid (reply_any s ad k aid cmd w3 I3.out HR.out H8.out (by have := HL.out; omega) HBaid.out)
        simp only [GaveB] at Q1
        rw [show replyB s cmd aid = [] from by first | (unfold replyB; rw [if_neg h2, if_neg h1]) | (unfold replyE; rw [if_neg h2, if_neg h1]), show replyE cmd aid = 5 from by first | (unfold replyB; rw [if_neg h2, if_neg h1]) | (unfold replyE; rw [if_neg h2, if_neg h1])] at Q1
        obtain ⟨c0, c1, c2, c3, c4, c5⟩ := cells6 X3.out
        go_wp2_with fail
        with_reducible refine Q1.out.mono ?_
        rintro e w4 ⟨va, vc, ev, rfl, ho, ht, hn, hb⟩
        have O4 := Lib.hid ho
        have T4 := Lib.hid ht
        have X4 := Lib.hid (blk X3.out hb)
        have I4 := Lib.hid (I3.out.below hb)
        have K4 := kept_hid K3 hb
        clear hb ho ht hn Q1 X3 I3 K3 c0 c1 c2 c3 c4 c5
        clear h1 h2
        go_wp2_with fail
        with_reducible refine (HCO.out _ _ _ _ K4.out T4.out).mono ?_
        rintro e w7 ⟨rfl, hb⟩
        have K7 := kept_hid K4 hb
        clear hb
        go_wp2_with fail
        go_ret
        exact ⟨rfl, K7.out⟩
end Red
end Go.Proofs.YtpdlpmbjhopnnaaGreatDoor
