/- The law ReadTells. Written by tools/gen_red_zd.py. -/
import Derived.Test.YtpdlpmbjhopnnaaGreatDoorRedAwake
import Derived.Test.YtpdlpmbjhopnnaaGreatDoorBunRdc
import Derived.Test.YtpdlpmbjhopnnaaGreatDoorBunRdm
import Derived.Test.YtpdlpmbjhopnnaaGreatDoorBunInr
import Derived.Test.YtpdlpmbjhopnnaaGreatDoorBunInp
import Derived.Test.YtpdlpmbjhopnnaaGreatDoorInpSame
import Derived.Test.YtpdlpmbjhopnnaaGreatDoorBunInp
import Derived.Test.YtpdlpmbjhopnnaaGreatDoorBunRlg
import Derived.Test.YtpdlpmbjhopnnaaGreatDoorBunGrd
import Derived.Test.YtpdlpmbjhopnnaaGreatDoorOpnScr
import Derived.StillTailTactics
import Derived.Deep.Cut
import Derived.Deep.RegionHeld3
namespace Go.Proofs.YtpdlpmbjhopnnaaGreatDoor
open Go.RowKit Sha Six Apd Cut Err Att Grd Fld Pnt
set_option linter.unusedVariables false
namespace Red
set_option maxRecDepth 100000 in
set_option maxHeartbeats 8000000 in
theorem tells_law (s : S) (ad : Option Addr) (k : Nat) (aid : Int) (w : World) (h : CelsIn w (.slice ad s.cs.length k) s.cs) (hwf : Opn.Wf s.cs) (hm : s.cs.length ≤ maxLen) (waid : (Lit.int .u8 aid).wf = true) (hg : Handle w) :
    Calls Tryz.prog 5 #[.agg #[.int .i64 s.rows, .int .i64 s.cols, .slice ad s.cs.length k, .int .i64 s.cur, .bool s.lk, .bool s.ins], .int .u8 aid] w fun e w' => e = .returned (.bool true) ∧ Below w.heap.size w w' := by
  obtain ⟨b0aid, b1aid⟩ := Go.Proofs.YtpdlpmbjhopnnaaGreatDoor.Ord.wf_u8 waid
  obtain ⟨aid, rfl⟩ := Int.eq_ofNat_of_zero_le b0aid
  have HBaid := Lib.hid (show aid < 256 by omega)
  have HG := Lib.hid fun W (hb : Below w.heap.size w W) => hand_of hg hb
  have HAW := Lib.hid fun W (hb : Below w.heap.size w W) => awake_any W (hand_of hg hb)
  have HB := Lib.hid (al_any w (.cells #[.int .i64 s.rows, .int .i64 s.cols, .slice ad s.cs.length k, .int .i64 s.cur, .bool s.lk, .bool s.ins] 24))
  have HX := Lib.hid (heap_alloc_new w (.cells #[.int .i64 s.rows, .int .i64 s.cols, .slice ad s.cs.length k, .int .i64 s.cur, .bool s.lk, .bool s.ins] 24))
  have HI := Lib.hid (h.below HB.out)
  have HF := Lib.hid fun W hb => rfew_any s ad k W (HI.out.below hb) (wf_sound hwf)
  have H8 := Lib.hid (wf_sound hwf)
  have HAW2 := Lib.hid fun W (hb : Below w.heap.size w W) => awake_any W (hand_of hg hb)
  have HAD := Lib.hid fun W => raid_any aid W HBaid.out
  clear h hwf hm hg waid b0aid b1aid
  cases hf : few s with
  | false =>
    rw [hf] at HF
    go_enter Tryz.func5, Tryz.ntmps5
    go_upto_region 1 with (fail)
    generalize w.alloc _ = w1 at *
    go_wp2_with fail
    with_reducible refine (HAW.out _ HB.out).mono ?_
    rintro e w2 ⟨rfl, hb⟩
    have K2 := Lib.hid hb
    have X2 := Lib.hid (blk HX.out hb)
    have K2' := kept_hid HB hb
    have I2 := Lib.hid (HI.out.below hb)
    clear hb
    obtain ⟨c0, c1, c2, c3, c4, c5⟩ := cells6 X2.out
    go_wp2_with fail
    with_reducible refine (HF.out _ K2.out).mono ?_
    rintro e w3 ⟨rfl, hb⟩
    have K3 := kept_hid K2' hb
    have X3 := Lib.hid (blk X2.out hb)
    have I3 := Lib.hid (I2.out.below hb)
    clear hb c0 c1 c2 c3 c4 c5 K2 K2' X2 I2 HB HX HI HF
    go_wp2_with fail
    with_reducible refine (HAW.out _ K3.out).mono ?_
    rintro e w4 ⟨rfl, hb⟩
    have KE := kept_hid K3 hb
    clear hb
    go_wp2_with fail
    go_ret
    exact ⟨rfl, KE.out⟩
  | true =>
    rw [hf] at HF
    obtain ⟨q1, q2, q3⟩ := few_parts hf
    have HL := Lib.hid q1
    have HP := Lib.hid q2
    have HR := Lib.hid q3
    have HLT := Lib.hid (show s.cs.length < 10000 from by have := HL.out; omega)
    clear q1 q2 q3 hf
    go_enter Tryz.func5, Tryz.ntmps5
    go_upto_region 1 with (fail)
    generalize w.alloc _ = w1 at *
    go_wp2_with fail
    with_reducible refine (HAW.out _ HB.out).mono ?_
    rintro e w2 ⟨rfl, hb⟩
    have K2 := Lib.hid hb
    have X2 := Lib.hid (blk HX.out hb)
    have K2' := kept_hid HB hb
    have I2 := Lib.hid (HI.out.below hb)
    clear hb
    obtain ⟨c0, c1, c2, c3, c4, c5⟩ := cells6 X2.out
    go_wp2_with fail
    with_reducible refine (HF.out _ K2.out).mono ?_
    rintro e w3 ⟨rfl, hb⟩
    have K3 := kept_hid K2' hb
    have X3 := Lib.hid (blk X2.out hb)
    have I3 := Lib.hid (I2.out.below hb)
    clear hb c0 c1 c2 c3 c4 c5 K2 K2' X2 I2 HB HX HI HF
    clear HAW
    cases ha : Att.aid aid with
    | false =>
      rw [ha] at HAD
      clear ha
      go_wp2_with fail
      with_reducible refine (HAD.out _).mono ?_
      rintro e w4 ⟨rfl, rfl⟩
      go_wp2_with fail
      with_reducible refine (HAW2.out _ K3.out).mono ?_
      rintro e w4 ⟨rfl, hb⟩
      have KE := kept_hid K3 hb
      clear hb
      go_wp2_with fail
      go_ret
      exact ⟨rfl, KE.out⟩
    | true =>
      rw [ha] at HAD
      have H27 := Lib.hid (show s.cs.length ≤ 2700 from by have := HL.out; omega)
      have Q1 := Lib.hid (modified_any s ad k aid w3 I3.out HP.out HLT.out H8.out HR.out HBaid.out)
      have Q2 := Lib.hid fun W (hc : CelsIn W (.slice ad s.cs.length k) s.cs) => reply_any s ad k aid 246 W hc HR.out H8.out H27.out HBaid.out
      rw [(asks_yes (s := s) ha).1, (asks_yes (s := s) ha).2] at Q1
      simp only [GaveB, show replyB s 246 aid = Inp.ibytes (modified s aid) s.cs.length from by unfold replyB; rw [if_neg (by decide), if_pos rfl, ha]; rfl, show replyE 246 aid = 0 from by unfold replyE asksE; rw [if_neg (by decide), if_pos rfl, ha]; rfl, show ((0 : Nat) : Int) = 0 from rfl] at Q2
      simp only [GaveM, show Scr.errn 0 = .nilIface from rfl] at Q1
      have HS := Lib.hid (modified_sound H8.out HLT.out aid)
      have HAI := Lib.hid (show (modified s aid).aid < 256 from by unfold modified; split <;> exact HBaid.out)
      have HMW := Lib.hid (modified_write HR.out H27.out ha)
      have HBY := Inp.iwrite_bytes (x := modified s aid) (z := s.cs.length) (by have := HL.out; omega) HAI.out HS.out
      rw [HMW.out] at HBY
      replace HBY := Lib.hid (show (∀ y ∈ Inp.ibytes (modified s aid) s.cs.length, y < 256) ∧ (Inp.ibytes (modified s aid) s.cs.length).length ≤ 8192 from HBY)
      have HFW := Lib.hid (show (modified s aid).fs.length < 1000000 from by have := modified_few s aid HP.out; have := HL.out; omega)
      have HRD := Lib.hid fun W (hb : Below w.heap.size w W) v n kk (hB : BytesIn W (.slice v n kk) (Inp.ibytes (modified s aid) s.cs.length)) (hn : v = none → n = 0 ∧ kk = 0) => Inp.read_any v n kk s.cs.length W (HG.out W hb) hB HBY.out.1 hn (by have := HBY.out.2; omega) (modified s aid, 0, -1) (modified_read HR.out H27.out ha).symm
      simp only [Inp.errR, if_true] at HRD
      have HRI := Lib.hid fun W v n kk (h1 : Inp.FldsIn W 0 (.slice v n kk) (modified s aid).fs) => Inp.right_any (modified s aid) v n kk s.cs.length W HAI.out h1 HS.out HFW.out (by have := HP.out; omega) (by have := HL.out; omega) (0, -1) (modified_right HR.out ha).symm
      simp only [Inp.Said] at HRI
      have HIS := Lib.hid fun W v1 n1 k1 v2 n2 k2 (h1 : Inp.FldsIn W 0 (.slice v1 n1 k1) (modified s aid).fs) (h2 : Inp.FldsIn W 0 (.slice v2 n2 k2) (modified s aid).fs) => Inp.isame_any (modified s aid) (modified s aid) v1 n1 k1 v2 n2 k2 W h1 h2 HS.out HS.out HFW.out
      rw [Inp.isame_self] at HIS
      have HRB := Lib.hid fun W => rbare_any aid W HBaid.out
      have HBA := Lib.hid fun (hb : Att.bare aid = true) => (show (modified s aid).fs.length = 0 from by rw [modified_bare s aid hb]; rfl)
      have HCT := Lib.hid fun (hb : Att.bare aid = false) (hf : fmt s.cs = true) => (show (modified s aid).fs.length = cnt (fun j => fat s.cs j && (s.cs.getD j noC).m) s.cs.length from by rw [modified_count s aid hb, if_pos hf])
      clear HMW HS HAI
      generalize Inp.ibytes (modified s aid) s.cs.length = bs at *
      generalize modified s aid = i at *
      clear ha HAW2
      go_wp2_with fail
      with_reducible refine (HAD.out _).mono ?_
      rintro e w4 ⟨rfl, rfl⟩
      obtain ⟨c0, c1, c2, c3, c4, c5⟩ := cells6 X3.out
      go_wp2_with fail
      with_reducible refine Q1.out.mono ?_
      rintro e w4 ⟨va, vc, rfl, ho, hb⟩
      have HA := al_any w4 (.cells #[.int .u8 (i.aid : Int), .int .i64 i.cur, .slice va i.fs.length vc] 46)
      have Y5 := Lib.hid (heap_alloc_new w4 (.cells #[.int .u8 (i.aid : Int), .int .i64 i.cur, .slice va i.fs.length vc] 46))
      have O5 := Lib.hid ((ho.to.below HA).mono (Nat.zero_le _))
      replace hb := kept_trans hb HA
      have X5 := Lib.hid (blk X3.out hb)
      have I5 := Lib.hid (I3.out.below hb)
      have K5 := kept_hid K3 hb
      clear HA hb ho Q1 X3 I3 K3 HAD c0 c1 c2 c3 c4 c5
      go_upto_region 4 with (fail)
      generalize w4.heap.size = N4 at *
      generalize w4.alloc _ = w5 at *
      have Q5 := Lib.hid (Q2.out w5 I5.out)
      obtain ⟨c0, c1, c2, c3, c4, c5⟩ := cells6 X5.out
      go_wp2_with fail
      with_reducible refine Q5.out.mono ?_
      rintro e w6 ⟨vb, kb, ev, rfl, ho, ht, hn, hb⟩
      obtain rfl := hn trivial
      have B6 := Lib.hid (own_bytes ho)
      have N6 := Lib.hid (own_nil ho)
      have X6 := Lib.hid (blk X5.out hb)
      have Y6 := Lib.hid (blk Y5.out hb)
      have O6 := Lib.hid (O5.out.below hb)
      have I6 := Lib.hid (I5.out.below hb)
      have K6 := kept_hid K5 hb
      clear hb ho ht hn Q5 Q2 X5 Y5 O5 I5 K5 c0 c1 c2 c3 c4 c5
      have Q6 := Lib.hid (HRD.out w6 K6.out _ _ _ B6.out N6.out)
      obtain ⟨c0, c1, c2, c3, c4, c5⟩ := cells6 X6.out
      go_wp2_with fail
      with_reducible refine Q6.out.mono ?_
      rintro e w7 ⟨oa, ok, oc, bb, rfl, hO, _, hb⟩
      obtain rfl : ok = i.fs.length := hO.len
      have HA := al_any w7 (.cells #[.int .u8 (i.aid : Int), .int .i64 i.cur, .slice oa i.fs.length oc] 46)
      have Z8 := Lib.hid (heap_alloc_new w7 (.cells #[.int .u8 (i.aid : Int), .int .i64 i.cur, .slice oa i.fs.length oc] 46))
      have P8 := Lib.hid ((hO.below HA).mono (Nat.zero_le _))
      replace hb := kept_trans hb HA
      have X8 := Lib.hid (blk X6.out hb)
      have Y8 := Lib.hid (blk Y6.out hb)
      have O8 := Lib.hid (O6.out.below hb)
      have I8 := Lib.hid (I6.out.below hb)
      have K8 := kept_hid K6 hb
      clear HA hb hO Q6 HRD B6 N6 X6 Y6 O6 I6 K6 c0 c1 c2 c3 c4 c5
      go_upto_region 6 with (fail)
      generalize w7.heap.size = N7 at *
      generalize w7.alloc _ = w8 at *
      have Q8 := Lib.hid (HIS.out w8 _ _ _ _ _ _ P8.out O8.out)
      obtain ⟨c0, c1, c2, c3, c4, c5⟩ := cells6 X8.out
      obtain ⟨y0, y1, y2⟩ := cells3 Y8.out
      obtain ⟨z0, z1, z2⟩ := cells3 Z8.out
      go_wp2_with fail
      with_reducible refine Q8.out.mono ?_
      rintro e w9 ⟨rfl, hb⟩
      have X9 := Lib.hid (blk X8.out hb)
      have Y9 := Lib.hid (blk Y8.out hb)
      have O9 := Lib.hid (O8.out.below hb)
      have I9 := Lib.hid (I8.out.below hb)
      have K9 := kept_hid K8 hb
      clear hb Q8 HIS X8 Y8 Z8 P8 O8 I8 K8 c0 c1 c2 c3 c4 c5 y0 y1 y2 z0 z1 z2
      have Q9 := Lib.hid (HRI.out w9 _ _ _ O9.out)
      obtain ⟨c0, c1, c2, c3, c4, c5⟩ := cells6 X9.out
      obtain ⟨y0, y1, y2⟩ := cells3 Y9.out
      go_wp2_with fail
      with_reducible refine Q9.out.mono ?_
      rintro e wa ⟨ev, rfl, hb, hsd⟩
      obtain rfl : ev = .nilIface := by
        rcases hsd with ⟨_, h⟩ | ⟨h, _⟩
        · exact h
        · exact absurd rfl h
      have XA := Lib.hid (blk X9.out hb)
      have YA := Lib.hid (blk Y9.out hb)
      have IA := Lib.hid (I9.out.below hb)
      have KA := kept_hid K9 hb
      clear hb hsd Q9 HRI X9 Y9 O9 I9 K9 c0 c1 c2 c3 c4 c5 y0 y1 y2
      have HBR := Lib.hid (show ∀ j, j < s.cs.length → (fun j => fat s.cs j && (s.cs.getD j noC).m) j = (fat s.cs j && (s.cs.getD j noC).m) from fun _ _ => rfl)
      go_wp2_with fail
      go_loopg [11, 12, 13] (s.cs.length + 1) (fun mm nn ff ii wr => ∃ (q n : Nat) (fl : Bool), q ≤ s.cs.length ∧ mm = s.cs.length + 1 - q ∧ ii = .int .i64 q ∧ nn = .int .i64 n ∧ ff = .bool fl ∧ Hid (n = cnt (fun j => fat s.cs j && (s.cs.getD j noC).m) q) ∧ Hid (fl = (s.cs.take q).any (·.f)) ∧ Hid (n ≤ q) ∧ wr = wa)
      case atStart => exact ⟨0, 0, false, Nat.zero_le _, rfl, rfl, rfl, rfl, Lib.hid rfl, Lib.hid rfl, Lib.hid (Nat.le_refl _), rfl⟩
      case round =>
        obtain ⟨q, n, fl, hq, rfl, rfl, rfl, rfl, HNC, HFL, HNQ, rfl⟩ := hrel
        have ew : IntKind.i64.wrap ((q : Int) + 1) = (q : Int) + 1 := by
          have := HL.out
          rw [IntWalk.i64_in] <;> omega
        have ewn : IntKind.i64.wrap ((n : Int) + 1) = (n : Int) + 1 := by
          have := HL.out; have := HNQ.out
          rw [IntWalk.i64_in] <;> omega
        obtain ⟨c0, c1, c2, c3, c4, c5⟩ := cells6 XA.out
        by_cases hlt : q < s.cs.length
        · have HQ := Lib.hid hlt
          have hi0 : (0 : Int) ≤ (q : Int) := by omega
          have hi1 : (q : Int) < (s.cs.length : Int) := by omega
          obtain ⟨yf, yp, yn, ys, ym, yc, ey⟩ := c_eta (s.cs.getD q noC)
          obtain ⟨b1, o1, had, g0, g1, g2, g3, g4, g5⟩ := IA.out.cells hlt ey
          have HT := take_any hlt
          have HC := cnt_next (fun j => fat s.cs j && (s.cs.getD j noC).m) q
          have hfa : fat s.cs q = yf := by unfold fat; rw [ey]
          rw [hfa, ← HFL.out] at HT
          simp only [hfa, ey] at HC
          rw [← HNC.out] at HC
          subst had
          clear hlt hq hfa ey HNC HFL
          replace HT := Lib.hid HT
          cases yf with
          | false =>
            simp only [Bool.false_and, Bool.false_eq_true, if_false] at HC
            replace HC := Lib.hid HC
            rw [Bool.or_false] at HT
            cases fl with
            | false =>
              go_wp2_with fail
              go_roundg (s.cs.length + 1 - (q + 1))
              case measure => have := HQ.out; omega
              case rel => exact ⟨q + 1, n, false, HQ.out, rfl, by first | rfl | go_num, by first | rfl | go_num, rfl, Lib.hid HC.out.symm, Lib.hid HT.out.symm, Lib.hid (by have := HNQ.out; omega), rfl⟩
            | true =>
              go_wp2_with fail
              go_roundg (s.cs.length + 1 - (q + 1))
              case measure => have := HQ.out; omega
              case rel => exact ⟨q + 1, n, true, HQ.out, rfl, by first | rfl | go_num, by first | rfl | go_num, rfl, Lib.hid HC.out.symm, Lib.hid HT.out.symm, Lib.hid (by have := HNQ.out; omega), rfl⟩
          | true =>
            rw [Bool.or_true] at HT
            cases ym with
            | false =>
              simp only [Bool.and_false, Bool.false_eq_true, if_false] at HC
              replace HC := Lib.hid HC
              cases fl with
              | false =>
                go_wp2_with fail
                go_roundg (s.cs.length + 1 - (q + 1))
                case measure => have := HQ.out; omega
                case rel => exact ⟨q + 1, n, true, HQ.out, rfl, by first | rfl | go_num, by first | rfl | go_num, rfl, Lib.hid HC.out.symm, Lib.hid HT.out.symm, Lib.hid (by have := HNQ.out; omega), rfl⟩
              | true =>
                go_wp2_with fail
                go_roundg (s.cs.length + 1 - (q + 1))
                case measure => have := HQ.out; omega
                case rel => exact ⟨q + 1, n, true, HQ.out, rfl, by first | rfl | go_num, by first | rfl | go_num, rfl, Lib.hid HC.out.symm, Lib.hid HT.out.symm, Lib.hid (by have := HNQ.out; omega), rfl⟩
            | true =>
              simp only [if_true, Bool.and_self] at HC
              replace HC := Lib.hid HC
              cases fl with
              | false =>
                go_wp2_with fail
                go_roundg (s.cs.length + 1 - (q + 1))
                case measure => have := HQ.out; omega
                case rel => exact ⟨q + 1, n + 1, true, HQ.out, rfl, by first | rfl | go_num, by first | rfl | go_num, rfl, Lib.hid HC.out.symm, Lib.hid HT.out.symm, Lib.hid (by have := HNQ.out; omega), rfl⟩
              | true =>
                go_wp2_with fail
                go_roundg (s.cs.length + 1 - (q + 1))
                case measure => have := HQ.out; omega
                case rel => exact ⟨q + 1, n + 1, true, HQ.out, rfl, by first | rfl | go_num, by first | rfl | go_num, rfl, Lib.hid HC.out.symm, Lib.hid HT.out.symm, Lib.hid (by have := HNQ.out; omega), rfl⟩
        · obtain rfl : q = s.cs.length := by omega
          have hn0 : ¬ (s.cs.length : Int) < (s.cs.length : Int) := by omega
          rw [List.take_length] at HFL
          have HFL := Lib.hid (show fl = fmt s.cs from HFL.out)
          obtain ⟨y0, y1, y2⟩ := cells3 YA.out
          clear hlt hq
          cases hb : Att.bare aid with
          | true =>
            have hl0 := HBA.out hb
            have he : ((i.fs.length : Int) == 0) = true := by rw [hl0]; rfl
            rw [hb] at HRB
            clear hb
            go_wp2_with fail
            with_reducible refine (HRB.out _).mono ?_
            rintro e wf ⟨rfl, rfl⟩
            go_wp2_with fail
            go_ret
            exact ⟨rfl, KA.out⟩
          | false =>
            rw [hb] at HRB
            cases fl with
            | false =>
              clear hb
              go_wp2_with fail
              with_reducible refine (HRB.out _).mono ?_
              rintro e wf ⟨rfl, rfl⟩
              go_wp2_with fail
              with_reducible refine (HRB.out _).mono ?_
              rintro e wf ⟨rfl, rfl⟩
              go_wp2_with fail
              go_ret
              exact ⟨rfl, KA.out⟩
            | true =>
              have hcn := HCT.out hb HFL.out.symm
              rw [← HNC.out] at hcn
              have he : ((i.fs.length : Int) == (n : Int)) = true := by rw [hcn]; simp
              clear hb hcn
              go_wp2_with fail
              with_reducible refine (HRB.out _).mono ?_
              rintro e wf ⟨rfl, rfl⟩
              go_wp2_with fail
              with_reducible refine (HRB.out _).mono ?_
              rintro e wf ⟨rfl, rfl⟩
              go_wp2_with fail
              go_ret
              exact ⟨rfl, KA.out⟩
end Red
end Go.Proofs.YtpdlpmbjhopnnaaGreatDoor
