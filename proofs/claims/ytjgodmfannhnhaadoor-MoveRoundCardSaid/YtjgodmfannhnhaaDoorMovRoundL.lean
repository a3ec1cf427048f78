/- The law MoveRound. Written by tools/gen_mov_laws.py. -/
import Derived.Test.YtjgodmfannhnhaaDoorMovAwake
import Derived.Test.YtjgodmfannhnhaaDoorMovRef
import Derived.Test.YtjgodmfannhnhaaDoorBunGrd
import Derived.Test.YtjgodmfannhnhaaDoorBunGrd
import Derived.Test.YtjgodmfannhnhaaDoorOpnScr
import Derived.Test.YtjgodmfannhnhaaDoorMovMore
import Derived.Test.YtjgodmfannhnhaaDoorBunGrd
import Derived.OwnWalk
import Derived.Deep.LoopGhost
import Derived.StillTailTactics
import Derived.Deep.Cut
import Derived.Deep.RegionHeld3
namespace Go.Proofs.YtjgodmfannhnhaaDoor
open Go.RowKit Sha Six Apd Cut Err Att Grd Fld Scr
set_option linter.unusedVariables false
namespace Mov
set_option maxRecDepth 100000 in
set_option maxHeartbeats 8000000 in
theorem rounds_any (s : S) (ad : Option Addr) (k : Nat) (left : Bool) (w : World) (h : CelsIn w (.slice ad s.cs.length k) s.cs) (hwf : Opn.Wf s.cs) (hm : s.cs.length ≤ maxLen) (hg : Handle w) :
    Calls Tryd.prog 7 #[.agg #[.int .i64 s.rows, .int .i64 s.cols, .slice ad s.cs.length k, .int .i64 s.cur, .bool s.lk, .bool s.ins], .bool left] w fun e w' => e = .returned (.bool true) ∧ Below w.heap.size w w' := by
  have HG := Lib.hid fun W (hb : Below w.heap.size w W) => hand_of hg hb
  have HAW := Lib.hid fun W (hb : Below w.heap.size w W) => awake_any W (hand_of hg hb)
  have HB := Lib.hid (al_any w (.cells #[.int .i64 s.rows, .int .i64 s.cols, .slice ad s.cs.length k, .int .i64 s.cur, .bool s.lk, .bool s.ins] 24))
  have HX := Lib.hid (heap_alloc_new w (.cells #[.int .i64 s.rows, .int .i64 s.cols, .slice ad s.cs.length k, .int .i64 s.cur, .bool s.lk, .bool s.ins] 24))
  have HI := Lib.hid (h.below HB.out)
  have HF := Lib.hid fun W hb => rfew_any s ad k W (HI.out.below hb) (wf_sound hwf)
  have H8 := Lib.hid (wf_sound hwf)
  clear h hwf hm hg
  cases hf : few s with
  | false =>
    rw [hf] at HF
    go_enter Tryd.func7, Tryd.ntmps7
    go_upto_region 1 with (fail)
    generalize w.alloc _ = w1 at *
    go_wp2_with fail
    with_reducible refine (HAW.out _ HB.out).mono ?_
    rintro e w2 ⟨rfl, hb⟩
    have K2 := Lib.hid hb
    have X2 := Lib.hid (blk HX.out hb)
    have K2' := kept_hid HB hb
    have I2 := Lib.hid (HI.out.below hb)
    clear hb
    obtain ⟨c0, c1, c2, c3, c4, c5⟩ := cells6 X2.out
    go_wp2_with fail
    with_reducible refine (HF.out _ K2.out).mono ?_
    rintro e w3 ⟨rfl, hb⟩
    have K3 := kept_hid K2' hb
    have X3 := Lib.hid (blk X2.out hb)
    have I3 := Lib.hid (I2.out.below hb)
    clear hb c0 c1 c2 c3 c4 c5 K2 K2' X2 I2 HB HX HI HF
    go_wp2_with fail
    with_reducible refine (HAW.out _ K3.out).mono ?_
    rintro e w4 ⟨rfl, hb⟩
    have KE := kept_hid K3 hb
    clear hb
    go_wp2_with fail
    go_ret
    exact ⟨rfl, KE.out⟩
  | true =>
    rw [hf] at HF
    obtain ⟨q1, q2, q3⟩ := few_parts hf
    have HL := Lib.hid q1
    have HP := Lib.hid q2
    have HR := Lib.hid q3
    have HLT := Lib.hid (show s.cs.length < 10000 from by have := HL.out; omega)
    clear q1 q2 q3 hf
    go_enter Tryd.func7, Tryd.ntmps7
    go_upto_region 1 with (fail)
    generalize w.alloc _ = w1 at *
    go_wp2_with fail
    with_reducible refine (HAW.out _ HB.out).mono ?_
    rintro e w2 ⟨rfl, hb⟩
    have K2 := Lib.hid hb
    have X2 := Lib.hid (blk HX.out hb)
    have K2' := kept_hid HB hb
    have I2 := Lib.hid (HI.out.below hb)
    clear hb
    obtain ⟨c0, c1, c2, c3, c4, c5⟩ := cells6 X2.out
    go_wp2_with fail
    with_reducible refine (HF.out _ K2.out).mono ?_
    rintro e w3 ⟨rfl, hb⟩
    have K3 := kept_hid K2' hb
    have X3 := Lib.hid (blk X2.out hb)
    have I3 := Lib.hid (I2.out.below hb)
    clear hb c0 c1 c2 c3 c4 c5 K2 K2' X2 I2 HB HX HI HF
    clear HAW
    cases left with
    | false =>
      obtain ⟨kc, hcur, _, hkc⟩ := cur_nat HR.out
      have HKC := Lib.hid hkc
      have HPOS0 := Lib.hid (show (on s.cs.length (kc : Int) ((0 : Nat) : Int)) = kc from on_zero hkc)
      have HPOSZ := Lib.hid (show (on s.cs.length (kc : Int) ((s.cs.length : Nat) : Int)) = kc from on_all hkc)
      have HPOSL := Lib.hid fun q => (show (on s.cs.length (kc : Int) ((q : Nat) : Int)) < s.cs.length from on_lt (by omega) _ _)
      have HPOSS := Lib.hid fun (q : Nat) => (show on s.cs.length (((on s.cs.length (kc : Int) ((q : Nat) : Int)) : Nat) : Int) (1) = (on s.cs.length (kc : Int) ((q + 1 : Nat) : Int)) from by rw [on_on (by omega)]; congr 1 <;> omega)
      have HPOSI := Lib.hid fun (i j : Nat) (hi : i < s.cs.length) (hj : j < s.cs.length) (h : (on s.cs.length (kc : Int) ((i : Nat) : Int)) = (on s.cs.length (kc : Int) ((j : Nat) : Int))) => (show i = j from on_inj hi hj h)
      obtain ⟨pos, hpos⟩ : ∃ pos : Nat → Nat, pos = fun q => (on s.cs.length (kc : Int) ((q : Nat) : Int)) := ⟨_, rfl⟩
      have HP0 := Lib.hid (show pos 0 = kc from by rw [hpos]; exact HPOS0.out)
      have HPZ := Lib.hid (show pos s.cs.length = kc from by rw [hpos]; exact HPOSZ.out)
      have HPL := Lib.hid (show ∀ q, pos q < s.cs.length from by rw [hpos]; exact HPOSL.out)
      have HPS := Lib.hid (show ∀ q, on s.cs.length ((pos q : Nat) : Int) (1) = pos (q + 1) from by rw [hpos]; exact HPOSS.out)
      have HPI := Lib.hid (show ∀ i j, i < s.cs.length → j < s.cs.length → pos i = pos j → i = j from by rw [hpos]; exact HPOSI.out)
      clear HPOS0 HPOSZ HPOSL HPOSS HPOSI hpos
      have HCR := Lib.hid fun (p : Nat) (hp : p < s.cs.length) => right_lk (b := false) HR.out (c := (p : Int)) (by omega) (by omega)
      have HDO := Lib.hid fun (p : Nat) (hp : p < s.cs.length) va vc W (h : CelsIn W (.slice va s.cs.length vc) s.cs) => do_any ⟨s.rows, s.cols, s.cs, (p : Int), false, s.ins⟩ va vc 3 W h (HCR.out p hp) H8.out HLT.out
      simp only [GaveN] at HDO
      have HMD := Lib.hid fun (p : Nat) => (mdo_0 (s := ⟨s.rows, s.cols, s.cs, (p : Int), false, s.ins⟩) (kind := 3) (by decide) rfl)
      simp only [show ∀ p : Nat, gto ⟨s.rows, s.cols, s.cs, (p : Int), false, s.ins⟩ 3 = on s.cs.length (p : Int) (1) from fun _ => rfl] at HMD
      simp only [HMD.out, show errn 0 = .nilIface from rfl] at HDO
      clear HMD HCR
      rw [hcur] at X3
      replace hcur := Lib.hid hcur
      obtain ⟨c0, c1, c2, c3, c4, c5⟩ := cells6 X3.out
      obtain ⟨f0, f1, f2, f3, f4, f5⟩ := free6 X3.out
      have SO := gsetCell w3 w.heap.size 4 (.bool false)
      have X4 := Lib.hid (show (w3.setCell ⟨w.heap.size, 4, none⟩ (.bool false)).heap[w.heap.size]? = some (.cells #[.int .i64 s.rows, .int .i64 s.cols, .slice ad s.cs.length k, .int .i64 ((kc : Nat) : Int), .bool false, .bool s.ins] 24 (0, 0)) from heap_setCell_same w3 w.heap.size 4 _ 24 (.bool false) X3.out)
      have I4 := Lib.hid (celsIn_away I3.out SO (fun y hy => (not_screen I3.out HP.out X3.out y hy).1))
      have K4 := Lib.hid (below_grown K3.out SO (Nat.le_refl _))
      clear SO X3 I3 K3
      go_upto_region 4 with (fail)
      clear c0 c1 c2 c3 c4 c5 f0 f1 f2 f3 f4 f5
      generalize w3.setCell _ _ = w4 at *
      obtain ⟨c0, c1, c2, c3, c4, c5⟩ := cells6 X4.out
      go_wp2_with (at_make; refine wpList_mark ?_)
      clear c0 c1 c2 c3 c4 c5
      refine Lib.hid ?_
      obtain ⟨i1, hi, hz0, hz1, hz2⟩ := info_parts infoB
      refine wpList_make_full _ rfl _ _ 45 rfl w4.heap.size 4 i1 _ 1 Tryd.underlying45 hi hz0 hz1 .i64 .i64 _ _ s.cs.length rfl rfl rfl rfl ?_ ?_ ?_ ?_
      · rw [hz2]; have := HL.out; omega
      · have := HL.out; unfold maxLen; omega
      · exact Nat.le_refl _
      intro w5 hown hgr
      rw [made_bools] at hown
      have K5 := Lib.hid (show Below w4.heap.size w4 w5 from belowg hgr)
      have S5 := Lib.hid (show OwnBools w5 w4.heap.size (.slice (some ⟨w4.heap.size, 0, none⟩) s.cs.length s.cs.length) (List.replicate s.cs.length false) from by
        unfold OwnBools; rw [List.length_replicate]; exact hown)
      have HSB := Lib.hid (show w4.heap.size < w5.heap.size from by
        obtain ⟨_, hv⟩ := S5.out
        rcases hv with ⟨hv, _⟩ | ⟨g, cap, cur, hv, hg, hcur, _⟩
        · cases hv
        · injection hv with e1 _ _
          injection e1 with e1
          injection e1 with e1 _ _
          have := there_lt hcur
          omega)
      clear hown hgr hi hz0 hz1 hz2
      have HA := al_any w5 (.cells #[.int .i64 s.rows, .int .i64 s.cols, .slice ad s.cs.length k, .int .i64 ((kc : Nat) : Int), .bool false, .bool s.ins] 24)
      have T6 := Lib.hid (heap_alloc_new w5 (.cells #[.int .i64 s.rows, .int .i64 s.cols, .slice ad s.cs.length k, .int .i64 ((kc : Nat) : Int), .bool false, .bool s.ins] 24))
      have K6 := Lib.hid (kept_trans K5.out HA)
      have S6 := Lib.hid (OwnBools.below S5.out HA)
      have X5 := Lib.hid (blk X4.out K5.out)
      clear HA
      obtain ⟨c0, c1, c2, c3, c4, c5⟩ := cells6 X5.out
      go_upto_region 9 with (fail)
      clear c0 c1 c2 c3 c4 c5 S5 K5 X5
      generalize w5.heap.size = N1 at *
      generalize w5.alloc _ = w6 at *
      have HNA := Lib.hid (show ∀ y, ad = some y → y.block ≠ w4.heap.size ∧ y.block ≠ N1 from fun y hy => by
        have := celsIn_lt I4.out HP.out y hy
        have := HSB.out
        omega)
      have C6' := Lib.hid (I4.out.below K6.out)
      rw [← HP0.out] at T6
      go_wp2_with fail
      go_loopg [8] (s.cs.length + 1) (fun mm ii wr => ∃ q : Nat, q ≤ s.cs.length ∧ mm = s.cs.length + 1 - q ∧ ii = .int .i64 q ∧ Hid (Below w4.heap.size w4 wr) ∧ ∃ va vc bs, bs.length = s.cs.length ∧ Hid (wr.heap[N1]? = some (.cells #[.int .i64 s.rows, .int .i64 s.cols, .slice va s.cs.length vc, .int .i64 ((pos q : Nat) : Int), .bool false, .bool s.ins] 24 (0, 0))) ∧ Hid (CelsIn wr (.slice va s.cs.length vc) s.cs) ∧ Hid (∀ y, va = some y → y.block ≠ w4.heap.size ∧ y.block ≠ N1) ∧ Hid (OwnBools wr w4.heap.size (.slice (some ⟨w4.heap.size, 0, none⟩) s.cs.length s.cs.length) bs) ∧ Hid (∀ c, bs.getD c false = true → ∃ y, y < q ∧ c = pos y))
      case atStart => exact ⟨0, Nat.zero_le _, rfl, rfl, K6, ad, k, _, List.length_replicate .., T6, C6', HNA, S6, Lib.hid (fun c hc => by rw [List.getD_eq_getElem?_getD, List.getElem?_replicate] at hc; split at hc <;> cases hc)⟩
      case round =>
        obtain ⟨q, hq, rfl, rfl, KR, va, vc, bs, hbs, TR, CR, NR, SR, BR⟩ := hrel
        clear K6 T6 C6' HNA S6
        have ew : IntKind.i64.wrap ((q : Int) + 1) = (q : Int) + 1 := by
          have := HL.out
          rw [IntWalk.i64_in] <;> omega
        have XR := Lib.hid (blk X4.out KR.out)
        obtain ⟨c0, c1, c2, c3, c4, c5⟩ := cells6 XR.out
        obtain ⟨d0, d1, d2, d3, d4, d5⟩ := cells6 TR.out
        by_cases hlt : q < s.cs.length
        · have hpl := HPL.out q
          have HPN := Lib.hid (HPL.out (q + 1))
          have hx0 : (0 : Int) ≤ ((pos q : Nat) : Int) := by omega
          have hx1 : ((pos q : Nat) : Int) < (s.cs.length : Int) := by omega
          obtain ⟨db, fb⟩ := OwnBools.cell SR.out (i := pos q) (by omega)
          have hnew : bs.getD (pos q) false = false := by
            cases hb : bs.getD (pos q) false with
            | false => rfl
            | true =>
              obtain ⟨y, hy, he⟩ := BR.out _ hb
              have := HPI.out q y hlt (by omega) he
              omega
          rw [hnew] at db
          have SS := OwnBools.set SR.out (pos q) true
          have S2 := Lib.hid SS.1
          have K2 := Lib.hid (KR.out.grown SS.2 KR.out.size (by intro k hk; injection hk with hk; omega))
          have T2 := Lib.hid (blk_g TR.out SS.2 (by intro e; have e1 : N1 = w4.heap.size := Option.some.inj e; have := HSB.out; omega))
          have C2 := Lib.hid (celsIn_away CR.out SS.2 (fun y hy => (NR.out y hy).1))
          have HLB := Lib.hid (show (bs.set (pos q) true).length = s.cs.length by rw [List.length_set]; exact hbs)
          have HB2 := Lib.hid (show ∀ c, (bs.set (pos q) true).getD c false = true → ∃ y, y < q + 1 ∧ c = pos y from fun c hc => by
            by_cases hcp : c = pos q
            · exact ⟨q, by omega, hcp⟩
            · rw [List.getD_eq_getElem?_getD, List.getElem?_set_ne (fun e => hcp e.symm), ← List.getD_eq_getElem?_getD] at hc
              obtain ⟨y, hy, he⟩ := BR.out c hc
              exact ⟨y, by omega, he⟩)
          have QD := Lib.hid (HDO.out (pos q) hpl va vc)
          rw [HPS.out q] at QD
          clear SS SR TR CR hnew hbs BR XR
          generalize bs.set (pos q) true = bs2 at *
          generalize pos q = p at *
          go_upto_region 15 with (fail)
          clear db fb c0 c1 c2 c3 c4 c5 d0 d1 d2 d3 d4 d5 hx0 hx1
          generalize wr.setCell _ _ = wt at *
          generalize hp2 : pos (q + 1) = p2 at *
          replace hp2 := Lib.hid hp2
          have QD2 := Lib.hid (QD.out wt C2.out)
          obtain ⟨c0, c1, c2, c3, c4, c5⟩ := cells6 T2.out
          go_wp2_with fail
          with_reducible refine QD2.out.mono ?_
          rintro e w7 ⟨vb, vd, rfl, hc, hn, hb⟩
          have HTL := Lib.hid (there_lt T2.out)
          have HOG := Lib.hid (own_ge (hn trivial))
          have HUN := Lib.hid (show N1 < w7.heap.size from Nat.lt_of_lt_of_le HTL.out hb.size)
          have HWS := Lib.hid (show w4.heap.size < wt.heap.size from Nat.lt_of_lt_of_le (show w4.heap.size < N1 + 1 from by have := HSB.out; omega) (there_lt T2.out))
          have HA := al_any w7 (.cells #[.int .i64 s.rows, .int .i64 s.cols, .slice vb s.cs.length vd, .int .i64 ((p2 : Nat) : Int), .bool false, .bool s.ins] 24)
          have U7 := Lib.hid (heap_alloc_new w7 (.cells #[.int .i64 s.rows, .int .i64 s.cols, .slice vb s.cs.length vd, .int .i64 ((p2 : Nat) : Int), .bool false, .bool s.ins] 24))
          have C7 := Lib.hid (hc.below HA)
          replace hb := kept_trans hb HA
          have T7 := Lib.hid (blk T2.out hb)
          have K7 := kept_hid K2 hb
          have S7 := Lib.hid (OwnBools.below S2.out hb)
          clear HA hc hn hb c0 c1 c2 c3 c4 c5 T2 K2 S2 C2 QD QD2
          go_upto_region 16 with (fail)
          generalize w7.heap.size = N9 at *
          generalize w7.alloc _ = w8 at *
          have X8 := Lib.hid (blk X4.out K7.out)
          obtain ⟨c0, c1, c2, c3, c4, c5⟩ := cells6 X8.out
          obtain ⟨d0, d1, d2, d3, d4, d5⟩ := cells6 U7.out
          have hy0 : decide (((p2 : Nat) : Int) < 0) = false := by simp
          have hy1 : decide (s.cs.length ≤ p2) = false := by have := HPN.out; simp; omega
          go_upto_region 18 with (fail)
          clear c0 c1 c2 c3 c4 c5 hy0 hy1 X8
          obtain ⟨f0, f1, f2, f3, f4, f5⟩ := free6 T7.out
          obtain ⟨z0, z1, z2, z3, z4, z5⟩ := cells6 T7.out
          have SF := over6 w8 N1 24 _ _ _ _ _ _ (.int .i64 s.rows) (.int .i64 s.cols) (.slice vb s.cs.length vd) (.int .i64 ((p2 : Nat) : Int)) (.bool false) (.bool s.ins) T7.out
          have T9 := Lib.hid SF.1
          have HVN := Lib.hid (show ∀ y, vb = some y → y.block ≠ w4.heap.size ∧ y.block ≠ N1 from fun y hy => by
            have h1 := HOG.out y.block (by rw [hy]; rfl)
            have h2 := HTL.out
            have h3 := HWS.out
            omega)
          have C9 := Lib.hid (celsIn_away C7.out SF.2 (fun y hy => (HVN.out y hy).2))
          have S9 := Lib.hid (show OwnBools _ w4.heap.size _ bs2 from World.ownsRow.kept S7.out SF.2 (.inr (by intro e; have e1 : w4.heap.size = N1 := Option.some.inj e; have := HSB.out; omega)))
          have K9 := Lib.hid (below_grown K7.out SF.2 (by have := HSB.out; omega))
          clear SF T7 C7 S7 K7
          go_upto_region 11 with (fail)
          clear d0 d1 d2 d3 d4 d5 f0 f1 f2 f3 f4 f5 z0 z1 z2 z3 z4 z5
          generalize (((((w8.setCell _ _).setCell _ _).setCell _ _).setCell _ _).setCell _ _).setCell _ _ = w9 at *
          go_wp2_with fail
          go_roundg (s.cs.length + 1 - (q + 1))
          case measure => omega
          case rel => exact ⟨q + 1, by omega, rfl, by first | rfl | go_num, K9, vb, vd, _, HLB.out, by rw [hp2.out]; exact T9, C9, HVN, S9, HB2⟩
        · obtain rfl : q = s.cs.length := by omega
          have hn0 : ¬ (s.cs.length : Int) < (s.cs.length : Int) := by omega
          rw [HPZ.out] at TR
          clear hlt d0 d1 d2 d3 d4 d5
          obtain ⟨d0, d1, d2, d3, d4, d5⟩ := cells6 TR.out
          have HSM := Lib.hid (rsame_any s.rows s.cols (kc : Int) false s.ins va s.cs.length vc ad s.cs.length k s.cs s.cs wr CR.out (I4.out.below KR.out) (by have := HL.out; omega))
          rw [decide_eq_true rfl] at HSM
          have KF := Lib.hid (kept_trans K4.out KR.out)
          go_wp2_with fail
          with_reducible refine HSM.out.mono ?_
          rintro e wb ⟨rfl, hb⟩
          have K10 := kept_hid KF hb
          clear hb
          go_wp2_with fail
          go_ret
          exact ⟨rfl, K10.out⟩
    | true =>
      obtain ⟨kc, hcur, _, hkc⟩ := cur_nat HR.out
      have HKC := Lib.hid hkc
      have HPOS0 := Lib.hid (show (on s.cs.length (kc : Int) (-((0 : Nat) : Int))) = kc from on_zero hkc)
      have HPOSZ := Lib.hid (show (on s.cs.length (kc : Int) (-((s.cs.length : Nat) : Int))) = kc from by rw [show -((s.cs.length : Nat) : Int) = 0 + (-((s.cs.length : Nat) : Int)) by omega]; exact on_negall hkc)
      have HPOSL := Lib.hid fun q => (show (on s.cs.length (kc : Int) (-((q : Nat) : Int))) < s.cs.length from on_lt (by omega) _ _)
      have HPOSS := Lib.hid fun (q : Nat) => (show on s.cs.length (((on s.cs.length (kc : Int) (-((q : Nat) : Int))) : Nat) : Int) (-1) = (on s.cs.length (kc : Int) (-((q + 1 : Nat) : Int))) from by rw [on_on (by omega)]; congr 1 <;> omega)
      have HPOSI := Lib.hid fun (i j : Nat) (hi : i < s.cs.length) (hj : j < s.cs.length) (h : (on s.cs.length (kc : Int) (-((i : Nat) : Int))) = (on s.cs.length (kc : Int) (-((j : Nat) : Int)))) => (show i = j from on_injn hkc hi hj h)
      obtain ⟨pos, hpos⟩ : ∃ pos : Nat → Nat, pos = fun q => (on s.cs.length (kc : Int) (-((q : Nat) : Int))) := ⟨_, rfl⟩
      have HP0 := Lib.hid (show pos 0 = kc from by rw [hpos]; exact HPOS0.out)
      have HPZ := Lib.hid (show pos s.cs.length = kc from by rw [hpos]; exact HPOSZ.out)
      have HPL := Lib.hid (show ∀ q, pos q < s.cs.length from by rw [hpos]; exact HPOSL.out)
      have HPS := Lib.hid (show ∀ q, on s.cs.length ((pos q : Nat) : Int) (-1) = pos (q + 1) from by rw [hpos]; exact HPOSS.out)
      have HPI := Lib.hid (show ∀ i j, i < s.cs.length → j < s.cs.length → pos i = pos j → i = j from by rw [hpos]; exact HPOSI.out)
      clear HPOS0 HPOSZ HPOSL HPOSS HPOSI hpos
      have HCR := Lib.hid fun (p : Nat) (hp : p < s.cs.length) => right_lk (b := false) HR.out (c := (p : Int)) (by omega) (by omega)
      have HDO := Lib.hid fun (p : Nat) (hp : p < s.cs.length) va vc W (h : CelsIn W (.slice va s.cs.length vc) s.cs) => do_any ⟨s.rows, s.cols, s.cs, (p : Int), false, s.ins⟩ va vc 2 W h (HCR.out p hp) H8.out HLT.out
      simp only [GaveN] at HDO
      have HMD := Lib.hid fun (p : Nat) => (mdo_0 (s := ⟨s.rows, s.cols, s.cs, (p : Int), false, s.ins⟩) (kind := 2) (by decide) rfl)
      simp only [show ∀ p : Nat, gto ⟨s.rows, s.cols, s.cs, (p : Int), false, s.ins⟩ 2 = on s.cs.length (p : Int) (-1) from fun _ => rfl] at HMD
      simp only [HMD.out, show errn 0 = .nilIface from rfl] at HDO
      clear HMD HCR
      rw [hcur] at X3
      replace hcur := Lib.hid hcur
      obtain ⟨c0, c1, c2, c3, c4, c5⟩ := cells6 X3.out
      obtain ⟨f0, f1, f2, f3, f4, f5⟩ := free6 X3.out
      have SO := gsetCell w3 w.heap.size 4 (.bool false)
      have X4 := Lib.hid (show (w3.setCell ⟨w.heap.size, 4, none⟩ (.bool false)).heap[w.heap.size]? = some (.cells #[.int .i64 s.rows, .int .i64 s.cols, .slice ad s.cs.length k, .int .i64 ((kc : Nat) : Int), .bool false, .bool s.ins] 24 (0, 0)) from heap_setCell_same w3 w.heap.size 4 _ 24 (.bool false) X3.out)
      have I4 := Lib.hid (celsIn_away I3.out SO (fun y hy => (not_screen I3.out HP.out X3.out y hy).1))
      have K4 := Lib.hid (below_grown K3.out SO (Nat.le_refl _))
      clear SO X3 I3 K3
      go_upto_region 4 with (fail)
      clear c0 c1 c2 c3 c4 c5 f0 f1 f2 f3 f4 f5
      generalize w3.setCell _ _ = w4 at *
      obtain ⟨c0, c1, c2, c3, c4, c5⟩ := cells6 X4.out
      go_wp2_with (at_make; refine wpList_mark ?_)
      clear c0 c1 c2 c3 c4 c5
      refine Lib.hid ?_
      obtain ⟨i1, hi, hz0, hz1, hz2⟩ := info_parts infoB
      refine wpList_make_full _ rfl _ _ 45 rfl w4.heap.size 4 i1 _ 1 Tryd.underlying45 hi hz0 hz1 .i64 .i64 _ _ s.cs.length rfl rfl rfl rfl ?_ ?_ ?_ ?_
      · rw [hz2]; have := HL.out; omega
      · have := HL.out; unfold maxLen; omega
      · exact Nat.le_refl _
      intro w5 hown hgr
      rw [made_bools] at hown
      have K5 := Lib.hid (show Below w4.heap.size w4 w5 from belowg hgr)
      have S5 := Lib.hid (show OwnBools w5 w4.heap.size (.slice (some ⟨w4.heap.size, 0, none⟩) s.cs.length s.cs.length) (List.replicate s.cs.length false) from by
        unfold OwnBools; rw [List.length_replicate]; exact hown)
      have HSB := Lib.hid (show w4.heap.size < w5.heap.size from by
        obtain ⟨_, hv⟩ := S5.out
        rcases hv with ⟨hv, _⟩ | ⟨g, cap, cur, hv, hg, hcur, _⟩
        · cases hv
        · injection hv with e1 _ _
          injection e1 with e1
          injection e1 with e1 _ _
          have := there_lt hcur
          omega)
      clear hown hgr hi hz0 hz1 hz2
      have HA := al_any w5 (.cells #[.int .i64 s.rows, .int .i64 s.cols, .slice ad s.cs.length k, .int .i64 ((kc : Nat) : Int), .bool false, .bool s.ins] 24)
      have T6 := Lib.hid (heap_alloc_new w5 (.cells #[.int .i64 s.rows, .int .i64 s.cols, .slice ad s.cs.length k, .int .i64 ((kc : Nat) : Int), .bool false, .bool s.ins] 24))
      have K6 := Lib.hid (kept_trans K5.out HA)
      have S6 := Lib.hid (OwnBools.below S5.out HA)
      have X5 := Lib.hid (blk X4.out K5.out)
      clear HA
      obtain ⟨c0, c1, c2, c3, c4, c5⟩ := cells6 X5.out
      go_upto_region 9 with (fail)
      clear c0 c1 c2 c3 c4 c5 S5 K5 X5
      generalize w5.heap.size = N1 at *
      generalize w5.alloc _ = w6 at *
      have HNA := Lib.hid (show ∀ y, ad = some y → y.block ≠ w4.heap.size ∧ y.block ≠ N1 from fun y hy => by
        have := celsIn_lt I4.out HP.out y hy
        have := HSB.out
        omega)
      have C6' := Lib.hid (I4.out.below K6.out)
      rw [← HP0.out] at T6
      go_wp2_with fail
      go_loopg [8] (s.cs.length + 1) (fun mm ii wr => ∃ q : Nat, q ≤ s.cs.length ∧ mm = s.cs.length + 1 - q ∧ ii = .int .i64 q ∧ Hid (Below w4.heap.size w4 wr) ∧ ∃ va vc bs, bs.length = s.cs.length ∧ Hid (wr.heap[N1]? = some (.cells #[.int .i64 s.rows, .int .i64 s.cols, .slice va s.cs.length vc, .int .i64 ((pos q : Nat) : Int), .bool false, .bool s.ins] 24 (0, 0))) ∧ Hid (CelsIn wr (.slice va s.cs.length vc) s.cs) ∧ Hid (∀ y, va = some y → y.block ≠ w4.heap.size ∧ y.block ≠ N1) ∧ Hid (OwnBools wr w4.heap.size (.slice (some ⟨w4.heap.size, 0, none⟩) s.cs.length s.cs.length) bs) ∧ Hid (∀ c, bs.getD c false = true → ∃ y, y < q ∧ c = pos y))
      case atStart => exact ⟨0, Nat.zero_le _, rfl, rfl, K6, ad, k, _, List.length_replicate .., T6, C6', HNA, S6, Lib.hid (fun c hc => by rw [List.getD_eq_getElem?_getD, List.getElem?_replicate] at hc; split at hc <;> cases hc)⟩
      case round =>
        obtain ⟨q, hq, rfl, rfl, KR, va, vc, bs, hbs, TR, CR, NR, SR, BR⟩ := hrel
        clear K6 T6 C6' HNA S6
        have ew : IntKind.i64.wrap ((q : Int) + 1) = (q : Int) + 1 := by
          have := HL.out
          rw [IntWalk.i64_in] <;> omega
        have XR := Lib.hid (blk X4.out KR.out)
        obtain ⟨c0, c1, c2, c3, c4, c5⟩ := cells6 XR.out
        obtain ⟨d0, d1, d2, d3, d4, d5⟩ := cells6 TR.out
        by_cases hlt : q < s.cs.length
        · have hpl := HPL.out q
          have HPN := Lib.hid (HPL.out (q + 1))
          have hx0 : (0 : Int) ≤ ((pos q : Nat) : Int) := by omega
          have hx1 : ((pos q : Nat) : Int) < (s.cs.length : Int) := by omega
          obtain ⟨db, fb⟩ := OwnBools.cell SR.out (i := pos q) (by omega)
          have hnew : bs.getD (pos q) false = false := by
            cases hb : bs.getD (pos q) false with
            | false => rfl
            | true =>
              obtain ⟨y, hy, he⟩ := BR.out _ hb
              have := HPI.out q y hlt (by omega) he
              omega
          rw [hnew] at db
          have SS := OwnBools.set SR.out (pos q) true
          have S2 := Lib.hid SS.1
          have K2 := Lib.hid (KR.out.grown SS.2 KR.out.size (by intro k hk; injection hk with hk; omega))
          have T2 := Lib.hid (blk_g TR.out SS.2 (by intro e; have e1 : N1 = w4.heap.size := Option.some.inj e; have := HSB.out; omega))
          have C2 := Lib.hid (celsIn_away CR.out SS.2 (fun y hy => (NR.out y hy).1))
          have HLB := Lib.hid (show (bs.set (pos q) true).length = s.cs.length by rw [List.length_set]; exact hbs)
          have HB2 := Lib.hid (show ∀ c, (bs.set (pos q) true).getD c false = true → ∃ y, y < q + 1 ∧ c = pos y from fun c hc => by
            by_cases hcp : c = pos q
            · exact ⟨q, by omega, hcp⟩
            · rw [List.getD_eq_getElem?_getD, List.getElem?_set_ne (fun e => hcp e.symm), ← List.getD_eq_getElem?_getD] at hc
              obtain ⟨y, hy, he⟩ := BR.out c hc
              exact ⟨y, by omega, he⟩)
          have QD := Lib.hid (HDO.out (pos q) hpl va vc)
          rw [HPS.out q] at QD
          clear SS SR TR CR hnew hbs BR XR
          generalize bs.set (pos q) true = bs2 at *
          generalize pos q = p at *
          go_upto_region 15 with (fail)
          clear db fb c0 c1 c2 c3 c4 c5 d0 d1 d2 d3 d4 d5 hx0 hx1
          generalize wr.setCell _ _ = wt at *
          generalize hp2 : pos (q + 1) = p2 at *
          replace hp2 := Lib.hid hp2
          have QD2 := Lib.hid (QD.out wt C2.out)
          obtain ⟨c0, c1, c2, c3, c4, c5⟩ := cells6 T2.out
          go_wp2_with fail
          with_reducible refine QD2.out.mono ?_
          rintro e w7 ⟨vb, vd, rfl, hc, hn, hb⟩
          have HTL := Lib.hid (there_lt T2.out)
          have HOG := Lib.hid (own_ge (hn trivial))
          have HUN := Lib.hid (show N1 < w7.heap.size from Nat.lt_of_lt_of_le HTL.out hb.size)
          have HWS := Lib.hid (show w4.heap.size < wt.heap.size from Nat.lt_of_lt_of_le (show w4.heap.size < N1 + 1 from by have := HSB.out; omega) (there_lt T2.out))
          have HA := al_any w7 (.cells #[.int .i64 s.rows, .int .i64 s.cols, .slice vb s.cs.length vd, .int .i64 ((p2 : Nat) : Int), .bool false, .bool s.ins] 24)
          have U7 := Lib.hid (heap_alloc_new w7 (.cells #[.int .i64 s.rows, .int .i64 s.cols, .slice vb s.cs.length vd, .int .i64 ((p2 : Nat) : Int), .bool false, .bool s.ins] 24))
          have C7 := Lib.hid (hc.below HA)
          replace hb := kept_trans hb HA
          have T7 := Lib.hid (blk T2.out hb)
          have K7 := kept_hid K2 hb
          have S7 := Lib.hid (OwnBools.below S2.out hb)
          clear HA hc hn hb c0 c1 c2 c3 c4 c5 T2 K2 S2 C2 QD QD2
          go_upto_region 16 with (fail)
          generalize w7.heap.size = N9 at *
          generalize w7.alloc _ = w8 at *
          have X8 := Lib.hid (blk X4.out K7.out)
          obtain ⟨c0, c1, c2, c3, c4, c5⟩ := cells6 X8.out
          obtain ⟨d0, d1, d2, d3, d4, d5⟩ := cells6 U7.out
          have hy0 : decide (((p2 : Nat) : Int) < 0) = false := by simp
          have hy1 : decide (s.cs.length ≤ p2) = false := by have := HPN.out; simp; omega
          go_upto_region 18 with (fail)
          clear c0 c1 c2 c3 c4 c5 hy0 hy1 X8
          obtain ⟨f0, f1, f2, f3, f4, f5⟩ := free6 T7.out
          obtain ⟨z0, z1, z2, z3, z4, z5⟩ := cells6 T7.out
          have SF := over6 w8 N1 24 _ _ _ _ _ _ (.int .i64 s.rows) (.int .i64 s.cols) (.slice vb s.cs.length vd) (.int .i64 ((p2 : Nat) : Int)) (.bool false) (.bool s.ins) T7.out
          have T9 := Lib.hid SF.1
          have HVN := Lib.hid (show ∀ y, vb = some y → y.block ≠ w4.heap.size ∧ y.block ≠ N1 from fun y hy => by
            have h1 := HOG.out y.block (by rw [hy]; rfl)
            have h2 := HTL.out
            have h3 := HWS.out
            omega)
          have C9 := Lib.hid (celsIn_away C7.out SF.2 (fun y hy => (HVN.out y hy).2))
          have S9 := Lib.hid (show OwnBools _ w4.heap.size _ bs2 from World.ownsRow.kept S7.out SF.2 (.inr (by intro e; have e1 : w4.heap.size = N1 := Option.some.inj e; have := HSB.out; omega)))
          have K9 := Lib.hid (below_grown K7.out SF.2 (by have := HSB.out; omega))
          clear SF T7 C7 S7 K7
          go_upto_region 11 with (fail)
          clear d0 d1 d2 d3 d4 d5 f0 f1 f2 f3 f4 f5 z0 z1 z2 z3 z4 z5
          generalize (((((w8.setCell _ _).setCell _ _).setCell _ _).setCell _ _).setCell _ _).setCell _ _ = w9 at *
          go_wp2_with fail
          go_roundg (s.cs.length + 1 - (q + 1))
          case measure => omega
          case rel => exact ⟨q + 1, by omega, rfl, by first | rfl | go_num, K9, vb, vd, _, HLB.out, by rw [hp2.out]; exact T9, C9, HVN, S9, HB2⟩
        · obtain rfl : q = s.cs.length := by omega
          have hn0 : ¬ (s.cs.length : Int) < (s.cs.length : Int) := by omega
          rw [HPZ.out] at TR
          clear hlt d0 d1 d2 d3 d4 d5
          obtain ⟨d0, d1, d2, d3, d4, d5⟩ := cells6 TR.out
          have HSM := Lib.hid (rsame_any s.rows s.cols (kc : Int) false s.ins va s.cs.length vc ad s.cs.length k s.cs s.cs wr CR.out (I4.out.below KR.out) (by have := HL.out; omega))
          rw [decide_eq_true rfl] at HSM
          have KF := Lib.hid (kept_trans K4.out KR.out)
          go_wp2_with fail
          with_reducible refine HSM.out.mono ?_
          rintro e wb ⟨rfl, hb⟩
          have K10 := kept_hid KF hb
          clear hb
          go_wp2_with fail
          go_ret
          exact ⟨rfl, K10.out⟩
end Mov
end Go.Proofs.YtjgodmfannhnhaaDoor
