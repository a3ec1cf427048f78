/- The law FieldTabs. -/
import Derived.Test.YtoacookbfpcncaaFldAwake
import Derived.Test.YtoacookbfpcncaaGrdFew
import Derived.Test.YtoacookbfpcncaaGrdRints
import Derived.Test.YtoacookbfpcncaaGrdEq
import Derived.Test.YtoacookbfpcncaaOpnScr
import Derived.Deep.RegionHeld3
import Derived.Deep.Cut
namespace Go.Proofs.Ytoacookbfpcncaa
open Go.RowKit Sha Six Apd Cut Err Att Grd
set_option linter.unusedVariables false
namespace Fld
set_option maxRecDepth 100000 in
set_option maxHeartbeats 8000000 in
theorem tabs_any (s : S) (ad : Option Addr) (k : Nat) (a : Int) (w : World) (h : CelsIn w (.slice ad s.cs.length k) s.cs) (hwf : Opn.Wf s.cs) (hm : s.cs.length ≤ maxLen) (wa : (Lit.int .u16 a).wf = true) :
    Calls Try.prog 6 #[.agg #[.int .i64 s.rows, .int .i64 s.cols, .slice ad s.cs.length k, .int .i64 s.cur, .bool s.lk, .bool s.ins], .int .u16 a] w fun e w' => e = .returned (.bool true) ∧ Below w.heap.size w w' := by
  obtain ⟨b0, b1⟩ := Ord.wf_u16 wa
  obtain ⟨a, rfl⟩ := Int.eq_ofNat_of_zero_le b0
  have HAW := Lib.hid fun W => awake_any W
  have HB := Lib.hid (al_any w (.cells #[.int .i64 s.rows, .int .i64 s.cols, .slice ad s.cs.length k, .int .i64 s.cur, .bool s.lk, .bool s.ins] 24))
  have HX := Lib.hid (heap_alloc_new w (.cells #[.int .i64 s.rows, .int .i64 s.cols, .slice ad s.cs.length k, .int .i64 s.cur, .bool s.lk, .bool s.ins] 24))
  have HI := Lib.hid (h.below HB.out)
  have HF := Lib.hid fun W hb => rfew_any s ad k W (HI.out.below hb) (wf_sound hwf)
  have HSD := Lib.hid (wf_sound hwf)
  clear h hwf hm wa
  cases hf : few s with
  | false =>
    rw [hf] at HF
    go_enter Try.func6, Try.ntmps6
    go_upto_region 1 with (fail)
    generalize w.alloc _ = w1 at *
    go_wp2_with fail
    with_reducible refine (HAW.out _).mono ?_
    rintro e w2 ⟨rfl, hb⟩
    have K2 := Lib.hid hb
    obtain ⟨c0, c1, c2, c3, c4, c5⟩ := cells6 (blk HX.out hb)
    clear hb
    go_wp2_with fail
    with_reducible refine (HF.out _ K2.out).mono ?_
    rintro e w3 ⟨rfl, hb⟩
    have K3 := kept_hid HB (kept_trans K2.out hb)
    clear hb c0 c1 c2 c3 c4 c5
    go_wp2_with fail
    with_reducible refine (HAW.out _).mono ?_
    rintro e w4 ⟨rfl, hb⟩
    have K4 := kept_hid K3 hb
    clear hb
    go_wp2_with fail
    go_ret
    exact ⟨rfl, K4.out⟩
  | true =>
    rw [hf] at HF
    obtain ⟨q1, q2, _⟩ := few_parts hf
    have HL := Lib.hid q1
    have HP := Lib.hid q2
    have HZ := Lib.hid (show 0 < s.cs.length by omega)
    have HLT := Lib.hid (show s.cs.length < 10000 by omega)
    have HLC := Lib.hid (show s.cs.length < 100000000 by omega)
    have hx : ((a : Int) % (s.cs.length : Int)) = ((a % s.cs.length : Nat) : Int) := by omega
    have HXL := Lib.hid (Nat.mod_lt a q2)
    have hne : ¬ ((s.cs.length : Int) = 0) := by omega
    generalize a % s.cs.length = x at *
    clear hf q1 q2
    go_enter Try.func6, Try.ntmps6
    go_upto_region 1 with (fail)
    generalize w.alloc _ = w1 at *
    go_wp2_with fail
    with_reducible refine (HAW.out _).mono ?_
    rintro e w2 ⟨rfl, hb⟩
    have K2 := Lib.hid hb
    obtain ⟨c0, c1, c2, c3, c4, c5⟩ := cells6 (blk HX.out hb)
    clear hb
    go_wp2_with fail
    with_reducible refine (HF.out _ K2.out).mono ?_
    rintro e w3 ⟨rfl, hb⟩
    have K3 := kept_hid HB (kept_trans K2.out hb)
    have X3 := Lib.hid (blk HX.out (kept_trans K2.out hb))
    have I3 := Lib.hid (HI.out.below (kept_trans K2.out hb))
    clear hb c0 c1 c2 c3 c4 c5 HAW HF HX HB HI K2
    have Q1 := Lib.hid fun W (hb : Below w3.heap.size w3 W) => fnext_any s ad k x W (I3.out.below hb) HSD.out HZ.out HLT.out HXL.out
    have Q2 := Lib.hid fun W (hb : Below w3.heap.size w3 W) => fprev_any s ad k x W (I3.out.below hb) HSD.out HZ.out HLT.out HXL.out
    have HK := K3
    clear K3
    have K3 := Lib.hid (Below.refl w3.heap.size w3)
    obtain ⟨c0, c1, c2, c3, c4, c5⟩ := cells6 X3.out
    rcases next_cases (cs := s.cs) HXL.out with ⟨hn, hno⟩ | ⟨kk, o, u1, u2, u3, hol, hop, u4, hn⟩
    · have hp : prev s.cs x = -1 := by
        rcases prev_cases (cs := s.cs) HXL.out with ⟨hp, _⟩ | ⟨_, o, _, _, _, hol, hop, _⟩
        · exact hp
        · rw [hno o hol] at hop; cases hop
      rw [hn] at Q1
      rw [hp] at Q2
      clear hn hp hno
      go_wp2_with fail
      with_reducible refine (Q1.out _ K3.out).mono ?_
      rintro e w4 ⟨rfl, hb⟩
      clear c0 c1 c2 c3 c4 c5
      have K4 := kept_hid K3 hb
      obtain ⟨c0, c1, c2, c3, c4, c5⟩ := cells6 (blk X3.out K4.out)
      clear hb
      go_wp2_with fail
      with_reducible refine (Q2.out _ K4.out).mono ?_
      rintro e w5 ⟨rfl, hb⟩
      clear c0 c1 c2 c3 c4 c5
      have K5 := kept_hid K4 hb
      obtain ⟨c0, c1, c2, c3, c4, c5⟩ := cells6 (blk X3.out K5.out)
      have KF := kept_hid HK K5.out
      clear hb
      go_wp2_with fail
      go_ret
      exact ⟨rfl, KF.out⟩
    · clear u1 u2 u3 u4
      obtain ⟨o', hol', hop', hp⟩ : ∃ o', o' < s.cs.length ∧ opener s.cs o' = true ∧ prev s.cs x = ((on s.cs.length (o' : Int) 1 : Nat) : Int) := by
        rcases prev_cases (cs := s.cs) HXL.out with ⟨_, hno⟩ | ⟨_, o', _, _, _, hol', hop', _, hp⟩
        · rw [hno o hol] at hop; cases hop
        · exact ⟨o', hol', hop', hp⟩
      rw [hn] at Q1
      rw [hp] at Q2
      obtain ⟨u1, x1, x2, x3⟩ := first_cell hol hop
      obtain ⟨u2, y1, y2, y3⟩ := first_cell hol' hop'
      clear u1 u2
      obtain ⟨m, hml, hm1, hm2⟩ := tabs hol hop
      have hb1 := (first_cell hol hop).1
      have hb2 := (first_cell hol' hop').1
      have HNL := Lib.hid (on_lt (z := s.cs.length) HZ.out (o : Int) 1)
      have HPL := Lib.hid (on_lt (z := s.cs.length) HZ.out (o' : Int) 1)
      have XL := Lib.hid (show 0 < (cells s.cs (on s.cs.length (o : Int) 1)).length by unfold cells; rw [cells_len, hb1]; exact x1)
      have YL := Lib.hid (show 0 < (cells s.cs (on s.cs.length (o' : Int) 1)).length by unfold cells; rw [cells_len, hb2]; exact y1)
      have Q3 := fun W (hb : Below w3.heap.size w3 W) => fcells_any s ad k (on s.cs.length (o : Int) 1) W (I3.out.below hb) HSD.out HZ.out HLT.out HNL.out
      have Q4 := fun W (hb : Below w3.heap.size w3 W) => fcells_any s ad k (on s.cs.length (o' : Int) 1) W (I3.out.below hb) HSD.out HZ.out HLT.out HPL.out
      have Q5 := fun W (hb : Below w3.heap.size w3 W) => fopen_any s ad k (on s.cs.length (o : Int) 1) W (I3.out.below hb) HSD.out HZ.out HLT.out HNL.out
      have Q6 := fun W (hb : Below w3.heap.size w3 W) => fopen_any s ad k (on s.cs.length (o' : Int) 1) W (I3.out.below hb) HSD.out HZ.out HLT.out HPL.out
      have Q7 := fun W (hb : Below w3.heap.size w3 W) => fnext_any s ad k (on s.cs.length (o : Int) 1) W (I3.out.below hb) HSD.out HZ.out HLT.out HNL.out
      have Q8 := fun W (hb : Below w3.heap.size w3 W) => fprev_any s ad k m W (I3.out.below hb) HSD.out HZ.out HLT.out hml
      rw [x3] at Q5
      rw [y3] at Q6
      rw [hm1] at Q7
      rw [hm2] at Q8
      have X2 := Lib.hid x2
      have Y2 := Lib.hid y2
      clear hn hp hop hop' hol hol' x1 x2 x3 y1 y2 y3 hm1 hm2 hb1 hb2 hml
      generalize hxs : cells s.cs (on s.cs.length (o : Int) 1) = xs at Q3 XL X2
      generalize hys : cells s.cs (on s.cs.length (o' : Int) 1) = ys at Q4 YL Y2
      clear hxs hys
      generalize on s.cs.length (o : Int) 1 = nn at *
      generalize on s.cs.length (o' : Int) 1 = pp at *
      replace Q3 := Lib.hid Q3
      replace Q4 := Lib.hid Q4
      replace Q5 := Lib.hid Q5
      replace Q6 := Lib.hid Q6
      replace Q7 := Lib.hid Q7
      replace Q8 := Lib.hid Q8
      have hn0 : decide ((nn : Int) < 0) = false := by simp
      have hp0 : decide ((pp : Int) < 0) = false := by simp
      have hm0 : (0 : Int) ≤ (m : Int) := by omega
      go_wp2_with fail
      with_reducible refine (Q1.out _ K3.out).mono ?_
      rintro e w4 ⟨rfl, hb⟩
      clear c0 c1 c2 c3 c4 c5
      have K4 := kept_hid K3 hb
      obtain ⟨c0, c1, c2, c3, c4, c5⟩ := cells6 (blk X3.out K4.out)
      clear hb
      go_wp2_with fail
      with_reducible refine (Q2.out _ K4.out).mono ?_
      rintro e w5 ⟨rfl, hb⟩
      clear c0 c1 c2 c3 c4 c5
      have K5 := kept_hid K4 hb
      obtain ⟨c0, c1, c2, c3, c4, c5⟩ := cells6 (blk X3.out K5.out)
      clear hb
      go_wp2_with fail
      with_reducible refine (Q3.out _ K5.out).mono ?_
      rintro e w6 ⟨v1, rfl, ho1, hb⟩
      clear c0 c1 c2 c3 c4 c5
      have K6 := kept_hid K5 hb
      obtain ⟨c0, c1, c2, c3, c4, c5⟩ := cells6 (blk X3.out K6.out)
      obtain ⟨va1, vc1, rfl⟩ := ho1.form
      clear hb
      go_wp2_with fail
      with_reducible refine (Q4.out _ K6.out).mono ?_
      rintro e w7 ⟨v2, rfl, ho2, hb⟩
      clear c0 c1 c2 c3 c4 c5
      have K7 := kept_hid K6 hb
      obtain ⟨c0, c1, c2, c3, c4, c5⟩ := cells6 (blk X3.out K7.out)
      obtain ⟨va2, vc2, rfl⟩ := ho2.form
      replace ho1 := ho1.below hb
      clear hb
      go_wp2_with fail
      with_reducible refine (Q5.out _ K7.out).mono ?_
      rintro e w8 ⟨rfl, hb⟩
      clear c0 c1 c2 c3 c4 c5
      have K8 := kept_hid K7 hb
      obtain ⟨c0, c1, c2, c3, c4, c5⟩ := cells6 (blk X3.out K8.out)
      replace ho1 := ho1.below hb
      replace ho2 := ho2.below hb
      clear hb
      go_wp2_with fail
      with_reducible refine (Q6.out _ K8.out).mono ?_
      rintro e w9 ⟨rfl, hb⟩
      clear c0 c1 c2 c3 c4 c5
      have K9 := kept_hid K8 hb
      obtain ⟨c0, c1, c2, c3, c4, c5⟩ := cells6 (blk X3.out K9.out)
      replace ho1 := ho1.below hb
      replace ho2 := ho2.below hb
      obtain ⟨gx, rfl, _, _, dx, _⟩ := OwnInts.cell ho1 XL.out
      obtain ⟨gy, rfl, _, _, dy, _⟩ := OwnInts.cell ho2 YL.out
      rw [X2.out, show 0 + 0 = 0 from rfl] at dx
      rw [Y2.out, show 0 + 0 = 0 from rfl] at dy
      have XL' := XL.out
      have YL' := YL.out
      clear ho1 ho2 XL YL X2 Y2 Q3 Q4
      generalize xs.length = lx at *
      generalize ys.length = ly at *
      have hx0 : ((lx : Int) == 0) = false := by simp; omega
      have hy0 : ((ly : Int) == 0) = false := by simp; omega
      have hx1 : (0 : Int) < (lx : Int) := by omega
      have hy1 : (0 : Int) < (ly : Int) := by omega
      have hnn : ((nn : Int) != (nn : Int)) = false := by simp
      have hpp : ((pp : Int) != (pp : Int)) = false := by simp
      clear hb Q1 Q2 Q5 Q6
      have hqq : ((nn : Int) == (nn : Int)) = true := by simp
      go_wp2_with fail
      with_reducible refine (Q7.out _ K9.out).mono ?_
      rintro e w10 ⟨rfl, hb⟩
      clear c0 c1 c2 c3 c4 c5
      have K10 := kept_hid K9 hb
      obtain ⟨c0, c1, c2, c3, c4, c5⟩ := cells6 (blk X3.out K10.out)
      clear hb dx dy hx0 hy0 hx1 hy1 hnn hpp
      go_wp2_with fail
      with_reducible refine (Q8.out _ K10.out).mono ?_
      rintro e w11 ⟨rfl, hb⟩
      clear c0 c1 c2 c3 c4 c5
      have K11 := kept_hid K10 hb
      obtain ⟨c0, c1, c2, c3, c4, c5⟩ := cells6 (blk X3.out K11.out)
      have KF := kept_hid HK K11.out
      clear hb
      go_wp2_with fail
      go_ret
      exact ⟨rfl, KF.out⟩
end Fld
end Go.Proofs.Ytoacookbfpcncaa
