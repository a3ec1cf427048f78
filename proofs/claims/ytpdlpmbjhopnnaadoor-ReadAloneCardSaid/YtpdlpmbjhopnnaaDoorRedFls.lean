/- The modified fields, by the code. Written by tools/gen_red_landed.py. -/
import Derived.Test.YtpdlpmbjhopnnaaDoorRedLet
import Derived.Test.YtpdlpmbjhopnnaaDoorInpStep
import Derived.Test.YtpdlpmbjhopnnaaDoorBunFlc
import Derived.Test.YtpdlpmbjhopnnaaDoorBunGrd
import Derived.Deep.Cut
import Derived.Deep.LoopGhost
import Derived.Deep.RegionLaw
import Derived.Deep.RegionHeld3
import Derived.IntWalk
namespace Go.Proofs.YtpdlpmbjhopnnaaDoor
open Go.RowKit Sha Six Apd Cut Err Att Grd Fld
set_option linter.unusedVariables false
namespace Red
set_option maxRecDepth 100000 in
set_option maxHeartbeats 8000000 in
theorem fields_any (s : S) (ad : Option Addr) (k : Nat) (w : World) (h : CelsIn w (.slice ad s.cs.length k) s.cs) (h8 : Sound s.cs) (hz : 0 < s.cs.length) (hl : s.cs.length < 10000) :
    Calls Tryd.prog 24 #[.agg #[.int .i64 s.rows, .int .i64 s.cols, .slice ad s.cs.length k, .int .i64 s.cur, .bool s.lk, .bool s.ins]] w fun e w' => GaveF w w' ((modBs s.cs).map (fieldOf s.cs)) e := by
  have HL := Lib.hid hl
  have HNE := Lib.hid (Scr.celsIn_lt h hz)
  have HC := Lib.hid fun W (hb : Below w.heap.size w W) => fbegins_any s ad k W (h.below hb) h8 hz hl
  have HT := Lib.hid fun W (a : Nat) (hc : CelsIn W (.slice ad s.cs.length k) s.cs) (ha : a < s.cs.length) => letters_any s ad k a W hc h8 hz hl ha
  have HO := Lib.hid fun W (a : Nat) (ha : a < s.cs.length) => on_any s.rows s.cols ad s.cs.length k s.cur s.lk s.ins (a : Int) 1 W hz (by omega) (by rw [IntWalk.i64_in] <;> omega) rfl
  have HM := Lib.hid fun r (hr : r < (begins s.cs).length) => begins_mem hr
  have HLN := Lib.hid (begins_len s.cs)
  have HFO := Lib.hid fun q (hq : q < s.cs.length) (hf : fat s.cs q = true) => (show fieldOf s.cs q = ⟨((on s.cs.length (q : Int) 1 : Nat) : Int), chars s.cs (cells s.cs q)⟩ from by rw [cells_field hq hf]; rfl)
  have HST := Lib.hid fun r (hr : r < (begins s.cs).length) => modsB_step hr
  have HEND := Lib.hid (modsB_all s.cs)
  have HB := Lib.hid (al_any w (.cells #[.int .i64 s.rows, .int .i64 s.cols, .slice ad s.cs.length k, .int .i64 s.cur, .bool s.lk, .bool s.ins] 24))
  have HX := Lib.hid (heap_alloc_new w (.cells #[.int .i64 s.rows, .int .i64 s.cols, .slice ad s.cs.length k, .int .i64 s.cur, .bool s.lk, .bool s.ins] 24))
  have HI := Lib.hid (h.below HB.out)
  generalize begins s.cs = L at *
  clear h h8 hz hl
  go_enter Tryd.func24, Tryd.ntmps24
  go_upto_region 1 with (fail)
  generalize w.alloc _ = w1 at *
  have HX1 := Lib.hid (there_lt HX.out)
  obtain ⟨c0, c1, c2, c3, c4, c5⟩ := cells6 HX.out
  go_wp2_with fail
  with_reducible refine (HC.out _ HB.out).mono ?_
  rintro e w2 ⟨vL, rfl, hl2, hb⟩
  obtain ⟨vl, kl, rfl⟩ := hl2.form
  have V2 := Lib.hid hl2
  have X2 := Lib.hid (blk HX.out hb)
  have I2 := Lib.hid (HI.out.below hb)
  have K2 := kept_hid HB hb
  clear hb hl2 HC HX HI HB c0 c1 c2 c3 c4 c5
  go_wp2_with fail
  go_loopg [3, 9] (L.length + 1) (fun mm tt ii wr => ∃ (r : Nat) (os : List Inp.F) (va : Option Addr) (vc : Nat), r ≤ L.length ∧ mm = L.length + 1 - r ∧ ii = .int .i64 r ∧ tt = .slice va os.length vc ∧ Hid (os = modsB s.cs r) ∧ Hid (os.length ≤ r) ∧ Hid (Inp.OwnFlds wr w2.heap.size (.slice va os.length vc) os) ∧ Hid (Below w2.heap.size w2 wr))
  case atStart => exact ⟨0, [], none, 0, Nat.zero_le _, rfl, rfl, rfl, Lib.hid rfl, Lib.hid (Nat.le_refl _), Lib.hid (Inp.ownFlds_nil _ _), Lib.hid (Below.refl _ _)⟩
  case round =>
    obtain ⟨r, os, va, vc, hr, rfl, rfl, rfl, HOS, HOL, OF, KZ⟩ := hrel
    have ewr : IntKind.i64.wrap ((r : Int) + 1) = (r : Int) + 1 := by
      have := HL.out; have := HLN.out
      rw [IntWalk.i64_in] <;> omega
    have XZ := Lib.hid (blk X2.out KZ.out)
    have IZ := Lib.hid (I2.out.below KZ.out)
    have VZ := Lib.hid (OwnInts.below V2.out KZ.out)
    by_cases hrt : r < L.length
    · have HR := Lib.hid hrt
      obtain ⟨hpl, hpf⟩ := HM.out r hrt
      have HS2 := HST.out r hrt
      rw [← HOS.out] at HS2
      obtain ⟨u, e1, hu1, hu2, du, _⟩ := OwnInts.cell VZ.out hrt
      subst e1
      rw [Nat.zero_add] at du
      generalize L.getD r 0 = pl at *
      rw [HFO.out pl hpl hpf] at HS2
      have HTX := Lib.hid fun W (hb : Below w2.heap.size w2 W) => HT.out W pl (I2.out.below hb) hpl
      have HON := Lib.hid fun W => HO.out W pl hpl
      simp only [GaveT] at HTX
      have hi0 : (0 : Int) ≤ (r : Int) := by omega
      have hi1 : (r : Int) < (L.length : Int) := by omega
      have hj0 : (0 : Int) ≤ (pl : Int) := by omega
      have hj1 : (pl : Int) < (s.cs.length : Int) := by omega
      obtain ⟨zf, zp, zn, zs, zm, zc, ez⟩ := c_eta (s.cs.getD pl noC)
      obtain ⟨b2, o2, rfl, q0, q1, q2, q3, q4, q5⟩ := IZ.out.cells hpl ez
      rw [ez] at HS2
      obtain ⟨c0, c1, c2, c3, c4, c5⟩ := cells6 XZ.out
      cases zm with
      | false =>
        have HSR := Lib.hid (show os = modsB s.cs (r + 1) from by rw [HS2, if_neg (by simp)])
        clear HS2 ez hpl hpf HOS hrt hr
        go_wp2_with fail
        go_roundg (L.length + 1 - (r + 1))
        case measure => have := HR.out; omega
        case rel => exact ⟨r + 1, os, va, vc, HR.out, rfl, by first | rfl | go_num, rfl, HSR, Lib.hid (Nat.le_succ_of_le HOL.out), OF, KZ⟩
      | true =>
        simp only [if_true] at HS2
        have HSR := Lib.hid (show os ++ [_] = modsB s.cs (r + 1) from HS2.symm)
        generalize on s.cs.length (pl : Int) 1 = nx at *
        generalize chars s.cs (cells s.cs pl) = ts at *
        have HOB := Lib.hid (show os.length < 1000000000 from by have := HOL.out; have := HR.out; have := HL.out; have := HLN.out; omega)
        have HG := Lib.hid (flds_ge OF.out)
        have HLR := Lib.hid (show w2.heap.size ≤ wr.heap.size from KZ.out.size)
        clear HS2 ez hpl hpf HOS hrt hr HT HO HM HFO HST
        go_upto_region 6 with (fail)
        clear q0 q1 q2 q3 q4 q5 du VZ c0 c1 c2 c3 c4 c5
        have HSX := Lib.hid (show ∀ W', Below w2.heap.size w2 W' → Below w2.heap.size w2 W' ∧ (W'.cell? ⟨w.heap.size, 0, none⟩ = some (.int .i64 s.rows) ∧ W'.cell? ⟨w.heap.size, 1, none⟩ = some (.int .i64 s.cols) ∧ W'.cell? ⟨w.heap.size, 2, none⟩ = some (.slice (some ⟨b2, o2, none⟩) s.cs.length k) ∧ W'.cell? ⟨w.heap.size, 3, none⟩ = some (.int .i64 s.cur) ∧ W'.cell? ⟨w.heap.size, 4, none⟩ = some (.bool s.lk) ∧ W'.cell? ⟨w.heap.size, 5, none⟩ = some (.bool s.ins)) from fun W' hW => ⟨hW, cells6 (blk X2.out hW)⟩)
        go_region_held3 (fun W' => Below w2.heap.size w2 W' ∧ (W'.cell? ⟨w.heap.size, 0, none⟩ = some (.int .i64 s.rows) ∧ W'.cell? ⟨w.heap.size, 1, none⟩ = some (.int .i64 s.cols) ∧ W'.cell? ⟨w.heap.size, 2, none⟩ = some (.slice (some ⟨b2, o2, none⟩) s.cs.length k) ∧ W'.cell? ⟨w.heap.size, 3, none⟩ = some (.int .i64 s.cur) ∧ W'.cell? ⟨w.heap.size, 4, none⟩ = some (.bool s.lk) ∧ W'.cell? ⟨w.heap.size, 5, none⟩ = some (.bool s.ins)))
          ((refine HSX.out _ ?_; first | with_reducible exact KZ.out.drew | with_reducible exact KZ.out | with_reducible exact hB5 | with_reducible exact (And.left (by assumption)) | with_reducible exact kept_trans (And.left (by assumption)) hbt | with_reducible exact kept_trans (And.left (by assumption)) hbo | with_reducible exact kept_trans (And.left (by assumption)) (al_any _ _)))
          (first
            | (go_at_call 42; with_reducible refine (HON.out _).mono ?_; rintro e wo ⟨rfl, hbo⟩)
            | (go_at_call 43; with_reducible refine (HTX.out _ (And.left (by assumption))).mono ?_; rintro e wt ⟨vt, kt, rfl, ht, hbt⟩)
            | (refine Inp.step_fld rfl (.tmp 20) (.tmp 28) rfl w2.heap.size (.slice va os.length vc) os rfl ?_ _ ⟨(nx : Int), ts⟩ vt ts.length kt rfl ?_ ?_ HOB.out ?_ ?_
               · first | exact OF.out.below (kept_trans (kept_trans (kept_trans (Below.refl _ wr).drew hbo) hbt) (al_any _ _)) | exact OF.out.below (kept_trans (kept_trans (kept_trans (Below.refl _ wr).drew hbt) hbo) (al_any _ _))
               · exact heap_alloc_new _ _
               · first | exact own_mono (own_below ht (al_any _ _)) (Nat.le_trans HLR.out hbo.size) | exact own_mono (own_below ht (kept_trans hbo (al_any _ _))) HLR.out
               · exact (And.left (by assumption : Below w2.heap.size w2 _ ∧ _)).size
               intro v5 w5 hown5 hgr5
               have hB5 := (And.left (by assumption : Below w2.heap.size w2 _ ∧ _)).grown hgr5 (And.left (by assumption : Below w2.heap.size w2 _ ∧ _)).size HG.out
               have hown6 := Lib.hid hown5
               obtain ⟨v7, k7, rfl⟩ := hown5.form
               clear hgr5))
        have K5 := Lib.hid (And.left (by assumption : Below w2.heap.size w2 w5 ∧ _))
        clear hB5 hown5 ht hbt hbo HSX
        go_wp2_with fail
        go_roundg (L.length + 1 - (r + 1))
        case measure => have := HR.out; omega
        case rel => exact ⟨r + 1, os ++ [⟨(nx : Int), ts⟩], v7, k7, HR.out, rfl, by first | rfl | go_num, by first | rfl | simp, HSR, Lib.hid (by rw [List.length_append]; have := HOL.out; simp only [List.length_cons, List.length_nil]; omega), hown6, K5⟩
    · obtain rfl : r = L.length := by omega
      have hn0 : ¬ (L.length : Int) < (L.length : Int) := by omega
      have KF := kept_hid K2 KZ.out
      clear hrt hr
      go_wp2_with fail
      go_ret
      rw [← HEND.out, ← HOS.out]
      exact ⟨va, vc, rfl, flds_mono OF.out K2.out.size, KF.out⟩
end Red
end Go.Proofs.YtpdlpmbjhopnnaaDoor
