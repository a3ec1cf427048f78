/- Let of the document. Written by tools/gen_win.py. -/
import Derived.Test.YteggdfkmncikpaaDoorWinRr
import Derived.Deep.QuietTactic
import Derived.BigQuiet
import Derived.StillTailTactics
import Derived.Deep.Cut
import Derived.Deep.LoopGhost
import Derived.Deep.RegionLaw
import Derived.Deep.RegionHeld3
import Derived.IntWalk
import Derived.Lib.SmallJoins
namespace Go.Proofs.YteggdfkmncikpaaDoor
open Go.RowKit Sha Six Apd Cut Err
set_option linter.unusedVariables false
set_option linter.unusedSimpArgs false
namespace Win
/-- A window and a number. -/
def ShownL (w w' : World) (s : W) (code : Nat) (e : Ending) : Prop := e = .returned (.tuple #[.agg #[.int .i64 s.top, .int .u64 (s.bits : Int)], .int .i64 (code : Int)]) ∧ Below w.heap.size w w'
theorem bits_small {s : W} (hb : s.bits < 18446744073709551616) : Fit s → s.bits < 18446744073709551616 := fun _ => hb
set_option maxRecDepth 100000 in
set_option maxHeartbeats 8000000 in
theorem rlet_any (s : W) (n : Int) (w : World) (hr : right s = true) (hf : Fit s) (hn : IntKind.i64.wrap n = n) : Calls Tryd.prog 12 #[.agg #[.int .i64 s.top, .int .u64 (s.bits : Int)], .int .i64 n] w fun e w' => ShownL w w' (lets s n).1 (lets s n).2 e := by
  obtain ⟨ht0, ht1⟩ := right_fit hr
  have HH := Lib.hid fun W => rhas_any s n W hf (by omega) ht1
  have HL := Lib.hid fun W => list_any s W hf (by omega) ht1
  have hbt : s.bits < 18446744073709551616 := hf.bits
  by_cases h1 : 1 ≤ n
  case neg =>
    rw [show lets s n = (s, 1) from if_pos (.inl (by omega))]
    obtain ⟨t, b⟩ := s
    simp only at hbt ht0 ht1 ⊢
    clear HH HL hf
    have h1 : n < 1 := by omega
    have ES : (w.alloc (.cells #[.int .i64 t, .int .u64 (b : Int)] 24)).heap.size = w.heap.size + 1 := by simp
    have HB := Lib.hid (kept_trans (al_any w (.cells #[.int .i64 t, .int .u64 (b : Int)] 24)) (al_any _ (.cells #[.int .i64 0, .int .u64 0] 24)))
    have HX := Lib.hid (heap_alloc2_old w (.cells #[.int .i64 t, .int .u64 (b : Int)] 24) (.cells #[.int .i64 0, .int .u64 0] 24))
    have HY := Lib.hid (heap_alloc2_new w (.cells #[.int .i64 t, .int .u64 (b : Int)] 24) (.cells #[.int .i64 0, .int .u64 0] 24))
    go_enter Tryd.func12, Tryd.ntmps12
    go_upto_region 1 with (fail)
    clear ES
    generalize (w.alloc _).alloc _ = w1 at *
    obtain ⟨c0, c1⟩ := cells2 HX.out
    have SF := Lib.hid (over2 w1 (w.heap.size + 1) 24 _ _ (.int .i64 t) (.int .u64 (b : Int)) HY.out)
    obtain ⟨y0, y1⟩ := cells2 HY.out
    obtain ⟨f0, f1⟩ := free2 HY.out
    go_wp2_with fail
    clear y0 y1 f0 f1
    generalize (w1.setCell _ _).setCell _ _ = w9 at *
    exact bodyPost_ret (v := .tuple #[.agg #[.int .i64 t, .int .u64 (b : Int)], .int .i64 1]) (results_cell_row_tmp rfl _ _ _ (w.heap.size + 1) _ rfl (run_loadVar_row _ (w.heap.size + 1) 24 24 _ (0, 0) _ SF.out.1 Tryd.underlying24 rfl (by kernel_rfl)) (.int .i64 1) rfl) rfl ⟨by first | rfl | (rw [HQ.out]; rfl), HB.out.grown SF.out.2 HB.out.size (by intro g hg; injection hg with hg; omega)⟩
  case pos =>
  by_cases h2 : n ≤ 4611686018427387904
  case neg =>
    rw [show lets s n = (s, 1) from if_pos (.inr (by omega))]
    obtain ⟨t, b⟩ := s
    simp only at hbt ht0 ht1 ⊢
    clear HH HL hf
    have h1 : ¬ n < 1 := by omega
    have h2 : 4611686018427387904 < n := by omega
    have ES : (w.alloc (.cells #[.int .i64 t, .int .u64 (b : Int)] 24)).heap.size = w.heap.size + 1 := by simp
    have HB := Lib.hid (kept_trans (al_any w (.cells #[.int .i64 t, .int .u64 (b : Int)] 24)) (al_any _ (.cells #[.int .i64 0, .int .u64 0] 24)))
    have HX := Lib.hid (heap_alloc2_old w (.cells #[.int .i64 t, .int .u64 (b : Int)] 24) (.cells #[.int .i64 0, .int .u64 0] 24))
    have HY := Lib.hid (heap_alloc2_new w (.cells #[.int .i64 t, .int .u64 (b : Int)] 24) (.cells #[.int .i64 0, .int .u64 0] 24))
    go_enter Tryd.func12, Tryd.ntmps12
    go_upto_region 1 with (fail)
    clear ES
    generalize (w.alloc _).alloc _ = w1 at *
    obtain ⟨c0, c1⟩ := cells2 HX.out
    have SF := Lib.hid (over2 w1 (w.heap.size + 1) 24 _ _ (.int .i64 t) (.int .u64 (b : Int)) HY.out)
    obtain ⟨y0, y1⟩ := cells2 HY.out
    obtain ⟨f0, f1⟩ := free2 HY.out
    go_wp2_with fail
    clear y0 y1 f0 f1
    generalize (w1.setCell _ _).setCell _ _ = w9 at *
    exact bodyPost_ret (v := .tuple #[.agg #[.int .i64 t, .int .u64 (b : Int)], .int .i64 1]) (results_cell_row_tmp rfl _ _ _ (w.heap.size + 1) _ rfl (run_loadVar_row _ (w.heap.size + 1) 24 24 _ (0, 0) _ SF.out.1 Tryd.underlying24 rfl (by kernel_rfl)) (.int .i64 1) rfl) rfl ⟨by first | rfl | (rw [HQ.out]; rfl), HB.out.grown SF.out.2 HB.out.size (by intro g hg; injection hg with hg; omega)⟩
  case pos =>
  have h1' : ¬ n < 1 := by omega
  have HLN := Lib.hid (show (list s).length ≤ 64 from listTo_len s 64)
  by_cases h3 : s.top < n
  · rw [show lets s n = (in_ s n, 0) from by unfold lets; rw [if_neg (by omega), if_neg (by omega)]]
    have HI := Lib.hid (show in_ s n = ⟨n, orb n (n :: list s) 0⟩ from by
      have e1 : (in_ s n).top = n := by rw [in_top, if_pos h3]
      have e2 := in_orb (s := s) (n := n) hr hbt (by omega)
      rw [e1] at e2
      exact (show in_ s n = ⟨(in_ s n).top, (in_ s n).bits⟩ from rfl).trans (by rw [e1, e2]))
    have HMEM := Lib.hid (show ∀ x ∈ n :: list s, 1 ≤ x ∧ x ≤ n from fun x hx => by
      rcases List.mem_cons.1 hx with rfl | hx
      · omega
      · have a1 := has_pos hr (mem_list.1 hx)
        have a2 := has_le (mem_list.1 hx)
        omega)
    generalize in_ s n = si at *
    generalize list s = l at *
    obtain ⟨t, b⟩ := s
    simp only at *
    obtain rfl := HI.out
    clear HH hf HI
    have h3' : ¬ n ≤ t := by omega
    have ES : (w.alloc (.cells #[.int .i64 t, .int .u64 (b : Int)] 24)).heap.size = w.heap.size + 1 := by simp
    have HB := Lib.hid (kept_trans (al_any w (.cells #[.int .i64 t, .int .u64 (b : Int)] 24)) (al_any _ (.cells #[.int .i64 0, .int .u64 0] 24)))
    have HX := Lib.hid (heap_alloc2_old w (.cells #[.int .i64 t, .int .u64 (b : Int)] 24) (.cells #[.int .i64 0, .int .u64 0] 24))
    have HY := Lib.hid (heap_alloc2_new w (.cells #[.int .i64 t, .int .u64 (b : Int)] 24) (.cells #[.int .i64 0, .int .u64 0] 24))
    go_enter Tryd.func12, Tryd.ntmps12
    go_upto_region 1 with (fail)
    clear ES
    generalize (w.alloc _).alloc _ = w1 at *
    obtain ⟨c0, c1⟩ := cells2 HX.out
    go_upto_region 5 with (fail)
    have X2 := HX
    have Y2 := HY
    have K2 := HB
    clear HX HY HB c0 c1
    generalize w1 = w2 at *
    obtain ⟨c0, c1⟩ := cells2 X2.out
    have HA := al_any w2 (.cells #[.int .i64 t, .int .u64 0] 24)
    have U3 := Lib.hid (heap_alloc_new w2 (.cells #[.int .i64 t, .int .u64 0] 24))
    have X3 := Lib.hid (blk X2.out HA)
    have Y3 := Lib.hid (blk Y2.out HA)
    have K3 := kept_hid K2 HA
    have HG := Lib.hid (there_lt Y2.out)
    clear HA X2 Y2 K2
    go_upto_region 6 with (fail)
    generalize w2.heap.size = G at *
    generalize w2.alloc _ = w3 at *
    have HS4 := heap_setCell_same _ G 0 _ 24 (.int .i64 n) U3.out
    have HG4 : w3.grownBy (w3.setCell ⟨G, 0, none⟩ (.int .i64 n)) (some G) := gsetCell _ _ _ _
    have U4 := Lib.hid (show (w3.setCell ⟨G, 0, none⟩ (.int .i64 n)).heap[G]? = some (.cells #[.int .i64 n, .int .u64 0] 24 (0, 0)) from HS4)
    have X4 := Lib.hid ((HG4.block _ (there_lt X3.out) (by intro h; injection h with h; have := HG.out; omega)).trans X3.out)
    have Y4 := Lib.hid ((HG4.block _ (there_lt Y3.out) (by intro h; injection h with h; have := HG.out; omega)).trans Y3.out)
    have K4 := Lib.hid (K3.out.grown HG4 K3.out.size (by intro g hg; injection hg with hg; have := HG.out; omega))
    clear HS4 HG4
    clear c0 c1
    obtain ⟨c0, c1⟩ := cells2 X3.out
    obtain ⟨u0, u1⟩ := cells2 U3.out
    obtain ⟨g0, g1⟩ := free2 U3.out
    go_upto_region 8 with (fail)
    clear c0 c1 u0 u1 g0 g1 U3 X3 Y3 K3
    generalize w3.setCell _ _ = w4 at *
    have HA := al_any w4 (.cells #[.int .i64 n] 3)
    have L5 := Lib.hid (lit_is w4 w4.heap.size n (Nat.le_refl _))
    have U5 := Lib.hid (blk U4.out HA)
    have X5 := Lib.hid (blk X4.out HA)
    have Y5 := Lib.hid (blk Y4.out HA)
    have K5 := kept_hid K4 HA
    have HGL := Lib.hid (there_lt U4.out)
    clear HA U4 X4 Y4 K4
    obtain ⟨c0, c1⟩ := cells2 X5.out
    go_wp2_with fail
    generalize w4.heap.size = M at *
    generalize w4.alloc _ = w5 at *
    with_reducible refine (HL.out _).mono ?_
    rintro e w6 ⟨ad, c, rfl, ho, hb⟩
    have K6 := kept_hid K5 hb
    have U6 := Lib.hid (blk U5.out hb)
    have X6 := Lib.hid (blk X5.out hb)
    have Y6 := Lib.hid (blk Y5.out hb)
    have L6 := Lib.hid (L5.out.below hb)
    have O6 := Lib.hid ho
    have M6 := Lib.hid (Nat.le_trans (Nat.le_of_lt (own_lt L5.out)) hb.size)
    have HW := Lib.hid (own_ge L6.out)
    clear hb ho K5 U5 X5 Y5 L5 HL c0 c1
    go_wp2_with (at_builtin; refine wpList_mark ?_)
    refine Lib.hid ?_
    refine append_is rfl (.tmp 43) (.tmp 45) rfl M (.slice (some ⟨M, 0, none⟩) 1 1) [n] rfl L6.out w5.heap.size ad c l rfl O6.out (by have := HLN.out; simp only [List.length_cons, List.length_nil]; omega) M6.out ?_
    intro v' w7 hown hgr
    have HBW := (Below.refl M _).grown hgr M6.out HW.out
    have O7 := Lib.hid (show OwnIs w7 M v' (n :: l) from hown)
    have U7 := Lib.hid ((HBW.block _ HGL.out).trans U6.out)
    have X7 := Lib.hid ((HBW.block _ (by have := HGL.out; have := HG.out; omega)).trans X6.out)
    have Y7 := Lib.hid ((HBW.block _ (by have := HGL.out; have := HG.out; omega)).trans Y6.out)
    have K7 := Lib.hid (K6.out.trans (HBW.mono (by have := HGL.out; have := HG.out; omega)))
    obtain ⟨v7, k7, rfl⟩ := O7.out.form
    clear hown hgr HBW O6 U6 X6 Y6 K6 L6 M6 HW
    have HMEM := Lib.hid HMEM.out
    have HLL := Lib.hid (show (n :: l).length ≤ 65 by have := HLN.out; simp only [List.length_cons]; omega)
    generalize hq : n :: l = q at O7 HMEM HLL
    have HQ := Lib.hid hq
    clear hq
    go_wp2_with fail
    go_loopg [8] (q.length + 1) (fun mm ii wr => ∃ (k : Nat), k ≤ q.length ∧ mm = q.length + 1 - k ∧ ii = .int .i64 (k : Int) ∧ Hid (wr.heap[G]? = some (.cells #[.int .i64 n, .int .u64 (orb n (q.take k) 0 : Nat)] 24 (0, 0))) ∧ Hid (OwnIs wr M (.slice v7 q.length k7) q) ∧ Hid (wr.heap[w.heap.size + 1]? = some (.cells #[.int .i64 0, .int .u64 0] 24 (0, 0))) ∧ Hid (Below w.heap.size w wr))
    case atStart => exact ⟨0, Nat.zero_le _, rfl, rfl, U7, O7, Y7, K7⟩
    case round =>
      obtain ⟨k, hk, rfl, rfl, UR, OR, YR, KR⟩ := hrel
      have HK := Lib.hid hk
      clear U7 O7 Y7 K7 X7
      by_cases hlt : k < q.length
      · have HLT := Lib.hid hlt
        have hj : (k : Int) < (q.length : Int) := by omega
        have hj0 : (0 : Int) ≤ (k : Int) := by omega
        obtain ⟨g, rfl, hMg, _, d0, _⟩ := OR.out.cell hlt
        rw [Nat.zero_add] at d0
        have ew : wrap64 ((k : Int) + 1) = (k : Int) + 1 := by have := HLL.out; rw [IntWalk.wrap64_in] <;> omega
        have hm := HMEM.out (q.getD k 0) (by rw [List.getD_eq_getElem?_getD, List.getElem?_eq_getElem hlt]; exact List.getElem_mem _)
        have HST := Lib.hid (orb_step n q k hlt)
        have HBL := Lib.hid (orb_lt n (q.take k) 0 (fun x hx => (HMEM.out x (List.mem_of_mem_take hx)).2) (by decide))
        obtain ⟨x, hx⟩ : ∃ x, x = q.getD k 0 := ⟨_, rfl⟩
        rw [← hx] at hm HST d0
        have HXK := Lib.hid hx
        clear hx
        generalize orb n (q.take k) 0 = ob at *
        obtain ⟨j, hj2⟩ := Int.eq_ofNat_of_zero_le (show 0 ≤ n - x by omega)
        have hsub : wrap64 (n - x) = (j : Int) := by rw [hj2, IntWalk.wrap64_in]; omega
        replace hj2 := Lib.hid hj2
        obtain ⟨u0, u1⟩ := cells2 UR.out
        obtain ⟨g0, g1⟩ := free2 UR.out
        by_cases h64 : j < 64
        · have h64i : (j : Int) < 64 := by omega
          have h64j : n - x < 64 := by have := hj2.out; omega
          have HST := Lib.hid (HST.out.trans (by rw [if_pos (by have := hj2.out; omega), hj2.out, Int.toNat_natCast]))
          have hc : IntKind.u64.wrap (j : Int) = (j : Int) := wi64 _ (by omega) (by omega)
          have hs1 : IntKind.u64.wrap (2 ^ j) = ((1 <<< j : Nat) : Int) := by
            have := one_shl j h64
            rwa [Nat.min_eq_left (by omega)] at this
          have hs2 := one_shl j h64
          have ho := or_nat ob (1 <<< j) HBL.out (shift_lt h64)
          generalize 1 <<< j = sj at *
          generalize hob : ob ||| sj = ob2 at *
          clear hob HBL hm hk hlt
          have HDN := Lib.hid fun m => (show Below wr.heap.size wr (wr.drewN m) from Six.below_drewN _ _ _)
          go_wp2_with fail
          go_upto_region 12 with (fail)
          go_quiet (fail)
          have UD := Lib.hid (blk UR.out (HDN.out nq))
          have YD := Lib.hid (blk YR.out (HDN.out nq))
          have OD := Lib.hid (OR.out.below (HDN.out nq))
          have KD := kept_hid KR (HDN.out nq)
          clear u0 u1 g0 g1 d0 UR YR OR KR HDN
          generalize wr.drewN nq = wd at *
          obtain ⟨u0, u1⟩ := cells2 UD.out
          obtain ⟨g', hg', _, _, d0, _⟩ := OD.out.cell HLT.out
          injection hg' with hg'
          injection hg' with hg' _ _
          subst hg'
          rw [Nat.zero_add] at d0
          replace d0 : wd.cell? ⟨g, k, none⟩ = some (.int .i64 x) := by rw [d0, ← HXK.out]
          go_upto_region 13 with (fail)
          go_still_tail 13, (by kernel_rfl)
          change wpList _ _ _ _ _ wd.drew
          have HDW := (Below.refl wd.heap.size wd).drew
          have UE := Lib.hid (blk UD.out HDW)
          have YE := Lib.hid (blk YD.out HDW)
          have OE := Lib.hid (OD.out.below HDW)
          have KE := kept_hid KD HDW
          clear HDW UD YD OD KD u0 u1 d0
          generalize wd.drew = we at *
          obtain ⟨u0, u1⟩ := cells2 UE.out
          obtain ⟨g0, g1⟩ := free2 UE.out
          have HS := heap_setCell_same _ G 1 _ 24 (.int .u64 (ob2 : Int)) UE.out
          have HGS : we.grownBy (we.setCell ⟨G, 1, none⟩ (.int .u64 (ob2 : Int))) (some G) := gsetCell _ _ _ _
          have UF := Lib.hid (show (we.setCell ⟨G, 1, none⟩ (.int .u64 (ob2 : Int))).heap[G]? = some (.cells #[.int .i64 n, .int .u64 (ob2 : Int)] 24 (0, 0)) from HS)
          have YF := Lib.hid ((HGS.block _ (there_lt YE.out) (by intro h; injection h with h; have := HG.out; omega)).trans YE.out)
          have KF := Lib.hid (KE.out.grown HGS KE.out.size (by intro g hg; injection hg with hg; have := HG.out; omega))
          have OF := Lib.hid (show OwnIs _ M _ q from own_other OE.out HGS HGL.out)
          clear HS HGS UE YE OE KE
          go_upto_region 11 with (fail)
          first | rw [hsub, hc, Int.toNat_natCast, hs2, ho] | rw [hs2, ho] | rw [hs1, ho] | skip
          clear u0 u1 g0 g1 hs1 hs2 ho hc hsub h64i
          generalize we.setCell _ _ = wf at *
          go_wp2_with fail
          go_roundg (q.length + 1 - (k + 1))
          case measure => have := HLT.out; omega
          case rel => exact ⟨k + 1, HLT.out, rfl, by first | exact congrArg (Value.int .i64) ew | rfl, by rw [HST.out]; exact UF, OF, YF, KF⟩
        · have h64i : ¬ (j : Int) < 64 := by omega
          have h64j : decide (n - x < 64) = false := decide_eq_false (by have := hj2.out; omega)
          have h64k : decide ((j : Int) < 64) = false := decide_eq_false (by omega)
          have HST := Lib.hid (HST.out.trans (by rw [if_neg (by have := hj2.out; omega)]))
          have HDN := Lib.hid fun m => (show Below wr.heap.size wr (wr.drewN m) from Six.below_drewN _ _ _)
          clear hk hlt hm HBL
          go_wp2_with fail
          go_upto_region 12 with (fail)
          go_quiet (fail)
          have UD := Lib.hid (blk UR.out (HDN.out nq))
          have YD := Lib.hid (blk YR.out (HDN.out nq))
          have OD := Lib.hid (OR.out.below (HDN.out nq))
          have KD := kept_hid KR (HDN.out nq)
          clear u0 u1 g0 g1 d0 UR YR OR KR HDN
          generalize wr.drewN nq = wd at *
          go_wp2_with fail
          go_roundg (q.length + 1 - (k + 1))
          case measure => have := HLT.out; omega
          case rel => exact ⟨k + 1, HLT.out, rfl, by first | exact congrArg (Value.int .i64) ew | rfl, by rw [HST.out]; exact UD, OD, YD, KD⟩
      · obtain rfl : k = q.length := by omega
        have hj : ¬ (q.length : Int) < (q.length : Int) := by omega
        rw [List.take_length] at UR
        obtain ⟨u0, u1⟩ := cells2 UR.out
        clear hk hlt
        have SF := Lib.hid (over2 wr (w.heap.size + 1) 24 _ _ (.int .i64 n) (.int .u64 ((orb n q 0 : Nat) : Int)) YR.out)
        obtain ⟨y0, y1⟩ := cells2 YR.out
        obtain ⟨f0, f1⟩ := free2 YR.out
        go_wp2_with fail
        clear y0 y1 f0 f1
        generalize (wr.setCell _ _).setCell _ _ = w9 at *
        exact bodyPost_ret (v := .tuple #[.agg #[.int .i64 n, .int .u64 ((orb n q 0 : Nat) : Int)], .int .i64 0]) (results_cell_row_tmp rfl _ _ _ (w.heap.size + 1) _ rfl (run_loadVar_row _ (w.heap.size + 1) 24 24 _ (0, 0) _ SF.out.1 Tryd.underlying24 rfl (by kernel_rfl)) (.int .i64 0) rfl) rfl ⟨by first | rfl | (rw [HQ.out]; rfl), KR.out.grown SF.out.2 KR.out.size (by intro g hg; injection hg with hg; omega)⟩
  · have h3' : n ≤ s.top := by omega
    obtain ⟨m, hm⟩ := Int.eq_ofNat_of_zero_le (show 0 ≤ s.top - n by omega)
    by_cases h64 : 64 ≤ m
    · rw [show lets s n = (s, 12) from lets_old h1 h2 (by omega)]
      obtain ⟨t, b⟩ := s
      simp only at hbt ht0 ht1 h3 h3' hm ⊢
      clear HH HL hf
      have h64i : (64 : Int) ≤ t - n := by omega
      have h64j : (64 : Int) ≤ wrap64 (t - n) := by rw [IntWalk.wrap64_in] <;> omega
      clear hm
      have ES : (w.alloc (.cells #[.int .i64 t, .int .u64 (b : Int)] 24)).heap.size = w.heap.size + 1 := by simp
      have HB := Lib.hid (kept_trans (al_any w (.cells #[.int .i64 t, .int .u64 (b : Int)] 24)) (al_any _ (.cells #[.int .i64 0, .int .u64 0] 24)))
      have HX := Lib.hid (heap_alloc2_old w (.cells #[.int .i64 t, .int .u64 (b : Int)] 24) (.cells #[.int .i64 0, .int .u64 0] 24))
      have HY := Lib.hid (heap_alloc2_new w (.cells #[.int .i64 t, .int .u64 (b : Int)] 24) (.cells #[.int .i64 0, .int .u64 0] 24))
      go_enter Tryd.func12, Tryd.ntmps12
      go_upto_region 1 with (fail)
      clear ES
      generalize (w.alloc _).alloc _ = w1 at *
      obtain ⟨c0, c1⟩ := cells2 HX.out
      have SF := Lib.hid (over2 w1 (w.heap.size + 1) 24 _ _ (.int .i64 t) (.int .u64 (b : Int)) HY.out)
      obtain ⟨y0, y1⟩ := cells2 HY.out
      obtain ⟨f0, f1⟩ := free2 HY.out
      go_wp2_with fail
      clear y0 y1 f0 f1
      generalize (w1.setCell _ _).setCell _ _ = w9 at *
      exact bodyPost_ret (v := .tuple #[.agg #[.int .i64 t, .int .u64 (b : Int)], .int .i64 12]) (results_cell_row_tmp rfl _ _ _ (w.heap.size + 1) _ rfl (run_loadVar_row _ (w.heap.size + 1) 24 24 _ (0, 0) _ SF.out.1 Tryd.underlying24 rfl (by kernel_rfl)) (.int .i64 12) rfl) rfl ⟨by first | rfl | (rw [HQ.out]; rfl), HB.out.grown SF.out.2 HB.out.size (by intro g hg; injection hg with hg; omega)⟩
    · have h64i : ¬ (64 : Int) ≤ s.top - n := by omega
      have h64j : decide ((64 : Int) ≤ wrap64 (s.top - n)) = false := decide_eq_false (by rw [IntWalk.wrap64_in] <;> omega)
      clear hm
      cases hh : has s n with
      | true =>
        rw [hh] at HH
        rw [show lets s n = (s, 12) from by unfold lets; rw [if_neg (by omega), if_pos ⟨h3', .inr hh⟩]]
        obtain ⟨t, b⟩ := s
        simp only at *
        clear HL hf
        have ES : (w.alloc (.cells #[.int .i64 t, .int .u64 (b : Int)] 24)).heap.size = w.heap.size + 1 := by simp
        have HB := Lib.hid (kept_trans (al_any w (.cells #[.int .i64 t, .int .u64 (b : Int)] 24)) (al_any _ (.cells #[.int .i64 0, .int .u64 0] 24)))
        have HX := Lib.hid (heap_alloc2_old w (.cells #[.int .i64 t, .int .u64 (b : Int)] 24) (.cells #[.int .i64 0, .int .u64 0] 24))
        have HY := Lib.hid (heap_alloc2_new w (.cells #[.int .i64 t, .int .u64 (b : Int)] 24) (.cells #[.int .i64 0, .int .u64 0] 24))
        go_enter Tryd.func12, Tryd.ntmps12
        go_upto_region 1 with (fail)
        clear ES
        generalize (w.alloc _).alloc _ = w1 at *
        obtain ⟨c0, c1⟩ := cells2 HX.out
        go_wp2_with fail
        with_reducible refine (HH.out _).mono ?_
        rintro e w2 ⟨rfl, hb⟩
        have K2 := kept_hid HB hb
        have X2 := Lib.hid (blk HX.out hb)
        have Y2 := Lib.hid (blk HY.out hb)
        clear hb HB HX HY c0 c1 HH
        obtain ⟨c0, c1⟩ := cells2 X2.out
        have SF := Lib.hid (over2 w2 (w.heap.size + 1) 24 _ _ (.int .i64 t) (.int .u64 (b : Int)) Y2.out)
        obtain ⟨y0, y1⟩ := cells2 Y2.out
        obtain ⟨f0, f1⟩ := free2 Y2.out
        go_wp2_with fail
        clear y0 y1 f0 f1
        generalize (w2.setCell _ _).setCell _ _ = w9 at *
        exact bodyPost_ret (v := .tuple #[.agg #[.int .i64 t, .int .u64 (b : Int)], .int .i64 12]) (results_cell_row_tmp rfl _ _ _ (w.heap.size + 1) _ rfl (run_loadVar_row _ (w.heap.size + 1) 24 24 _ (0, 0) _ SF.out.1 Tryd.underlying24 rfl (by kernel_rfl)) (.int .i64 12) rfl) rfl ⟨by first | rfl | (rw [HQ.out]; rfl), K2.out.grown SF.out.2 K2.out.size (by intro g hg; injection hg with hg; omega)⟩
      | false =>
        rw [hh] at HH
        rw [show lets s n = (in_ s n, 0) from by unfold lets; rw [if_neg (by omega), if_neg (fun h => h.2.elim (fun h => absurd h (by omega)) (fun h => by rw [hh] at h; cases h))]]
        have HI := Lib.hid (show in_ s n = ⟨s.top, orb s.top (n :: list s) 0⟩ from by
          have e1 : (in_ s n).top = s.top := by rw [in_top, if_neg h3]
          have e2 := in_orb (s := s) (n := n) hr hbt (by omega)
          rw [e1] at e2
          exact (show in_ s n = ⟨(in_ s n).top, (in_ s n).bits⟩ from rfl).trans (by rw [e1, e2]))
        have HMEM := Lib.hid (show ∀ x ∈ n :: list s, 1 ≤ x ∧ x ≤ s.top from fun x hx => by
          rcases List.mem_cons.1 hx with rfl | hx
          · omega
          · have a1 := has_pos hr (mem_list.1 hx)
            have a2 := has_le (mem_list.1 hx)
            omega)
        generalize in_ s n = si at *
        generalize list s = l at *
        obtain ⟨t, b⟩ := s
        simp only at *
        obtain rfl := HI.out
        clear hf HI hh
        have ES : (w.alloc (.cells #[.int .i64 t, .int .u64 (b : Int)] 24)).heap.size = w.heap.size + 1 := by simp
        have HB := Lib.hid (kept_trans (al_any w (.cells #[.int .i64 t, .int .u64 (b : Int)] 24)) (al_any _ (.cells #[.int .i64 0, .int .u64 0] 24)))
        have HX := Lib.hid (heap_alloc2_old w (.cells #[.int .i64 t, .int .u64 (b : Int)] 24) (.cells #[.int .i64 0, .int .u64 0] 24))
        have HY := Lib.hid (heap_alloc2_new w (.cells #[.int .i64 t, .int .u64 (b : Int)] 24) (.cells #[.int .i64 0, .int .u64 0] 24))
        go_enter Tryd.func12, Tryd.ntmps12
        go_upto_region 1 with (fail)
        clear ES
        generalize (w.alloc _).alloc _ = w1 at *
        obtain ⟨c0, c1⟩ := cells2 HX.out
        go_wp2_with fail
        with_reducible refine (HH.out _).mono ?_
        rintro e w2 ⟨rfl, hb⟩
        have K2 := kept_hid HB hb
        have X2 := Lib.hid (blk HX.out hb)
        have Y2 := Lib.hid (blk HY.out hb)
        clear hb HB HX HY c0 c1 HH
        obtain ⟨c0, c1⟩ := cells2 X2.out
        go_upto_region 5 with (fail)
        clear c0 c1 h64i h64j h64
        obtain ⟨c0, c1⟩ := cells2 X2.out
        have HA := al_any w2 (.cells #[.int .i64 t, .int .u64 0] 24)
        have U3 := Lib.hid (heap_alloc_new w2 (.cells #[.int .i64 t, .int .u64 0] 24))
        have X3 := Lib.hid (blk X2.out HA)
        have Y3 := Lib.hid (blk Y2.out HA)
        have K3 := kept_hid K2 HA
        have HG := Lib.hid (there_lt Y2.out)
        clear HA X2 Y2 K2
        go_upto_region 6 with (fail)
        generalize w2.heap.size = G at *
        generalize w2.alloc _ = w3 at *
        have U4 := U3
        have X4 := X3
        have Y4 := Y3
        have K4 := K3
        clear U3 X3 Y3 K3 c0 c1
        obtain ⟨c0, c1⟩ := cells2 X4.out
        go_upto_region 8 with (fail)
        clear c0 c1
        generalize w3 = w4 at *
        have HA := al_any w4 (.cells #[.int .i64 n] 3)
        have L5 := Lib.hid (lit_is w4 w4.heap.size n (Nat.le_refl _))
        have U5 := Lib.hid (blk U4.out HA)
        have X5 := Lib.hid (blk X4.out HA)
        have Y5 := Lib.hid (blk Y4.out HA)
        have K5 := kept_hid K4 HA
        have HGL := Lib.hid (there_lt U4.out)
        clear HA U4 X4 Y4 K4
        obtain ⟨c0, c1⟩ := cells2 X5.out
        go_wp2_with fail
        generalize w4.heap.size = M at *
        generalize w4.alloc _ = w5 at *
        with_reducible refine (HL.out _).mono ?_
        rintro e w6 ⟨ad, c, rfl, ho, hb⟩
        have K6 := kept_hid K5 hb
        have U6 := Lib.hid (blk U5.out hb)
        have X6 := Lib.hid (blk X5.out hb)
        have Y6 := Lib.hid (blk Y5.out hb)
        have L6 := Lib.hid (L5.out.below hb)
        have O6 := Lib.hid ho
        have M6 := Lib.hid (Nat.le_trans (Nat.le_of_lt (own_lt L5.out)) hb.size)
        have HW := Lib.hid (own_ge L6.out)
        clear hb ho K5 U5 X5 Y5 L5 HL c0 c1
        go_wp2_with (at_builtin; refine wpList_mark ?_)
        refine Lib.hid ?_
        refine append_is rfl (.tmp 43) (.tmp 45) rfl M (.slice (some ⟨M, 0, none⟩) 1 1) [n] rfl L6.out w5.heap.size ad c l rfl O6.out (by have := HLN.out; simp only [List.length_cons, List.length_nil]; omega) M6.out ?_
        intro v' w7 hown hgr
        have HBW := (Below.refl M _).grown hgr M6.out HW.out
        have O7 := Lib.hid (show OwnIs w7 M v' (n :: l) from hown)
        have U7 := Lib.hid ((HBW.block _ HGL.out).trans U6.out)
        have X7 := Lib.hid ((HBW.block _ (by have := HGL.out; have := HG.out; omega)).trans X6.out)
        have Y7 := Lib.hid ((HBW.block _ (by have := HGL.out; have := HG.out; omega)).trans Y6.out)
        have K7 := Lib.hid (K6.out.trans (HBW.mono (by have := HGL.out; have := HG.out; omega)))
        obtain ⟨v7, k7, rfl⟩ := O7.out.form
        clear hown hgr HBW O6 U6 X6 Y6 K6 L6 M6 HW
        have HMEM := Lib.hid HMEM.out
        have HLL := Lib.hid (show (n :: l).length ≤ 65 by have := HLN.out; simp only [List.length_cons]; omega)
        generalize hq : n :: l = q at O7 HMEM HLL
        have HQ := Lib.hid hq
        clear hq
        go_wp2_with fail
        go_loopg [8] (q.length + 1) (fun mm ii wr => ∃ (k : Nat), k ≤ q.length ∧ mm = q.length + 1 - k ∧ ii = .int .i64 (k : Int) ∧ Hid (wr.heap[G]? = some (.cells #[.int .i64 t, .int .u64 (orb t (q.take k) 0 : Nat)] 24 (0, 0))) ∧ Hid (OwnIs wr M (.slice v7 q.length k7) q) ∧ Hid (wr.heap[w.heap.size + 1]? = some (.cells #[.int .i64 0, .int .u64 0] 24 (0, 0))) ∧ Hid (Below w.heap.size w wr))
        case atStart => exact ⟨0, Nat.zero_le _, rfl, rfl, U7, O7, Y7, K7⟩
        case round =>
          obtain ⟨k, hk, rfl, rfl, UR, OR, YR, KR⟩ := hrel
          have HK := Lib.hid hk
          clear U7 O7 Y7 K7 X7
          by_cases hlt : k < q.length
          · have HLT := Lib.hid hlt
            have hj : (k : Int) < (q.length : Int) := by omega
            have hj0 : (0 : Int) ≤ (k : Int) := by omega
            obtain ⟨g, rfl, hMg, _, d0, _⟩ := OR.out.cell hlt
            rw [Nat.zero_add] at d0
            have ew : wrap64 ((k : Int) + 1) = (k : Int) + 1 := by have := HLL.out; rw [IntWalk.wrap64_in] <;> omega
            have hm := HMEM.out (q.getD k 0) (by rw [List.getD_eq_getElem?_getD, List.getElem?_eq_getElem hlt]; exact List.getElem_mem _)
            have HST := Lib.hid (orb_step t q k hlt)
            have HBL := Lib.hid (orb_lt t (q.take k) 0 (fun x hx => (HMEM.out x (List.mem_of_mem_take hx)).2) (by decide))
            obtain ⟨x, hx⟩ : ∃ x, x = q.getD k 0 := ⟨_, rfl⟩
            rw [← hx] at hm HST d0
            have HXK := Lib.hid hx
            clear hx
            generalize orb t (q.take k) 0 = ob at *
            obtain ⟨j, hj2⟩ := Int.eq_ofNat_of_zero_le (show 0 ≤ t - x by omega)
            have hsub : wrap64 (t - x) = (j : Int) := by rw [hj2, IntWalk.wrap64_in]; omega
            replace hj2 := Lib.hid hj2
            obtain ⟨u0, u1⟩ := cells2 UR.out
            obtain ⟨g0, g1⟩ := free2 UR.out
            by_cases h64 : j < 64
            · have h64i : (j : Int) < 64 := by omega
              have h64j : t - x < 64 := by have := hj2.out; omega
              have HST := Lib.hid (HST.out.trans (by rw [if_pos (by have := hj2.out; omega), hj2.out, Int.toNat_natCast]))
              have hc : IntKind.u64.wrap (j : Int) = (j : Int) := wi64 _ (by omega) (by omega)
              have hs1 : IntKind.u64.wrap (2 ^ j) = ((1 <<< j : Nat) : Int) := by
                have := one_shl j h64
                rwa [Nat.min_eq_left (by omega)] at this
              have hs2 := one_shl j h64
              have ho := or_nat ob (1 <<< j) HBL.out (shift_lt h64)
              generalize 1 <<< j = sj at *
              generalize hob : ob ||| sj = ob2 at *
              clear hob HBL hm hk hlt
              have HDN := Lib.hid fun m => (show Below wr.heap.size wr (wr.drewN m) from Six.below_drewN _ _ _)
              go_wp2_with fail
              go_upto_region 12 with (fail)
              go_quiet (fail)
              have UD := Lib.hid (blk UR.out (HDN.out nq))
              have YD := Lib.hid (blk YR.out (HDN.out nq))
              have OD := Lib.hid (OR.out.below (HDN.out nq))
              have KD := kept_hid KR (HDN.out nq)
              clear u0 u1 g0 g1 d0 UR YR OR KR HDN
              generalize wr.drewN nq = wd at *
              obtain ⟨u0, u1⟩ := cells2 UD.out
              obtain ⟨g', hg', _, _, d0, _⟩ := OD.out.cell HLT.out
              injection hg' with hg'
              injection hg' with hg' _ _
              subst hg'
              rw [Nat.zero_add] at d0
              replace d0 : wd.cell? ⟨g, k, none⟩ = some (.int .i64 x) := by rw [d0, ← HXK.out]
              go_upto_region 13 with (fail)
              go_still_tail 13, (by kernel_rfl)
              change wpList _ _ _ _ _ wd.drew
              have HDW := (Below.refl wd.heap.size wd).drew
              have UE := Lib.hid (blk UD.out HDW)
              have YE := Lib.hid (blk YD.out HDW)
              have OE := Lib.hid (OD.out.below HDW)
              have KE := kept_hid KD HDW
              clear HDW UD YD OD KD u0 u1 d0
              generalize wd.drew = we at *
              obtain ⟨u0, u1⟩ := cells2 UE.out
              obtain ⟨g0, g1⟩ := free2 UE.out
              have HS := heap_setCell_same _ G 1 _ 24 (.int .u64 (ob2 : Int)) UE.out
              have HGS : we.grownBy (we.setCell ⟨G, 1, none⟩ (.int .u64 (ob2 : Int))) (some G) := gsetCell _ _ _ _
              have UF := Lib.hid (show (we.setCell ⟨G, 1, none⟩ (.int .u64 (ob2 : Int))).heap[G]? = some (.cells #[.int .i64 t, .int .u64 (ob2 : Int)] 24 (0, 0)) from HS)
              have YF := Lib.hid ((HGS.block _ (there_lt YE.out) (by intro h; injection h with h; have := HG.out; omega)).trans YE.out)
              have KF := Lib.hid (KE.out.grown HGS KE.out.size (by intro g hg; injection hg with hg; have := HG.out; omega))
              have OF := Lib.hid (show OwnIs _ M _ q from own_other OE.out HGS HGL.out)
              clear HS HGS UE YE OE KE
              go_upto_region 11 with (fail)
              first | rw [hsub, hc, Int.toNat_natCast, hs2, ho] | rw [hs2, ho] | rw [hs1, ho] | skip
              clear u0 u1 g0 g1 hs1 hs2 ho hc hsub h64i
              generalize we.setCell _ _ = wf at *
              go_wp2_with fail
              go_roundg (q.length + 1 - (k + 1))
              case measure => have := HLT.out; omega
              case rel => exact ⟨k + 1, HLT.out, rfl, by first | exact congrArg (Value.int .i64) ew | rfl, by rw [HST.out]; exact UF, OF, YF, KF⟩
            · have h64i : ¬ (j : Int) < 64 := by omega
              have h64j : decide (t - x < 64) = false := decide_eq_false (by have := hj2.out; omega)
              have h64k : decide ((j : Int) < 64) = false := decide_eq_false (by omega)
              have HST := Lib.hid (HST.out.trans (by rw [if_neg (by have := hj2.out; omega)]))
              have HDN := Lib.hid fun m => (show Below wr.heap.size wr (wr.drewN m) from Six.below_drewN _ _ _)
              clear hk hlt hm HBL
              go_wp2_with fail
              go_upto_region 12 with (fail)
              go_quiet (fail)
              have UD := Lib.hid (blk UR.out (HDN.out nq))
              have YD := Lib.hid (blk YR.out (HDN.out nq))
              have OD := Lib.hid (OR.out.below (HDN.out nq))
              have KD := kept_hid KR (HDN.out nq)
              clear u0 u1 g0 g1 d0 UR YR OR KR HDN
              generalize wr.drewN nq = wd at *
              go_wp2_with fail
              go_roundg (q.length + 1 - (k + 1))
              case measure => have := HLT.out; omega
              case rel => exact ⟨k + 1, HLT.out, rfl, by first | exact congrArg (Value.int .i64) ew | rfl, by rw [HST.out]; exact UD, OD, YD, KD⟩
          · obtain rfl : k = q.length := by omega
            have hj : ¬ (q.length : Int) < (q.length : Int) := by omega
            rw [List.take_length] at UR
            obtain ⟨u0, u1⟩ := cells2 UR.out
            clear hk hlt
            have SF := Lib.hid (over2 wr (w.heap.size + 1) 24 _ _ (.int .i64 t) (.int .u64 ((orb t q 0 : Nat) : Int)) YR.out)
            obtain ⟨y0, y1⟩ := cells2 YR.out
            obtain ⟨f0, f1⟩ := free2 YR.out
            go_wp2_with fail
            clear y0 y1 f0 f1
            generalize (wr.setCell _ _).setCell _ _ = w9 at *
            exact bodyPost_ret (v := .tuple #[.agg #[.int .i64 t, .int .u64 ((orb t q 0 : Nat) : Int)], .int .i64 0]) (results_cell_row_tmp rfl _ _ _ (w.heap.size + 1) _ rfl (run_loadVar_row _ (w.heap.size + 1) 24 24 _ (0, 0) _ SF.out.1 Tryd.underlying24 rfl (by kernel_rfl)) (.int .i64 0) rfl) rfl ⟨by first | rfl | (rw [HQ.out]; rfl), KR.out.grown SF.out.2 KR.out.size (by intro g hg; injection hg with hg; omega)⟩
end Win
end Go.Proofs.YteggdfkmncikpaaDoor
