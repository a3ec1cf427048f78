/- The law FieldParts. -/
import Derived.Test.YtoacookbfpcncaaFldAwake
import Derived.Test.YtoacookbfpcncaaFldCov
import Derived.Test.YtoacookbfpcncaaGrdFew
import Derived.Test.YtoacookbfpcncaaGrdEq
import Derived.Test.YtoacookbfpcncaaGrdRow
import Derived.Test.YtoacookbfpcncaaOpnScr
import Derived.Deep.RegionHeld3
import Derived.Deep.Cut
import Derived.Deep.LoopGhost
import Derived.StillTailTactics
namespace Go.Proofs.Ytoacookbfpcncaa
open Go.RowKit Sha Six Apd Cut Err Att Grd
set_option linter.unusedVariables false
namespace Fld
theorem run_neqAA (p n : Bool) (s : Int) (m : Bool) (w : World) :
    (binOp BinOp.neq 33 (.agg #[.bool p, .bool n, .int .i64 s, .bool m]) (.agg #[.bool p, .bool n, .int .i64 s, .bool m])).run Try.prog w = .ok (.bool false) w := by
  rw [run_neq_struct, run_eqA]; simp [Result.andThen]
theorem prt_of {cs : List C} {i : Nat} {f p n : Bool} {s : Int} {m : Bool} {c : Nat} (h : cs.getD i noC = ⟨f, p, n, s, m, c⟩) : (cs.getD i noC).p = p := by rw [h]
set_option maxRecDepth 100000 in
set_option maxHeartbeats 8000000 in
theorem parts_any (s : S) (ad : Option Addr) (k : Nat) (w : World) (h : CelsIn w (.slice ad s.cs.length k) s.cs) (hwf : Opn.Wf s.cs) (hm : s.cs.length ≤ maxLen) :
    Calls Try.prog 5 #[.agg #[.int .i64 s.rows, .int .i64 s.cols, .slice ad s.cs.length k, .int .i64 s.cur, .bool s.lk, .bool s.ins]] w fun e w' => e = .returned (.bool true) ∧ Below w.heap.size w w' := by
  have HAW := Lib.hid fun W => awake_any W
  have HB := Lib.hid (al_any w (.cells #[.int .i64 s.rows, .int .i64 s.cols, .slice ad s.cs.length k, .int .i64 s.cur, .bool s.lk, .bool s.ins] 24))
  have HX := Lib.hid (heap_alloc_new w (.cells #[.int .i64 s.rows, .int .i64 s.cols, .slice ad s.cs.length k, .int .i64 s.cur, .bool s.lk, .bool s.ins] 24))
  have HI := Lib.hid (h.below HB.out)
  have HF := Lib.hid fun W hb => rfew_any s ad k W (HI.out.below hb) (wf_sound hwf)
  have HSD := Lib.hid (wf_sound hwf)
  clear h hwf hm
  cases hf : few s with
  | false =>
    rw [hf] at HF
    go_enter Try.func5, Try.ntmps5
    go_upto_region 1 with (fail)
    generalize w.alloc _ = w1 at *
    go_wp2_with fail
    with_reducible refine (HAW.out _).mono ?_
    rintro e w2 ⟨rfl, hb⟩
    have K2 := Lib.hid hb
    obtain ⟨c0, c1, c2, c3, c4, c5⟩ := cells6 (blk HX.out hb)
    clear hb
    go_wp2_with fail
    with_reducible refine (HF.out _ K2.out).mono ?_
    rintro e w3 ⟨rfl, hb⟩
    have K3 := kept_hid HB (kept_trans K2.out hb)
    clear hb c0 c1 c2 c3 c4 c5
    go_wp2_with fail
    with_reducible refine (HAW.out _).mono ?_
    rintro e w4 ⟨rfl, hb⟩
    have K4 := kept_hid K3 hb
    clear hb
    go_wp2_with fail
    go_ret
    exact ⟨rfl, K4.out⟩
  | true =>
    rw [hf] at HF
    obtain ⟨q1, q2, _⟩ := few_parts hf
    have HL := Lib.hid q1
    have HP := Lib.hid q2
    have HZ := Lib.hid (show 0 < s.cs.length by omega)
    have HLT := Lib.hid (show s.cs.length < 10000 by omega)
    have HLC := Lib.hid (show s.cs.length < 100000000 by omega)
    clear hf q1 q2
    go_enter Try.func5, Try.ntmps5
    go_upto_region 1 with (fail)
    generalize w.alloc _ = w1 at *
    go_wp2_with fail
    with_reducible refine (HAW.out _).mono ?_
    rintro e w2 ⟨rfl, hb⟩
    have K2 := Lib.hid hb
    obtain ⟨c0, c1, c2, c3, c4, c5⟩ := cells6 (blk HX.out hb)
    clear hb
    go_wp2_with fail
    with_reducible refine (HF.out _ K2.out).mono ?_
    rintro e w3 ⟨rfl, hb⟩
    have K3 := kept_hid HB (kept_trans K2.out hb)
    have X3 := Lib.hid (blk HX.out (kept_trans K2.out hb))
    have I3 := Lib.hid (HI.out.below (kept_trans K2.out hb))
    clear hb c0 c1 c2 c3 c4 c5 HAW HF HX HB HI K2
    have HRB := Lib.hid (fbegins_any s ad k w3 I3.out HSD.out HZ.out HLT.out)
    have HNB := Lib.hid (show (begins s.cs).length ≤ s.cs.length from by have := List.length_filter_le (fat s.cs) (List.range s.cs.length); rw [List.length_range] at this; exact this)
    obtain ⟨c0, c1, c2, c3, c4, c5⟩ := cells6 X3.out
    go_wp2_with fail
    with_reducible refine HRB.out.mono ?_
    rintro e w4 ⟨v, rfl, ho, hb⟩
    obtain ⟨va, vc, rfl⟩ := ho.form
    have K4 := kept_hid K3 hb
    have X4 := Lib.hid (blk X3.out hb)
    have I4 := Lib.hid (I3.out.below hb)
    have B4 := Lib.hid ho
    clear hb ho HRB X3 I3 K3 c0 c1 c2 c3 c4 c5
    obtain ⟨c0, c1, c2, c3, c4, c5⟩ := cells6 X4.out
    go_wp2_with (at_make; refine wpList_mark ?_)
    clear c0 c1 c2 c3 c4 c5
    refine Lib.hid ?_
    obtain ⟨i0, hi, hz0, hz1, hz2⟩ := info_parts info_int
    refine wpList_make_full _ rfl _ _ 30 rfl w4.heap.size 3 i0 _ 1 Try.underlying30 hi hz0 hz1 .i64 .i64 _ _ s.cs.length rfl rfl rfl rfl ?_ ?_ ?_ ?_
    · rw [hz2]; have := HL.out; omega
    · have := HL.out; unfold maxLen; omega
    · exact Nat.le_refl _
    intro w5 hown hgr
    have HB5 := Lib.hid (show Below w4.heap.size w4 w5 from belowg hgr)
    have O5 := Lib.hid (show OwnInts w5 w4.heap.size (.slice (some ⟨w4.heap.size, 0, none⟩) s.cs.length s.cs.length) (ind (cov s.cs 0) s.cs.length) from by
      rw [ind_congr (q := fun _ => false) (fun c _ => cov_zero s.cs c), ind_zero]
      unfold OwnInts
      rw [List.length_replicate]
      rw [show (madeCells (Value.cells (.int .i64 0)) (s.cs.length * 1)).toList = i64s (List.replicate s.cs.length 0) by rw [Nat.mul_one]; show (madeCells #[.int .i64 0] s.cs.length).toList = _; rw [toList_madeCells_one]; simp [i64s]] at hown
      exact hown)
    clear hown hgr hi hz0 hz1 hz2
    have HKF := Lib.hid fun (W : World) (hb : Below w4.heap.size w4 W) => kept_trans K4.out hb
    have HXF := Lib.hid fun (W : World) (hb : Below w4.heap.size w4 W) => cells6 (blk X4.out hb)
    have HXB := Lib.hid fun (W : World) (hb : Below w4.heap.size w4 W) => blk X4.out hb
    have HIF := Lib.hid fun (W : World) (hb : Below w4.heap.size w4 W) => I4.out.below hb
    have HBF := Lib.hid fun (W : World) (hb : Below w4.heap.size w4 W) => B4.out.below hb
    have HGS := Lib.hid (show w4.heap.size < w5.heap.size from by
      obtain ⟨g, e, _, h2, _⟩ := OwnInts.cell O5.out (i := 0) (by rw [ind_len]; exact HZ.out)
      injection e with e; injection e with e; omega)
    generalize hgs : w4.heap.size = gs at *
    generalize hn : (begins s.cs).length = n at *
    replace hn := Lib.hid hn
    clear hgs X4 I4 B4 K4
    go_wp2_with fail
    go_loopg [5] (n + 1) (fun m i wr => ∃ q : Nat, q ≤ n ∧ m = n + 1 - q ∧ i = .int .i64 q ∧ Hid (Below gs w4 wr) ∧ Hid (gs < wr.heap.size) ∧ Hid (OwnInts wr gs (.slice (some ⟨gs, 0, none⟩) s.cs.length s.cs.length) (ind (cov s.cs q) s.cs.length)))
    case atStart => exact ⟨0, Nat.zero_le _, rfl, rfl, HB5, HGS, O5⟩
    case round =>
      clear HB5 HGS O5
      obtain ⟨q, hq, rfl, rfl, HB, HG, HO⟩ := hrel
      have ew : IntKind.i64.wrap ((q : Int) + 1) = (q : Int) + 1 := by
        have := HL.out; have := HNB.out
        rw [IntWalk.i64_in] <;> omega
      by_cases hlt : q < n
      · have hqb : q < (begins s.cs).length := by rw [hn.out]; exact hlt
        obtain ⟨hb1, hb2⟩ := begins_at hqb
        have HCN := Lib.hid (cov_new hqb)
        have HCS := Lib.hid (covk_start s.cs q)
        have HCK := Lib.hid fun k => covk_new (k := k) hqb
        have HCT := Lib.hid (covk_step s.cs q)
        have HCE := Lib.hid fun c => covk_end (c := c) hqb
        have HRI := Lib.hid fun p (hp : p < q) => begins_rise hp hqb
        have HAC := Lib.hid fun k => attr_cell (k := k) hb1 hb2
        have HOC := Lib.hid fun k => open_cell_ (k := k) hb1 hb2
        have HBC := Lib.hid fun k => begin_of_cell (i := k) hb1 hb2
        have HOB := Lib.hid (open_begin hb2)
        have HCL := Lib.hid (clen_some hb1 hb2).1
        have HCC := Lib.hid (show cells s.cs ((begins s.cs).getD q 0) = cellsAt s.cs (((begins s.cs).getD q 0 : Nat) : Int) by unfold cells; rw [begin_self hb1 hb2])
        obtain ⟨gb, rfl, _, hgb, db, _⟩ := OwnInts.cell (HBF.out wr HB.out) hqb
        rw [Nat.zero_add] at db
        have HDB := Lib.hid fun (W : World) (h : Below gs w4 W) => show W.cell? ⟨gb, q, none⟩ = some (.int .i64 (((begins s.cs).getD q 0 : Nat) : Int)) from by
          obtain ⟨g2, e2, _, _, d2, _⟩ := OwnInts.cell (HBF.out W h) hqb
          injection e2 with e2
          injection e2 with e2
          subst e2
          rwa [Nat.zero_add] at d2
        obtain ⟨xf, xp, xn, xs, xm, xc, ex⟩ := c_eta (s.cs.getD ((begins s.cs).getD q 0) noC)
        obtain ⟨b1, o1, rfl, g0, g1, g2, g3, g4, g5⟩ := (HIF.out wr HB.out).cells hb1 ex
        have hxf : xf = true := by rw [← fat_of ex]; exact hb2
        subst hxf
        have HEX := Lib.hid ex
        have HDG := Lib.hid fun (W : World) (h : Below gs w4 W) => show W.cell? ⟨b1, o1 + (begins s.cs).getD q 0 * 6, none⟩ = some (.bool true) ∧ W.cell? ⟨b1, o1 + (begins s.cs).getD q 0 * 6 + 1, none⟩ = some (.bool xp) ∧ W.cell? ⟨b1, o1 + (begins s.cs).getD q 0 * 6 + 1 + 1, none⟩ = some (.bool xn) ∧ W.cell? ⟨b1, o1 + (begins s.cs).getD q 0 * 6 + 1 + 2, none⟩ = some (.int .i64 xs) ∧ W.cell? ⟨b1, o1 + (begins s.cs).getD q 0 * 6 + 1 + 3, none⟩ = some (.bool xm) from by
          obtain ⟨b2, o2, e2, k0, k1, k2, k3, k4, k5⟩ := (HIF.out W h).cells hb1 ex
          injection e2 with e2
          injection e2 with e2 e3
          subst e2
          subst e3
          exact ⟨k0, k1, k2, k3, k4⟩
        have HBL := Lib.hid hb1
        have HQB := Lib.hid hqb
        have HZ2 := Lib.hid (on_lt (z := s.cs.length) HZ.out)
        clear ex g0 g1 g2 g3 g4 g5 hb2 hqb hgb
        cases q with
        | zero =>
          generalize hbq : (begins s.cs).getD (0) 0 = b at *
          replace hbq := Lib.hid hbq
          have hi0 : (0 : Int) ≤ (b : Int) := by omega
          have hi1 : (b : Int) < (s.cs.length : Int) := by omega
          have HOP := Lib.hid fun W (h : Below gs w4 W) => fopen_any s (some ⟨b1, o1, none⟩) k b W (HIF.out W h) HSD.out HZ.out HLT.out HBL.out
          rw [HOB.out] at HOP
          have hqn : (0 : Int) < (n : Int) := by omega
          obtain ⟨c0, c1, c2, c3, c4, c5⟩ := HXF.out wr HB.out
          obtain ⟨g0, g1, g2, g3, g4⟩ := HDG.out wr HB.out
          go_wp2_with fail
          refine wp_region_still_tail 32 (by kernel_rfl) (by kernel_rfl) ?_
          simp only [List.take_succ_cons, List.take_zero, List.drop_succ_cons, List.drop_zero]
          iterate 32 (with_reducible refine wpStill_step (fun K hK => ?_); go_simp; with_reducible refine hK _ ?_; clear hK K)
          with_reducible refine wpStill_nil ?_
          change wpList _ _ _ _ _ wr.drew
          have HD := Lib.hid (Below.refl wr.heap.size wr).drew
          generalize wr.drew = wd at *
          go_wp2_with fail
          with_reducible refine (HOP.out _ (HB.out.trans (HD.out.mono (Nat.le_of_lt HG.out)))).mono ?_
          rintro e w6 ⟨rfl, hb⟩
          have h6 := kept_trans HD.out hb
          have K6 := Lib.hid (HB.out.trans (h6.mono (Nat.le_of_lt HG.out)))
          have O6 := Lib.hid (HO.out.below h6)
          have G6 := Lib.hid (Nat.lt_of_lt_of_le HG.out h6.size)
          clear h6 hb HD HOP c0 c1 c2 c3 c4 c5 g0 g1 g2 g3 g4 db
          have db := HDB.out w6 K6.out
          obtain ⟨gz, ez, _, _, ds, fs⟩ := OwnInts.cell O6.out (i := b) (by rw [ind_len]; exact HBL.out)
          injection ez with ez
          injection ez with ez
          subst ez
          rw [Nat.zero_add, ind_getD HBL.out, HCN.out, if_neg (by decide)] at ds
          rw [Nat.zero_add] at fs
          have ds : w6.cell? ⟨gs, b, none⟩ = some (.int .i64 0) := ds
          have SS := OwnInts.set O6.out b 1
          rw [ind_set HBL.out, ind_congr (q := covk s.cs (0) 0) (fun c _ => by rw [HCS.out c])] at SS
          have O7 := Lib.hid (show OwnInts (w6.setCell ⟨gs, b, none⟩ (.int .i64 1)) gs (.slice (some ⟨gs, 0, none⟩) s.cs.length s.cs.length) (ind (covk s.cs (0) 0) s.cs.length) from SS.1)
          have K7 := Lib.hid (show Below gs w4 (w6.setCell ⟨gs, b, none⟩ (.int .i64 1)) from K6.out.setCell (p := ⟨gs, b, none⟩) (Nat.le_refl _) _)
          have G7 := Lib.hid (show gs < (w6.setCell ⟨gs, b, none⟩ (.int .i64 1)).heap.size from Nat.lt_of_lt_of_le G6.out SS.2.size)
          clear SS HCS HCN O6 G6
          go_wp2_with fail
          clear db ds fs
          generalize w6.setCell ⟨gs, b, none⟩ (.int .i64 1) = w7 at *
          obtain ⟨c0, c1, c2, c3, c4, c5⟩ := HXF.out w7 K7.out
          have db := HDB.out w7 K7.out
          refine wp_region_still_tail 5 (by kernel_rfl) (by kernel_rfl) ?_
          simp only [List.take_succ_cons, List.take_zero, List.drop_succ_cons, List.drop_zero]
          iterate 5 (with_reducible refine wpStill_step (fun K hK => ?_); go_simp; with_reducible refine hK _ ?_; clear hK K)
          with_reducible refine wpStill_nil ?_
          change wpList _ _ _ _ _ w7.drew
          have K7' := Lib.hid K7.out.drew
          have O7' := Lib.hid (O7.out.below (Below.refl w7.heap.size w7).drew)
          have G7' := Lib.hid (show gs < w7.drew.heap.size from G7.out)
          clear K7 O7 G7 c0 c1 c2 c3 c4 c5 db K6
          generalize w7.drew = wd7 at *
          have HCL2 := Lib.hid (fcells_any s (some ⟨b1, o1, none⟩) k b wd7 (HIF.out wd7 K7'.out) HSD.out HZ.out HLT.out HBL.out)
          go_wp2_with fail
          with_reducible refine HCL2.out.mono ?_
          rintro e w8 ⟨v, rfl, ho, hb⟩
          obtain ⟨va, vl, rfl⟩ := ho.form
          have HLN := Lib.hid (show (cells s.cs b).length = clen s.cs (b : Int) by rw [HCC.out, cells_len])
          have HLG := Lib.hid fun r (hr : r < clen s.cs (b : Int)) => show (cells s.cs b).getD r 0 = on s.cs.length (b : Int) ((r : Int) + 1) by rw [HCC.out, cells_getD hr]
          have K8 := Lib.hid (K7'.out.trans (hb.mono (Nat.le_of_lt G7'.out)))
          have O8 := Lib.hid (O7'.out.below hb)
          have G8 := Lib.hid (Nat.lt_of_lt_of_le G7'.out hb.size)
          have L8 := Lib.hid ho
          have HGB := Lib.hid G7'.out
          generalize wd7.heap.size = base at *
          generalize hNN : (cells s.cs b).length = N at *
          replace HLN := Lib.hid (HLN.out)
          replace hNN := Lib.hid hNN
          have HNZ := Lib.hid (show N < s.cs.length by have := HLN.out; have := HCL.out; omega)
          clear hb ho K7' O7' G7' HCL2 HB HG HO
          go_wp2_with fail
          obtain ⟨wo, hwo⟩ : ∃ wo : World, wo = wr := ⟨_, rfl⟩
          subst hwo
          go_loopg [7] (N + 1) (fun m i wz => ∃ r : Nat, r ≤ N ∧ m = N + 1 - r ∧ i = .int .i64 r ∧ Hid (Below gs w4 wz) ∧ Hid (gs < wz.heap.size) ∧ Hid (OwnInts wz gs (.slice (some ⟨gs, 0, none⟩) s.cs.length s.cs.length) (ind (covk s.cs (0) r) s.cs.length)) ∧ Hid (OwnInts wz base (.slice va N vl) (cells s.cs b)))
          case atStart => exact ⟨0, Nat.zero_le _, rfl, rfl, K8, G8, O8, L8⟩
          case round =>
            clear K8 G8 O8 L8
            obtain ⟨r, hr, rfl, rfl, HB, HG, HO, HLL⟩ := hrel
            have ewr : IntKind.i64.wrap ((r : Int) + 1) = (r : Int) + 1 := by
              have := HL.out; have := HNZ.out
              rw [IntWalk.i64_in] <;> omega
            by_cases hrt : r < N
            · have hrc : r < clen s.cs (b : Int) := by have := HLN.out; omega
              have hcz := HZ2.out (b : Int) ((r : Int) + 1)
              have HCKr := Lib.hid (HCK.out r hrc)
              have HCTr := Lib.hid (HCT.out r)
              have HACr := Lib.hid (HAC.out r hrc)
              have HOCr := Lib.hid (HOC.out r hrc)
              have HBCr := Lib.hid (HBC.out r hrc)
              obtain ⟨gl, rfl, hgb3, hgl, dl, _⟩ := OwnInts.cell HLL.out (i := r) (by rw [hNN.out]; exact hrt)
              rw [Nat.zero_add, HLG.out r hrc] at dl
              generalize on s.cs.length (b : Int) ((r : Int) + 1) = c at *
              have HCZ := Lib.hid hcz
              have Q1 := Lib.hid fun W (h : Below gs w4 W) => fbegin_any s (some ⟨b1, o1, none⟩) k c W (HIF.out W h) HSD.out HZ.out HLT.out hcz
              have Q2 := Lib.hid fun W (h : Below gs w4 W) => fof_any s (some ⟨b1, o1, none⟩) k c W (HIF.out W h) HSD.out HZ.out HLT.out hcz
              have Q3 := Lib.hid fun W (h : Below gs w4 W) => fopen_any s (some ⟨b1, o1, none⟩) k c W (HIF.out W h) HSD.out HZ.out HLT.out hcz
              simp only [HBCr.out] at Q1
              simp only [HACr.out, HEX.out] at Q2
              simp only [HOCr.out, HEX.out] at Q3
              obtain ⟨gz, ez, _, _, ds, fs⟩ := OwnInts.cell HO.out (i := c) (by rw [ind_len]; exact hcz)
              injection ez with ez
              injection ez with ez
              subst ez
              rw [Nat.zero_add, ind_getD hcz, HCKr.out, if_neg (by decide)] at ds
              rw [Nat.zero_add] at fs
              have ds : wr.cell? ⟨gs, c, none⟩ = some (.int .i64 0) := ds
              have SS := OwnInts.set HO.out c 1
              rw [ind_set hcz, ind_congr (q := covk s.cs (0) (r + 1)) (fun x _ => by rw [HCTr.out x])] at SS
              have hlk := World.ownsRow.kept HLL.out SS.2 (.inr (fun e => by simp [Value.ownBlock] at e; have := HGB.out; omega))
              have O9 := Lib.hid (show OwnInts (wr.setCell ⟨gs, c, none⟩ (.int .i64 1)) gs (.slice (some ⟨gs, 0, none⟩) s.cs.length s.cs.length) (ind (covk s.cs (0) (r + 1)) s.cs.length) from SS.1)
              have K9 := Lib.hid (show Below gs w4 (wr.setCell ⟨gs, c, none⟩ (.int .i64 1)) from HB.out.setCell (p := ⟨gs, c, none⟩) (Nat.le_refl _) _)
              have G9 := Lib.hid (show gs < (wr.setCell ⟨gs, c, none⟩ (.int .i64 1)).heap.size from Nat.lt_of_lt_of_le HG.out SS.2.size)
              have L9 := Lib.hid (show OwnInts (wr.setCell ⟨gs, c, none⟩ (.int .i64 1)) base (.slice (some ⟨gl, 0, none⟩) N vl) (cells s.cs b) from hlk)
              have D9 := Lib.hid (show (wr.setCell ⟨gs, c, none⟩ (.int .i64 1)).cell? ⟨gl, r, none⟩ = some (.int .i64 (c : Int)) from by
                rw [World.cell?_setCell_other _ _ _ _ (fun e => by injection e with e _ _; have := HGB.out; omega)]; exact dl)
              have hri0 : (0 : Int) ≤ (r : Int) := by omega
              have hri1 : (r : Int) < (N : Int) := by omega
              have hci0 : (0 : Int) ≤ (c : Int) := by omega
              have hci1 : (c : Int) < (s.cs.length : Int) := by omega
              have hr0 : (r : Int) < (N : Int) := by omega
              clear SS hlk hcz HO HB HG HLL hgl hgb3
              go_wp2_with fail
              clear ds fs dl
              generalize wr.setCell ⟨gs, c, none⟩ (.int .i64 1) = w9 at *
              have hneq := run_neqAA xp xn xs xm
              have HSS := Lib.hid (show ∀ W', Below w9.heap.size w9 W' → Below w9.heap.size w9 W' ∧ W'.cell? ⟨w.heap.size, 0, none⟩ = some (.int .i64 s.rows) ∧ W'.cell? ⟨w.heap.size, 1, none⟩ = some (.int .i64 s.cols) ∧ W'.cell? ⟨w.heap.size, 2, none⟩ = some (.slice (some ⟨b1, o1, none⟩) s.cs.length k) ∧ W'.cell? ⟨w.heap.size, 3, none⟩ = some (.int .i64 s.cur) ∧ W'.cell? ⟨w.heap.size, 4, none⟩ = some (.bool s.lk) ∧ W'.cell? ⟨w.heap.size, 5, none⟩ = some (.bool s.ins) ∧ W'.cell? ⟨gl, r, none⟩ = some (.int .i64 (c : Int)) ∧ W'.cell? ⟨gb, 0, none⟩ = some (.int .i64 (b : Int)) ∧ W'.cell? ⟨b1, o1 + b * 6 + 1, none⟩ = some (.bool xp) ∧ W'.cell? ⟨b1, o1 + b * 6 + 1 + 1, none⟩ = some (.bool xn) ∧ W'.cell? ⟨b1, o1 + b * 6 + 1 + 2, none⟩ = some (.int .i64 xs) ∧ W'.cell? ⟨b1, o1 + b * 6 + 1 + 3, none⟩ = some (.bool xm) from fun W' hB =>
                have hg := K9.out.trans (hB.mono (Nat.le_of_lt G9.out))
                have E := HXF.out W' hg
                have F := HDG.out W' hg
                ⟨hB, E.1, E.2.1, E.2.2.1, E.2.2.2.1, E.2.2.2.2.1, E.2.2.2.2.2, (hB.cell (p := ⟨gl, _, none⟩) (cell_lt D9.out)).trans D9.out, HDB.out W' hg, F.2.1, F.2.2.1, F.2.2.2.1, F.2.2.2.2⟩)
              have HPP := Lib.hid fun W' (hB : Below w9.heap.size w9 W') => K9.out.trans (hB.mono (Nat.le_of_lt G9.out))
              first
                | go_region_held3 (fun W' => Below w9.heap.size w9 W' ∧ W'.cell? ⟨w.heap.size, 0, none⟩ = some (.int .i64 s.rows) ∧ W'.cell? ⟨w.heap.size, 1, none⟩ = some (.int .i64 s.cols) ∧ W'.cell? ⟨w.heap.size, 2, none⟩ = some (.slice (some ⟨b1, o1, none⟩) s.cs.length k) ∧ W'.cell? ⟨w.heap.size, 3, none⟩ = some (.int .i64 s.cur) ∧ W'.cell? ⟨w.heap.size, 4, none⟩ = some (.bool s.lk) ∧ W'.cell? ⟨w.heap.size, 5, none⟩ = some (.bool s.ins) ∧ W'.cell? ⟨gl, r, none⟩ = some (.int .i64 (c : Int)) ∧ W'.cell? ⟨gb, 0, none⟩ = some (.int .i64 (b : Int)) ∧ W'.cell? ⟨b1, o1 + b * 6 + 1, none⟩ = some (.bool xp) ∧ W'.cell? ⟨b1, o1 + b * 6 + 1 + 1, none⟩ = some (.bool xn) ∧ W'.cell? ⟨b1, o1 + b * 6 + 1 + 2, none⟩ = some (.int .i64 xs) ∧ W'.cell? ⟨b1, o1 + b * 6 + 1 + 3, none⟩ = some (.bool xm))
                    (first | with_reducible exact HSS.out _ (Below.refl _ _).drew | with_reducible exact HSS.out _ (Below.refl _ _) | with_reducible exact HSS.out _ (And.left (by assumption)) | with_reducible exact HSS.out _ (kept_trans (And.left (by assumption)) hb))
                    (first
                      | (go_at_call 13; with_reducible refine (Q1.out _ (HPP.out _ (And.left (by assumption)))).mono ?_; rintro e wa ⟨rfl, hb⟩)
                      | (go_at_call 18; with_reducible refine (Q2.out _ (HPP.out _ (And.left (by assumption)))).mono ?_; rintro e we ⟨rfl, hb⟩)
                      | (go_at_call 20; with_reducible refine (Q3.out _ (HPP.out _ (And.left (by assumption)))).mono ?_; rintro e wf ⟨rfl, hb⟩))
                | fail "no"
              all_goals
                have hS := And.left (by assumption : Below w9.heap.size w9 wf ∧ _)
                have KA := Lib.hid (HPP.out _ hS)
                have OA := Lib.hid (O9.out.below hS)
                have GA := Lib.hid (Nat.lt_of_lt_of_le G9.out hS.size)
                have LA := Lib.hid (L9.out.below hS)
                clear hS hb HSS HPP Q1 Q2 Q3 K9 O9 G9 L9 D9
                rename_i hHeld
                clear hHeld
                go_wp2_with fail
                go_roundg (N + 1 - (r + 1))
                case measure => omega
                case rel => exact ⟨r + 1, by omega, rfl, by first | rfl | go_num, KA, GA, OA, LA⟩
            · obtain rfl : r = N := by omega
              have hr0 : ¬ (r : Int) < (r : Int) := by omega
              have OE := Lib.hid (show OwnInts wr gs (.slice (some ⟨gs, 0, none⟩) s.cs.length s.cs.length) (ind (cov s.cs (0 + 1)) s.cs.length) from by
                rw [← ind_congr (p := covk s.cs (0) r) (fun c hc => by rw [HLN.out]; exact HCE.out c hc)]; exact HO.out)
              clear HO HLL ewr hrt
              go_wp2_with fail
              go_roundg (n + 1 - (0 + 1))
              case measure => omega
              case rel => exact ⟨0 + 1, by omega, rfl, by first | rfl | go_num | (rw [ew2]; rfl), HB, HG, OE⟩
        | succ q' =>
          obtain ⟨gb2, e2, _, hgb2, db2, _⟩ := OwnInts.cell (HBF.out wr HB.out) (i := q') (by have := HQB.out; omega)
          injection e2 with e2
          injection e2 with e2
          subst e2
          rw [Nat.zero_add] at db2
          have hrise := HRI.out q' (by omega)
          have hge : ¬ (begins s.cs).getD (q' + 1) 0 ≤ (begins s.cs).getD q' 0 := by omega
          have hge2 : ¬ ((((begins s.cs).getD (q' + 1) 0 : Nat) : Int) ≤ (((begins s.cs).getD q' 0 : Nat) : Int)) := by omega
          have hq0 : (0 : Int) ≤ (q' : Int) + 1 := by omega
          have hq1 : (q' : Int) + 1 < (n : Int) := by omega
          have hq2 : (0 : Int) ≤ (q' : Int) := by omega
          have hq3 : (q' : Int) < (n : Int) := by omega
          have hq4 : (0 : Int) < (q' : Int) + 1 := by omega
          have ew2 : wrap64 ((q' : Int) + 1 + 1) = (q' : Int) + 1 + 1 := by
            have := HL.out; have := HNB.out; unfold wrap64; omega
          have hq5 : IntKind.i64.wrap (q' : Int) = (q' : Int) := by
            have := HL.out; have := HNB.out
            rw [IntWalk.i64_in] <;> omega
          generalize (begins s.cs).getD q' 0 = bp at *
          generalize hbq : (begins s.cs).getD (q' + 1) 0 = b at *
          replace hbq := Lib.hid hbq
          have hi0 : (0 : Int) ≤ (b : Int) := by omega
          have hi1 : (b : Int) < (s.cs.length : Int) := by omega
          have HOP := Lib.hid fun W (h : Below gs w4 W) => fopen_any s (some ⟨b1, o1, none⟩) k b W (HIF.out W h) HSD.out HZ.out HLT.out HBL.out
          rw [HOB.out] at HOP
          have hqn : ((q' : Int) + 1 : Int) < (n : Int) := by omega
          obtain ⟨c0, c1, c2, c3, c4, c5⟩ := HXF.out wr HB.out
          obtain ⟨g0, g1, g2, g3, g4⟩ := HDG.out wr HB.out
          go_wp2_with fail
          refine wp_region_still_tail 32 (by kernel_rfl) (by kernel_rfl) ?_
          simp only [List.take_succ_cons, List.take_zero, List.drop_succ_cons, List.drop_zero]
          iterate 32 (with_reducible refine wpStill_step (fun K hK => ?_); go_simp; with_reducible refine hK _ ?_; clear hK K)
          with_reducible refine wpStill_nil ?_
          change wpList _ _ _ _ _ wr.drew
          have HD := Lib.hid (Below.refl wr.heap.size wr).drew
          generalize wr.drew = wd at *
          go_wp2_with fail
          with_reducible refine (HOP.out _ (HB.out.trans (HD.out.mono (Nat.le_of_lt HG.out)))).mono ?_
          rintro e w6 ⟨rfl, hb⟩
          have h6 := kept_trans HD.out hb
          have K6 := Lib.hid (HB.out.trans (h6.mono (Nat.le_of_lt HG.out)))
          have O6 := Lib.hid (HO.out.below h6)
          have G6 := Lib.hid (Nat.lt_of_lt_of_le HG.out h6.size)
          clear h6 hb HD HOP c0 c1 c2 c3 c4 c5 g0 g1 g2 g3 g4 db
          have db := HDB.out w6 K6.out
          obtain ⟨gz, ez, _, _, ds, fs⟩ := OwnInts.cell O6.out (i := b) (by rw [ind_len]; exact HBL.out)
          injection ez with ez
          injection ez with ez
          subst ez
          rw [Nat.zero_add, ind_getD HBL.out, HCN.out, if_neg (by decide)] at ds
          rw [Nat.zero_add] at fs
          have ds : w6.cell? ⟨gs, b, none⟩ = some (.int .i64 0) := ds
          have SS := OwnInts.set O6.out b 1
          rw [ind_set HBL.out, ind_congr (q := covk s.cs (q' + 1) 0) (fun c _ => by rw [HCS.out c])] at SS
          have O7 := Lib.hid (show OwnInts (w6.setCell ⟨gs, b, none⟩ (.int .i64 1)) gs (.slice (some ⟨gs, 0, none⟩) s.cs.length s.cs.length) (ind (covk s.cs (q' + 1) 0) s.cs.length) from SS.1)
          have K7 := Lib.hid (show Below gs w4 (w6.setCell ⟨gs, b, none⟩ (.int .i64 1)) from K6.out.setCell (p := ⟨gs, b, none⟩) (Nat.le_refl _) _)
          have G7 := Lib.hid (show gs < (w6.setCell ⟨gs, b, none⟩ (.int .i64 1)).heap.size from Nat.lt_of_lt_of_le G6.out SS.2.size)
          clear SS HCS HCN O6 G6
          go_wp2_with fail
          clear db ds fs
          generalize w6.setCell ⟨gs, b, none⟩ (.int .i64 1) = w7 at *
          obtain ⟨c0, c1, c2, c3, c4, c5⟩ := HXF.out w7 K7.out
          have db := HDB.out w7 K7.out
          refine wp_region_still_tail 5 (by kernel_rfl) (by kernel_rfl) ?_
          simp only [List.take_succ_cons, List.take_zero, List.drop_succ_cons, List.drop_zero]
          iterate 5 (with_reducible refine wpStill_step (fun K hK => ?_); go_simp; with_reducible refine hK _ ?_; clear hK K)
          with_reducible refine wpStill_nil ?_
          change wpList _ _ _ _ _ w7.drew
          have K7' := Lib.hid K7.out.drew
          have O7' := Lib.hid (O7.out.below (Below.refl w7.heap.size w7).drew)
          have G7' := Lib.hid (show gs < w7.drew.heap.size from G7.out)
          clear K7 O7 G7 c0 c1 c2 c3 c4 c5 db K6
          generalize w7.drew = wd7 at *
          have HCL2 := Lib.hid (fcells_any s (some ⟨b1, o1, none⟩) k b wd7 (HIF.out wd7 K7'.out) HSD.out HZ.out HLT.out HBL.out)
          go_wp2_with fail
          with_reducible refine HCL2.out.mono ?_
          rintro e w8 ⟨v, rfl, ho, hb⟩
          obtain ⟨va, vl, rfl⟩ := ho.form
          have HLN := Lib.hid (show (cells s.cs b).length = clen s.cs (b : Int) by rw [HCC.out, cells_len])
          have HLG := Lib.hid fun r (hr : r < clen s.cs (b : Int)) => show (cells s.cs b).getD r 0 = on s.cs.length (b : Int) ((r : Int) + 1) by rw [HCC.out, cells_getD hr]
          have K8 := Lib.hid (K7'.out.trans (hb.mono (Nat.le_of_lt G7'.out)))
          have O8 := Lib.hid (O7'.out.below hb)
          have G8 := Lib.hid (Nat.lt_of_lt_of_le G7'.out hb.size)
          have L8 := Lib.hid ho
          have HGB := Lib.hid G7'.out
          generalize wd7.heap.size = base at *
          generalize hNN : (cells s.cs b).length = N at *
          replace HLN := Lib.hid (HLN.out)
          replace hNN := Lib.hid hNN
          have HNZ := Lib.hid (show N < s.cs.length by have := HLN.out; have := HCL.out; omega)
          clear hb ho K7' O7' G7' HCL2 HB HG HO
          go_wp2_with fail
          obtain ⟨wo, hwo⟩ : ∃ wo : World, wo = wr := ⟨_, rfl⟩
          subst hwo
          go_loopg [7] (N + 1) (fun m i wz => ∃ r : Nat, r ≤ N ∧ m = N + 1 - r ∧ i = .int .i64 r ∧ Hid (Below gs w4 wz) ∧ Hid (gs < wz.heap.size) ∧ Hid (OwnInts wz gs (.slice (some ⟨gs, 0, none⟩) s.cs.length s.cs.length) (ind (covk s.cs (q' + 1) r) s.cs.length)) ∧ Hid (OwnInts wz base (.slice va N vl) (cells s.cs b)))
          case atStart => exact ⟨0, Nat.zero_le _, rfl, rfl, K8, G8, O8, L8⟩
          case round =>
            clear K8 G8 O8 L8
            obtain ⟨r, hr, rfl, rfl, HB, HG, HO, HLL⟩ := hrel
            have ewr : IntKind.i64.wrap ((r : Int) + 1) = (r : Int) + 1 := by
              have := HL.out; have := HNZ.out
              rw [IntWalk.i64_in] <;> omega
            by_cases hrt : r < N
            · have hrc : r < clen s.cs (b : Int) := by have := HLN.out; omega
              have hcz := HZ2.out (b : Int) ((r : Int) + 1)
              have HCKr := Lib.hid (HCK.out r hrc)
              have HCTr := Lib.hid (HCT.out r)
              have HACr := Lib.hid (HAC.out r hrc)
              have HOCr := Lib.hid (HOC.out r hrc)
              have HBCr := Lib.hid (HBC.out r hrc)
              obtain ⟨gl, rfl, hgb3, hgl, dl, _⟩ := OwnInts.cell HLL.out (i := r) (by rw [hNN.out]; exact hrt)
              rw [Nat.zero_add, HLG.out r hrc] at dl
              generalize on s.cs.length (b : Int) ((r : Int) + 1) = c at *
              have HCZ := Lib.hid hcz
              have Q1 := Lib.hid fun W (h : Below gs w4 W) => fbegin_any s (some ⟨b1, o1, none⟩) k c W (HIF.out W h) HSD.out HZ.out HLT.out hcz
              have Q2 := Lib.hid fun W (h : Below gs w4 W) => fof_any s (some ⟨b1, o1, none⟩) k c W (HIF.out W h) HSD.out HZ.out HLT.out hcz
              have Q3 := Lib.hid fun W (h : Below gs w4 W) => fopen_any s (some ⟨b1, o1, none⟩) k c W (HIF.out W h) HSD.out HZ.out HLT.out hcz
              simp only [HBCr.out] at Q1
              simp only [HACr.out, HEX.out] at Q2
              simp only [HOCr.out, HEX.out] at Q3
              obtain ⟨gz, ez, _, _, ds, fs⟩ := OwnInts.cell HO.out (i := c) (by rw [ind_len]; exact hcz)
              injection ez with ez
              injection ez with ez
              subst ez
              rw [Nat.zero_add, ind_getD hcz, HCKr.out, if_neg (by decide)] at ds
              rw [Nat.zero_add] at fs
              have ds : wr.cell? ⟨gs, c, none⟩ = some (.int .i64 0) := ds
              have SS := OwnInts.set HO.out c 1
              rw [ind_set hcz, ind_congr (q := covk s.cs (q' + 1) (r + 1)) (fun x _ => by rw [HCTr.out x])] at SS
              have hlk := World.ownsRow.kept HLL.out SS.2 (.inr (fun e => by simp [Value.ownBlock] at e; have := HGB.out; omega))
              have O9 := Lib.hid (show OwnInts (wr.setCell ⟨gs, c, none⟩ (.int .i64 1)) gs (.slice (some ⟨gs, 0, none⟩) s.cs.length s.cs.length) (ind (covk s.cs (q' + 1) (r + 1)) s.cs.length) from SS.1)
              have K9 := Lib.hid (show Below gs w4 (wr.setCell ⟨gs, c, none⟩ (.int .i64 1)) from HB.out.setCell (p := ⟨gs, c, none⟩) (Nat.le_refl _) _)
              have G9 := Lib.hid (show gs < (wr.setCell ⟨gs, c, none⟩ (.int .i64 1)).heap.size from Nat.lt_of_lt_of_le HG.out SS.2.size)
              have L9 := Lib.hid (show OwnInts (wr.setCell ⟨gs, c, none⟩ (.int .i64 1)) base (.slice (some ⟨gl, 0, none⟩) N vl) (cells s.cs b) from hlk)
              have D9 := Lib.hid (show (wr.setCell ⟨gs, c, none⟩ (.int .i64 1)).cell? ⟨gl, r, none⟩ = some (.int .i64 (c : Int)) from by
                rw [World.cell?_setCell_other _ _ _ _ (fun e => by injection e with e _ _; have := HGB.out; omega)]; exact dl)
              have hri0 : (0 : Int) ≤ (r : Int) := by omega
              have hri1 : (r : Int) < (N : Int) := by omega
              have hci0 : (0 : Int) ≤ (c : Int) := by omega
              have hci1 : (c : Int) < (s.cs.length : Int) := by omega
              have hr0 : (r : Int) < (N : Int) := by omega
              clear SS hlk hcz HO HB HG HLL hgl hgb3
              go_wp2_with fail
              clear ds fs dl
              generalize wr.setCell ⟨gs, c, none⟩ (.int .i64 1) = w9 at *
              have hneq := run_neqAA xp xn xs xm
              have HSS := Lib.hid (show ∀ W', Below w9.heap.size w9 W' → Below w9.heap.size w9 W' ∧ W'.cell? ⟨w.heap.size, 0, none⟩ = some (.int .i64 s.rows) ∧ W'.cell? ⟨w.heap.size, 1, none⟩ = some (.int .i64 s.cols) ∧ W'.cell? ⟨w.heap.size, 2, none⟩ = some (.slice (some ⟨b1, o1, none⟩) s.cs.length k) ∧ W'.cell? ⟨w.heap.size, 3, none⟩ = some (.int .i64 s.cur) ∧ W'.cell? ⟨w.heap.size, 4, none⟩ = some (.bool s.lk) ∧ W'.cell? ⟨w.heap.size, 5, none⟩ = some (.bool s.ins) ∧ W'.cell? ⟨gl, r, none⟩ = some (.int .i64 (c : Int)) ∧ W'.cell? ⟨gb, q' + 1, none⟩ = some (.int .i64 (b : Int)) ∧ W'.cell? ⟨b1, o1 + b * 6 + 1, none⟩ = some (.bool xp) ∧ W'.cell? ⟨b1, o1 + b * 6 + 1 + 1, none⟩ = some (.bool xn) ∧ W'.cell? ⟨b1, o1 + b * 6 + 1 + 2, none⟩ = some (.int .i64 xs) ∧ W'.cell? ⟨b1, o1 + b * 6 + 1 + 3, none⟩ = some (.bool xm) from fun W' hB =>
                have hg := K9.out.trans (hB.mono (Nat.le_of_lt G9.out))
                have E := HXF.out W' hg
                have F := HDG.out W' hg
                ⟨hB, E.1, E.2.1, E.2.2.1, E.2.2.2.1, E.2.2.2.2.1, E.2.2.2.2.2, (hB.cell (p := ⟨gl, _, none⟩) (cell_lt D9.out)).trans D9.out, HDB.out W' hg, F.2.1, F.2.2.1, F.2.2.2.1, F.2.2.2.2⟩)
              have HPP := Lib.hid fun W' (hB : Below w9.heap.size w9 W') => K9.out.trans (hB.mono (Nat.le_of_lt G9.out))
              first
                | go_region_held3 (fun W' => Below w9.heap.size w9 W' ∧ W'.cell? ⟨w.heap.size, 0, none⟩ = some (.int .i64 s.rows) ∧ W'.cell? ⟨w.heap.size, 1, none⟩ = some (.int .i64 s.cols) ∧ W'.cell? ⟨w.heap.size, 2, none⟩ = some (.slice (some ⟨b1, o1, none⟩) s.cs.length k) ∧ W'.cell? ⟨w.heap.size, 3, none⟩ = some (.int .i64 s.cur) ∧ W'.cell? ⟨w.heap.size, 4, none⟩ = some (.bool s.lk) ∧ W'.cell? ⟨w.heap.size, 5, none⟩ = some (.bool s.ins) ∧ W'.cell? ⟨gl, r, none⟩ = some (.int .i64 (c : Int)) ∧ W'.cell? ⟨gb, q' + 1, none⟩ = some (.int .i64 (b : Int)) ∧ W'.cell? ⟨b1, o1 + b * 6 + 1, none⟩ = some (.bool xp) ∧ W'.cell? ⟨b1, o1 + b * 6 + 1 + 1, none⟩ = some (.bool xn) ∧ W'.cell? ⟨b1, o1 + b * 6 + 1 + 2, none⟩ = some (.int .i64 xs) ∧ W'.cell? ⟨b1, o1 + b * 6 + 1 + 3, none⟩ = some (.bool xm))
                    (first | with_reducible exact HSS.out _ (Below.refl _ _).drew | with_reducible exact HSS.out _ (Below.refl _ _) | with_reducible exact HSS.out _ (And.left (by assumption)) | with_reducible exact HSS.out _ (kept_trans (And.left (by assumption)) hb))
                    (first
                      | (go_at_call 13; with_reducible refine (Q1.out _ (HPP.out _ (And.left (by assumption)))).mono ?_; rintro e wa ⟨rfl, hb⟩)
                      | (go_at_call 18; with_reducible refine (Q2.out _ (HPP.out _ (And.left (by assumption)))).mono ?_; rintro e we ⟨rfl, hb⟩)
                      | (go_at_call 20; with_reducible refine (Q3.out _ (HPP.out _ (And.left (by assumption)))).mono ?_; rintro e wf ⟨rfl, hb⟩))
                | fail "no"
              all_goals
                have hS := And.left (by assumption : Below w9.heap.size w9 wf ∧ _)
                have KA := Lib.hid (HPP.out _ hS)
                have OA := Lib.hid (O9.out.below hS)
                have GA := Lib.hid (Nat.lt_of_lt_of_le G9.out hS.size)
                have LA := Lib.hid (L9.out.below hS)
                clear hS hb HSS HPP Q1 Q2 Q3 K9 O9 G9 L9 D9
                rename_i hHeld
                clear hHeld
                go_wp2_with fail
                go_roundg (N + 1 - (r + 1))
                case measure => omega
                case rel => exact ⟨r + 1, by omega, rfl, by first | rfl | go_num, KA, GA, OA, LA⟩
            · obtain rfl : r = N := by omega
              have hr0 : ¬ (r : Int) < (r : Int) := by omega
              have OE := Lib.hid (show OwnInts wr gs (.slice (some ⟨gs, 0, none⟩) s.cs.length s.cs.length) (ind (cov s.cs (q' + 1 + 1)) s.cs.length) from by
                rw [← ind_congr (p := covk s.cs (q' + 1) r) (fun c hc => by rw [HLN.out]; exact HCE.out c hc)]; exact HO.out)
              clear HO HLL ewr hrt
              go_wp2_with fail
              go_roundg (n + 1 - (q' + 1 + 1))
              case measure => omega
              case rel => exact ⟨q' + 1 + 1, by omega, rfl, by first | rfl | go_num | (rw [ew2]; rfl), HB, HG, OE⟩
      · have hqn : q = n := by omega
        subst hqn
        have hn0 : ¬ (q : Int) < (q : Int) := by omega
        have HOF := Lib.hid (show OwnInts wr gs (.slice (some ⟨gs, 0, none⟩) s.cs.length s.cs.length) (ind (fun _ => fmt s.cs) s.cs.length) from by
          rw [← ind_congr (p := cov s.cs q) (fun c hc => by
            rw [← hn.out]
            cases hf : fmt s.cs with
            | true => exact cov_all hf hc
            | false => rw [begins_none hf]; exact cov_zero s.cs c)]
          exact HO.out)
        have HON := Lib.hid fun c (hc : c < s.cs.length) (hf : fmt s.cs = false) => open_none hc hf
        clear hlt ew HO
        go_wp2_with fail
        obtain ⟨wo, hwo⟩ : ∃ wo : World, wo = wr := ⟨_, rfl⟩
        subst hwo
        go_loopg [8] (s.cs.length + 1) (fun m i wz => ∃ r : Nat, r ≤ s.cs.length ∧ m = s.cs.length + 1 - r ∧ i = .int .i64 r ∧ Hid (Below gs w4 wz) ∧ Hid (gs < wz.heap.size) ∧ Hid (OwnInts wz gs (.slice (some ⟨gs, 0, none⟩) s.cs.length s.cs.length) (ind (fun _ => fmt s.cs) s.cs.length)))
        case atStart => exact ⟨0, Nat.zero_le _, rfl, rfl, HB, HG, HOF⟩
        case round =>
          clear HB HG HOF
          obtain ⟨r, hr, rfl, rfl, HB, HG, HO⟩ := hrel
          have ewr : IntKind.i64.wrap ((r : Int) + 1) = (r : Int) + 1 := by
            have := HL.out
            rw [IntWalk.i64_in] <;> omega
          by_cases hrt : r < s.cs.length
          · obtain ⟨gz, ez, _, hgz, ds, _⟩ := OwnInts.cell HO.out (i := r) (by rw [ind_len]; exact hrt)
            injection ez with ez
            injection ez with ez
            subst ez
            rw [Nat.zero_add, ind_getD hrt] at ds
            have HDS := Lib.hid fun W (h : Below wr.heap.size wr W) => (h.cell (p := ⟨gs, r, none⟩) HG.out).trans ds
            have QF := Lib.hid fun W (h : Below gs w4 W) => ffmt_any s ad k W (HIF.out W h) HSD.out HZ.out HLT.out
            have QO := Lib.hid fun W (h : Below gs w4 W) => fopen_any s ad k r W (HIF.out W h) HSD.out HZ.out HLT.out hrt
            have HPP := Lib.hid fun W' (hB : Below wr.heap.size wr W') => HB.out.trans (hB.mono (Nat.le_of_lt HG.out))
            have hri0 : (0 : Int) ≤ (r : Int) := by omega
            have hri1 : (r : Int) < (s.cs.length : Int) := by omega
            obtain ⟨c0, c1, c2, c3, c4, c5⟩ := HXF.out wr HB.out
            cases hf : fmt s.cs with
            | true =>
              rw [hf] at QF
              simp only [hf, if_true] at HDS
              clear ds hf QO HON
              go_wp2_with fail
              with_reducible refine (QF.out _ HB.out).mono ?_
              rintro e wa ⟨rfl, hb⟩
              have KA := Lib.hid hb
              clear hb c0 c1 c2 c3 c4 c5
              obtain ⟨c0, c1, c2, c3, c4, c5⟩ := HXF.out wa (HPP.out _ KA.out)
              have ds : wa.cell? ⟨gs, r, none⟩ = some (.int .i64 1) := HDS.out wa KA.out
              go_wp2_with fail
              with_reducible refine (QF.out _ (HPP.out _ KA.out)).mono ?_
              rintro e wb ⟨rfl, hb⟩
              have KB := Lib.hid (kept_trans KA.out hb)
              clear hb c0 c1 c2 c3 c4 c5 ds
              go_wp2_with fail
              go_roundg (s.cs.length + 1 - (r + 1))
              case measure => omega
              case rel => exact ⟨r + 1, by omega, rfl, by first | rfl | go_num, Lib.hid (HPP.out _ KB.out), Lib.hid (Nat.lt_of_lt_of_le HG.out KB.out.size), Lib.hid (HO.out.below KB.out)⟩
            | false =>
              rw [hf] at QF
              rw [HON.out r hrt hf] at QO
              simp only [hf, Bool.false_eq_true, if_false] at HDS
              clear ds hf HON
              go_wp2_with fail
              with_reducible refine (QF.out _ HB.out).mono ?_
              rintro e wa ⟨rfl, hb⟩
              have KA := Lib.hid hb
              clear hb c0 c1 c2 c3 c4 c5
              obtain ⟨c0, c1, c2, c3, c4, c5⟩ := HXF.out wa (HPP.out _ KA.out)
              go_wp2_with fail
              with_reducible refine (QF.out _ (HPP.out _ KA.out)).mono ?_
              rintro e wb ⟨rfl, hb⟩
              have KB := Lib.hid (kept_trans KA.out hb)
              clear hb c0 c1 c2 c3 c4 c5
              obtain ⟨c0, c1, c2, c3, c4, c5⟩ := HXF.out wb (HPP.out _ KB.out)
              have ds : wb.cell? ⟨gs, r, none⟩ = some (.int .i64 0) := HDS.out wb KB.out
              go_wp2_with fail
              with_reducible refine (QO.out _ (HPP.out _ KB.out)).mono ?_
              rintro e wc ⟨rfl, hb⟩
              have KC := Lib.hid (kept_trans KB.out hb)
              clear hb c0 c1 c2 c3 c4 c5 ds
              go_wp2_with fail
              go_roundg (s.cs.length + 1 - (r + 1))
              case measure => omega
              case rel => exact ⟨r + 1, by omega, rfl, by first | rfl | go_num, Lib.hid (HPP.out _ KC.out), Lib.hid (Nat.lt_of_lt_of_le HG.out KC.out.size), Lib.hid (HO.out.below KC.out)⟩
          · obtain rfl : r = s.cs.length := by omega
            have hr0 : ¬ (s.cs.length : Int) < (s.cs.length : Int) := by omega
            have KF := Lib.hid (HKF.out wr HB.out)
            clear HO hrt ewr
            go_wp2_with fail
            go_ret
            exact ⟨rfl, KF.out⟩
end Fld
end Go.Proofs.Ytoacookbfpcncaa
