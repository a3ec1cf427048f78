/- Cells of package field. -/
import Derived.Test.YtoacookbfpcncaaFldList
namespace Go.Proofs.Ytoacookbfpcncaa
open Go.RowKit Sha Six Apd Cut Err Att Grd
set_option linter.unusedVariables false
attribute [local go_sem] Oper.semAt_some
namespace Fld
theorem vals_upto {z : Nat} {f : Nat → Pl z} {b : Int} (hf : ∀ i, (f i).1 = on z b ((i : Int) + 1)) (j : Nat) : vals (upto f j) = (List.range j).map fun (i : Nat) => on z b ((i : Int) + 1) := by
  unfold vals upto
  rw [List.map_map]
  exact List.map_congr_left fun i _ => hf i
theorem cells_stop {cs : List C} {f : Nat → Pl cs.length} {b : Int} (hf : ∀ i, (f i).1 = on cs.length b ((i : Int) + 1)) {j : Nat} (hj : j < cs.length) (h : fat cs (f j).1 = true) (hn : ∀ i, i < j → fat cs (f i).1 = false) : cellsAt cs b = vals (upto f j) := by
  have e : clen cs b = j := by
    have : firstK (fun k => fat cs (on cs.length b (k : Int))) 1 cs.length = some (j + 1) := firstK_is (by omega) (by omega) (by rw [show ((j + 1 : Nat) : Int) = (j : Int) + 1 by omega, ← hf]; exact h)
      (fun i h1 h2 => by rw [show (i : Int) = ((i - 1 : Nat) : Int) + 1 by omega, ← hf]; exact hn _ (by omega))
    unfold clen; rw [this]; rfl
  unfold cellsAt
  rw [e, vals_upto hf]
theorem cells_full {cs : List C} {f : Nat → Pl cs.length} {b : Int} (hf : ∀ i, (f i).1 = on cs.length b ((i : Int) + 1)) (hn : ∀ i, i < cs.length → fat cs (f i).1 = false) : cellsAt cs b = vals (upto f cs.length) := by
  have e : clen cs b = cs.length := by
    have : firstK (fun k => fat cs (on cs.length b (k : Int))) 1 cs.length = none := firstK_no
      (fun i h1 h2 => by rw [show (i : Int) = ((i - 1 : Nat) : Int) + 1 by omega, ← hf]; exact hn _ (by omega))
    unfold clen; rw [this]
  unfold cellsAt
  rw [e, vals_upto hf]
theorem wseq_none {z : Nat} (hz : 0 < z) (i : Nat) : (wseq z hz 0 0 1 i).1 = on z (-1) ((i : Int) + 1) := by
  rw [wseq_val (t := (i : Int)) (by omega)]
  unfold on
  congr 2; omega
theorem wseq_some {z : Nat} (hz : 0 < z) (b : Int) (i : Nat) : (wseq z hz b 1 1 i).1 = on z b ((i : Int) + 1) := wseq_val (by omega)
set_option maxRecDepth 100000 in
set_option maxHeartbeats 16000000 in
theorem fcells_any (s : S) (ad : Option Addr) (k : Nat) (a : Nat) (w : World) (h : CelsIn w (.slice ad s.cs.length k) s.cs) (h8 : Sound s.cs) (hz : 0 < s.cs.length) (hl : s.cs.length < 10000) (ha : a < s.cs.length) :
    Calls Try.prog 16 #[.agg #[.int .i64 s.rows, .int .i64 s.cols, .slice ad s.cs.length k, .int .i64 s.cur, .bool s.lk, .bool s.ins], .int .i64 (a : Int)] w fun e w' => ∃ v, e = .returned v ∧ OwnInts w' w.heap.size v (cells s.cs a) ∧ Below w.heap.size w w' := by
  have HB := Lib.hid (al_any w (.cells (sbox s ad k) 24))
  have HX := Lib.hid (heap_alloc_new w (.cells (sbox s ad k) 24))
  have HI := Lib.hid h
  have HZ := Lib.hid hz
  have HL := Lib.hid hl
  have HA := Lib.hid ha
  have HBG := Lib.hid fun W hb => fbegin_any s ad k a W (h.below hb) h8 hz hl ha
  clear h hz hl ha
  refine (callsIn_wide (n := 4)).1 ?_
  refine callsIn_of_wp_marks Try.func16 rfl trivial ?_ rfl
  simp only [Try.ntmps16, List.size_toArray, List.length_cons, List.length_nil, Nat.reduceAdd, Nat.reduceSub, Array.replicate_succ, Array.replicate_zero, List.push_toArray, List.append_toArray, List.nil_append, List.cons_append]
  refine wpIn_wide.2 ?_
  go_wp2_with fail
  obtain ⟨w0, hw0⟩ : ∃ w0 : World, w.alloc (.cells (sbox s ad k) 24) = w0 := ⟨_, rfl⟩
  have HS0 := Lib.hid (show w0.heap[w.heap.size]? = some (.cells (sbox s ad k) 24) from hw0 ▸ HX.out)
  have HB0 := Lib.hid (show Below w.heap.size w w0 from hw0 ▸ HB.out)
  have HN0 := Lib.hid (show w0.heap.size = w.heap.size + 1 by rw [← hw0]; simp)
  rw [hw0]
  clear hw0 HB HX
  refine (walk_any _ _ _ _ _ _ _ _ _ _ _ _).mono ?_
  rintro e w1 ⟨rfl, hbox, hb1, hn1⟩
  have HS1 := Lib.hid (show w1.heap[w.heap.size]? = some (.cells (sbox s ad k) 24) from (hb1.block _ (by have := HN0.out; omega)).trans HS0.out)
  have HB1 := Lib.hid (kept_trans HB0.out hb1)
  have HN1 := Lib.hid (show w1.heap.size = w.heap.size + 5 by have := HN0.out; omega)
  have HBX := Lib.hid hbox
  clear hbox hb1 hn1
  obtain ⟨c0, c1, c2, c3, c4, c5⟩ := box6 HS1.out
  go_wp2_with fail
  clear c0 c1 c2 c3 c4 c5
  with_reducible refine (HBG.out _ HB1.out).mono ?_
  rintro e w2 ⟨rfl, hb2⟩
  have HS2 := Lib.hid (show w2.heap[w.heap.size]? = some (.cells (sbox s ad k) 24) from (hb2.block _ (by have := HN1.out; omega)).trans HS1.out)
  have HB2 := Lib.hid (kept_trans HB1.out hb2)
  have HN2 := Lib.hid (show w.heap.size + 5 ≤ w2.heap.size by have := HN1.out; have := hb2.size; omega)
  have HBX2 := Lib.hid (HBX.out.kept (kp4_below hb2 HBX.out.lt))
  clear hb2 HBX HBG
  cases hf : fmt s.cs with
  | false =>
    have HBE := Lib.hid (begin_none HA.out hf)
    rw [HBE.out]
    clear hf
    obtain ⟨w3, hw3⟩ : ∃ w3, w3 = w2 := ⟨_, rfl⟩
    subst hw3
    have HS3 := Lib.hid HS2.out
    have HB3 := Lib.hid HB2.out
    have HBX3 := Lib.hid HBX2.out
    have HN3 := Lib.hid (show w.heap.size + 5 ≤ w3.heap.size from HN2.out)
    clear HS2 HB2 HBX2 HN2
    have HSQ := Lib.hid (show ∀ i, (wseq s.cs.length HZ.out (0) (0) 1 i).1 = on s.cs.length (-1) ((i : Int) + 1) from wseq_none HZ.out)
    go_wp2_with fail
    obtain ⟨w4, hw4⟩ : ∃ w4 : World, w3.alloc (.cells #[.slice none 0 0] 30) = w4 := ⟨_, rfl⟩
    have HS4 := Lib.hid (show w4.heap[w.heap.size]? = some (.cells (sbox s ad k) 24) from hw4 ▸ (Below.heap_alloc _ _ _ (by have := HN3.out; omega)).trans HS3.out)
    have HR4 := Lib.hid (show w4.heap[w3.heap.size]? = some (.cells #[.slice none 0 0] 30) from hw4 ▸ World.alloc_heap_new w3 _)
    have HB4 := Lib.hid (show Below w.heap.size w w4 from hw4 ▸ kept_trans HB3.out (al_any _ _))
    have HN4 := Lib.hid (show w4.heap.size = w3.heap.size + 1 by rw [← hw4]; simp)
    have HBX4 := Lib.hid (show Boxes w4 (w0.heap.size) (sbox s ad k) (0) (0) 1 from hw4 ▸ HBX3.out.kept (kp4_below (al_any w3 _) HBX3.out.lt))
    have HLT := Lib.hid HBX3.out.lt
    rw [hw4]
    clear hw4 HB3 HS3 HBX3
    go_wp2_with fail
    refine (wpIn_wide (n := 4)).1 ?_
    refine wpIn_rangeFunc_ownG rfl (by omega) (gf := 37) (lb := #[.pointer (some ⟨w0.heap.size, 0, none⟩), .pointer (some ⟨w0.heap.size + 1, 0, none⟩), .pointer (some ⟨w0.heap.size + 2, 0, none⟩), .pointer (some ⟨w0.heap.size + 3, 0, none⟩)]) rfl trivial (enters_of Try.func37 (by kernel_rfl) rfl)
      (walk_stops 3 (by omega) s.rows s.cols ad s.cs.length k s.cur s.lk s.ins HZ.out HL.out (0) (0) 1 (by have := HL.out; omega) (by omega) (by omega) w4 (w0.heap.size) HBX4.out)
      kp4_t (kp4_b HBX4.out.lt) (Below.refl _ _) (fun _ => rfl)
      (fun pre W => ((∀ y ∈ pre, fat s.cs y.1 = false) ∧ HasInts W w3.heap.size w4.heap.size (vals pre)) ∧ w4.grownBy W (some w3.heap.size))
      (fun c pre W => ((c = .exit 0 ∧ ∃ p x, pre = p ++ [x] ∧ (∀ y ∈ p, fat s.cs y.1 = false) ∧ fat s.cs x.1 = true) ∧ HasInts W w3.heap.size w4.heap.size (vals pre.dropLast)) ∧ w4.grownBy W (some w3.heap.size))
      (OwnFrom.and (OwnFrom.and (ownFrom_pure _ _) (Own.from (hasInts_own _ _ fun pre => vals pre) _)) ownFrom_grown)
      (fun c => OwnFrom.and (OwnFrom.and (ownFrom_pure _ _) (Own.from (hasInts_own _ _ fun (pre : List (Pl s.cs.length)) => vals pre.dropLast) _)) ownFrom_grown)
      ⟨⟨nofun, _, HR4.out, World.ownsRow_nil _ _ _ _⟩, grown_none (grown_of (Below.refl _ _))⟩
      (fun x => { tmps := #[.agg (sbox s ad k), .int .i64 (a : Int), .pointer (some ⟨w.heap.size, 0, none⟩), undef, .slice none 0 0, .func (.func 37) #[] #[.pointer (some ⟨w0.heap.size, 0, none⟩), .pointer (some ⟨w0.heap.size + 1, 0, none⟩), .pointer (some ⟨w0.heap.size + 2, 0, none⟩), .pointer (some ⟨w0.heap.size + 3, 0, none⟩)], .int .i64 (-1), .pointer (some ⟨w3.heap.size, 0, none⟩), .int .i64 (x.1 : Int), .agg (sbox s ad k), .func (.func 37) #[] #[.pointer (some ⟨w0.heap.size, 0, none⟩), .pointer (some ⟨w0.heap.size + 1, 0, none⟩), .pointer (some ⟨w0.heap.size + 2, 0, none⟩), .pointer (some ⟨w0.heap.size + 3, 0, none⟩)], .agg (sbox s ad k), .int .i64 (a : Int), .int .i64 (-1), .int .i64 (-1), .bool false, undef, undef, undef, .func (.func 37) #[] #[.pointer (some ⟨w0.heap.size, 0, none⟩), .pointer (some ⟨w0.heap.size + 1, 0, none⟩), .pointer (some ⟨w0.heap.size + 2, 0, none⟩), .pointer (some ⟨w0.heap.size + 3, 0, none⟩)], .int .i64 (x.1 : Int), undef, undef, undef, undef, undef, undef, undef, undef, undef, undef, undef], defers := [] }) ?assign ?body ?done ?stop
    case assign =>
      intro l x W K hK
      gi_wp2
      exact hK
    case body =>
      rintro l pre ⟨x, hx⟩ W ⟨⟨hp, v, hv, hrow⟩, hg⟩ hlt
      obtain ⟨i0, hi, hz0, hz1, hz2⟩ := info_parts info_int
      have HP := Lib.hid hp
      have HG := Lib.hid hg
      obtain ⟨c0, c1, c2, c3, c4, c5⟩ := box6 ((hg.block _ (by have := HN4.out; have := HN3.out; omega) (fun he => by injection he with he; have := HN3.out; omega)).trans HS4.out)
      obtain ⟨xf, xp, xn, xs, xm, xc, ex⟩ := c_eta (s.cs.getD x noC)
      obtain ⟨b1, o1, rfl, g0, g1, g2, g3, g4, g5⟩ := (HI.out.below (HB4.out.trans (grown_below hg (by have := HN3.out; omega) (by have := HN4.out; have := HN3.out; omega)))).cells hx ex
      have HQ := Lib.hid (fat_of ex)
      have hi0 : (0 : Int) ≤ (x : Int) := by omega
      have hi1 : (x : Int) < (s.cs.length : Int) := by omega
      have HSZ := Lib.hid (show w4.heap.size ≤ W.heap.size from hg.size)
      have HKL := Lib.hid (show (vals pre).length < 10000 from by rw [vals_len]; have := HL.out; omega)
      clear ex hg hlt hp
      have hc := hv.cell
      cases xf with
      | true =>
        gi_wp2
        exact ⟨KeepsFrom.refl _ _, ⟨⟨rfl, pre, ⟨x, hx⟩, rfl, HP.out, HQ.out⟩, by rw [List.dropLast_concat]; exact ⟨v, hv, hrow⟩⟩, HG.out⟩
      | false =>
        gi_wp2_with (gi_at_builtin; refine wpListIn_append_own _ rfl _ _ 30 rfl w4.heap.size 3 i0 (.int .i64 0) 1 8 Try.underlying30 hi hz0 hz1 hz2 rfl (by decide) _ _ _ rfl (hrow.alloc _) ⟨W.heap.size, 0, none⟩ 1 1 [.int .i64 (x : Int)] rfl rfl (cell_one_new _ _ _) (by simp [Value.oneCell']) (Nat.le_trans (show _ ≤ 10001 by have := HKL.out; omega) (by decide)) (by have := HKL.out; omega) (by have := HSZ.out; simp; omega) ?_; intro v' w1' hown' hgrow _; obtain ⟨g', cap', rfl⟩ := ownsRow_succ hown'; obtain ⟨hv1, hv2, hr2, hk2, hgw2⟩ := appended2 hv (by decide) hrow HSZ.out hown' hgrow; have hc1 := hv1.cell; have hf1 := hv1.frozen)
        have HGW := hgw2 w4 rfl HG.out
        refine ⟨hk2.from _, fun q h1 h2 => (HGW.block q (by have := HN4.out; have := HLT.out; omega) (fun he => by injection he with he; have := HLT.out; omega)).trans (HG.out.block q (by have := HN4.out; have := HLT.out; omega) (fun he => by injection he with he; have := HLT.out; omega)).symm, ⟨fun y hy => (List.mem_append.1 hy).elim (HP.out y) (fun e => by rw [List.mem_singleton.1 e]; exact HQ.out), _, hv2, ?_⟩, HGW⟩
        rw [vals_snoc]
        unfold OwnInts
        rw [List.length_append]
        simpa [i64s] using hr2
    case done =>
      rintro D ys W hD rfl ⟨⟨hp, v, hv, hrow⟩, hg⟩ hK
      have hc := hv.cell
      have HV := Lib.hid (show cells s.cs a = vals (upto (wseq s.cs.length HZ.out (0) (0) 1) s.cs.length) by unfold cells; rw [HBE.out]; exact cells_full HSQ.out (fun i hi => hp _ (mem_upto hi)))
      have HROW := Lib.hid hrow
      have HBW := Lib.hid (HB4.out.trans (grown_below hg (by have := HN3.out; omega) (by have := HN4.out; have := HN3.out; omega)))
      obtain ⟨va, vc, rfl⟩ := hrow.form
      clear hrow hg hv hp
      go_wp2_with fail
      refine ⟨by simp, .inl ⟨_, _, rfl, run_takeDeferred hK, ?_⟩⟩
      exact ⟨_, results_tmp rfl _ _ _, _, rfl, by rw [HV.out]; exact OwnInts.mono (ownsRow_putObj HROW.out _ hK rfl) (by have := HN4.out; have := HN3.out; omega), HBW.out.trans (belowK_b (w := w) (Nat.le_refl _) W D _ _ (by have := HN4.out; have := HN3.out; omega) hK rfl rfl)⟩
    case stop =>
      rintro D c pre W hD ⟨q, hq, hpre⟩ ⟨⟨⟨rfl, p, x, he, h1, h2⟩, v, hv, hrow⟩, hg⟩ hK
      rw [he, List.dropLast_concat] at hrow
      obtain ⟨j, rfl, rfl, rfl⟩ := upto_last (he.symm.trans hpre)
      have hc := hv.cell
      have HV := Lib.hid (show cells s.cs a = vals (upto (wseq s.cs.length HZ.out (0) (0) 1) j) by unfold cells; rw [HBE.out]; exact cells_stop HSQ.out (by omega) h2 (fun i hi => h1 _ (mem_upto hi)))
      have HROW := Lib.hid hrow
      have HBW := Lib.hid (HB4.out.trans (grown_below hg (by have := HN3.out; omega) (by have := HN4.out; have := HN3.out; omega)))
      obtain ⟨va, vc, rfl⟩ := hrow.form
      clear hrow hg hv h1 h2 he hpre
      gi_wp2
      go_wp2_with fail
      refine ⟨by simp, .inl ⟨_, _, rfl, run_takeDeferred hK, ?_⟩⟩
      exact ⟨_, results_tmp rfl _ _ _, _, rfl, by rw [HV.out]; exact OwnInts.mono (ownsRow_putObj HROW.out _ hK rfl) (by have := HN4.out; have := HN3.out; omega), HBW.out.trans (belowK_b (w := w) (Nat.le_refl _) W D _ _ (by have := HN4.out; have := HN3.out; omega) hK rfl rfl)⟩
  | true =>
    obtain ⟨_, b, _, hbk, hbe, hbl, _, _⟩ := begin_some HA.out hf
    clear hbk
    have HBE := Lib.hid hbe
    have HBL := Lib.hid hbl
    rw [hbe]
    clear hbe hf hbl
    have hb0 : (0 : Int) ≤ (b : Int) := by omega
    obtain ⟨c0, c1, c2, c3, c4, c5⟩ := box6 HS2.out
    go_wp2_with fail
    clear c0 c1 c2 c3 c4 c5
    refine (walk_any _ _ _ _ _ _ _ _ _ _ _ _).mono ?_
    rintro e w3 ⟨rfl, hbox, hb3, hn3⟩
    have HS3 := Lib.hid (show w3.heap[w.heap.size]? = some (.cells (sbox s ad k) 24) from (hb3.block _ (by have := HN2.out; omega)).trans HS2.out)
    have HB3 := Lib.hid (kept_trans HB2.out hb3)
    have HBX3 := Lib.hid hbox
    have HN3 := Lib.hid (show w.heap.size + 5 ≤ w3.heap.size by have := HN2.out; omega)
    clear HS2 HB2 HBX2 hbox hb3 hn3
    have HSQ := Lib.hid (show ∀ i, (wseq s.cs.length HZ.out ((b : Int)) (1) 1 i).1 = on s.cs.length (b : Int) ((i : Int) + 1) from wseq_some HZ.out (b : Int))
    go_wp2_with fail
    obtain ⟨w4, hw4⟩ : ∃ w4 : World, w3.alloc (.cells #[.slice none 0 0] 30) = w4 := ⟨_, rfl⟩
    have HS4 := Lib.hid (show w4.heap[w.heap.size]? = some (.cells (sbox s ad k) 24) from hw4 ▸ (Below.heap_alloc _ _ _ (by have := HN3.out; omega)).trans HS3.out)
    have HR4 := Lib.hid (show w4.heap[w3.heap.size]? = some (.cells #[.slice none 0 0] 30) from hw4 ▸ World.alloc_heap_new w3 _)
    have HB4 := Lib.hid (show Below w.heap.size w w4 from hw4 ▸ kept_trans HB3.out (al_any _ _))
    have HN4 := Lib.hid (show w4.heap.size = w3.heap.size + 1 by rw [← hw4]; simp)
    have HBX4 := Lib.hid (show Boxes w4 (w2.heap.size) (sbox s ad k) ((b : Int)) (1) 1 from hw4 ▸ HBX3.out.kept (kp4_below (al_any w3 _) HBX3.out.lt))
    have HLT := Lib.hid HBX3.out.lt
    rw [hw4]
    clear hw4 HB3 HS3 HBX3
    go_wp2_with fail
    refine (wpIn_wide (n := 4)).1 ?_
    refine wpIn_rangeFunc_ownG rfl (by omega) (gf := 37) (lb := #[.pointer (some ⟨w2.heap.size, 0, none⟩), .pointer (some ⟨w2.heap.size + 1, 0, none⟩), .pointer (some ⟨w2.heap.size + 2, 0, none⟩), .pointer (some ⟨w2.heap.size + 3, 0, none⟩)]) rfl trivial (enters_of Try.func37 (by kernel_rfl) rfl)
      (walk_stops 3 (by omega) s.rows s.cols ad s.cs.length k s.cur s.lk s.ins HZ.out HL.out ((b : Int)) (1) 1 (by have := HL.out; have := HBL.out; omega) (by omega) (by omega) w4 (w2.heap.size) HBX4.out)
      kp4_t (kp4_b HBX4.out.lt) (Below.refl _ _) (fun _ => rfl)
      (fun pre W => ((∀ y ∈ pre, fat s.cs y.1 = false) ∧ HasInts W w3.heap.size w4.heap.size (vals pre)) ∧ w4.grownBy W (some w3.heap.size))
      (fun c pre W => ((c = .exit 0 ∧ ∃ p x, pre = p ++ [x] ∧ (∀ y ∈ p, fat s.cs y.1 = false) ∧ fat s.cs x.1 = true) ∧ HasInts W w3.heap.size w4.heap.size (vals pre.dropLast)) ∧ w4.grownBy W (some w3.heap.size))
      (OwnFrom.and (OwnFrom.and (ownFrom_pure _ _) (Own.from (hasInts_own _ _ fun pre => vals pre) _)) ownFrom_grown)
      (fun c => OwnFrom.and (OwnFrom.and (ownFrom_pure _ _) (Own.from (hasInts_own _ _ fun (pre : List (Pl s.cs.length)) => vals pre.dropLast) _)) ownFrom_grown)
      ⟨⟨nofun, _, HR4.out, World.ownsRow_nil _ _ _ _⟩, grown_none (grown_of (Below.refl _ _))⟩
      (fun x => { tmps := #[.agg (sbox s ad k), .int .i64 (a : Int), .pointer (some ⟨w.heap.size, 0, none⟩), undef, .slice none 0 0, .func (.func 37) #[] #[.pointer (some ⟨w2.heap.size, 0, none⟩), .pointer (some ⟨w2.heap.size + 1, 0, none⟩), .pointer (some ⟨w2.heap.size + 2, 0, none⟩), .pointer (some ⟨w2.heap.size + 3, 0, none⟩)], .int .i64 (b : Int), .pointer (some ⟨w3.heap.size, 0, none⟩), .int .i64 (x.1 : Int), .agg (sbox s ad k), .func (.func 37) #[] #[.pointer (some ⟨w0.heap.size, 0, none⟩), .pointer (some ⟨w0.heap.size + 1, 0, none⟩), .pointer (some ⟨w0.heap.size + 2, 0, none⟩), .pointer (some ⟨w0.heap.size + 3, 0, none⟩)], .agg (sbox s ad k), .int .i64 (a : Int), .int .i64 (b : Int), .int .i64 (b : Int), .bool true, .agg (sbox s ad k), .int .i64 (b : Int), .func (.func 37) #[] #[.pointer (some ⟨w2.heap.size, 0, none⟩), .pointer (some ⟨w2.heap.size + 1, 0, none⟩), .pointer (some ⟨w2.heap.size + 2, 0, none⟩), .pointer (some ⟨w2.heap.size + 3, 0, none⟩)], .func (.func 37) #[] #[.pointer (some ⟨w2.heap.size, 0, none⟩), .pointer (some ⟨w2.heap.size + 1, 0, none⟩), .pointer (some ⟨w2.heap.size + 2, 0, none⟩), .pointer (some ⟨w2.heap.size + 3, 0, none⟩)], .int .i64 (x.1 : Int), undef, undef, undef, undef, undef, undef, undef, undef, undef, undef, undef], defers := [] }) ?assign ?body ?done ?stop
    case assign =>
      intro l x W K hK
      gi_wp2
      exact hK
    case body =>
      rintro l pre ⟨x, hx⟩ W ⟨⟨hp, v, hv, hrow⟩, hg⟩ hlt
      obtain ⟨i0, hi, hz0, hz1, hz2⟩ := info_parts info_int
      have HP := Lib.hid hp
      have HG := Lib.hid hg
      obtain ⟨c0, c1, c2, c3, c4, c5⟩ := box6 ((hg.block _ (by have := HN4.out; have := HN3.out; omega) (fun he => by injection he with he; have := HN3.out; omega)).trans HS4.out)
      obtain ⟨xf, xp, xn, xs, xm, xc, ex⟩ := c_eta (s.cs.getD x noC)
      obtain ⟨b1, o1, rfl, g0, g1, g2, g3, g4, g5⟩ := (HI.out.below (HB4.out.trans (grown_below hg (by have := HN3.out; omega) (by have := HN4.out; have := HN3.out; omega)))).cells hx ex
      have HQ := Lib.hid (fat_of ex)
      have hi0 : (0 : Int) ≤ (x : Int) := by omega
      have hi1 : (x : Int) < (s.cs.length : Int) := by omega
      have HSZ := Lib.hid (show w4.heap.size ≤ W.heap.size from hg.size)
      have HKL := Lib.hid (show (vals pre).length < 10000 from by rw [vals_len]; have := HL.out; omega)
      clear ex hg hlt hp
      have hc := hv.cell
      cases xf with
      | true =>
        gi_wp2
        exact ⟨KeepsFrom.refl _ _, ⟨⟨rfl, pre, ⟨x, hx⟩, rfl, HP.out, HQ.out⟩, by rw [List.dropLast_concat]; exact ⟨v, hv, hrow⟩⟩, HG.out⟩
      | false =>
        gi_wp2_with (gi_at_builtin; refine wpListIn_append_own _ rfl _ _ 30 rfl w4.heap.size 3 i0 (.int .i64 0) 1 8 Try.underlying30 hi hz0 hz1 hz2 rfl (by decide) _ _ _ rfl (hrow.alloc _) ⟨W.heap.size, 0, none⟩ 1 1 [.int .i64 (x : Int)] rfl rfl (cell_one_new _ _ _) (by simp [Value.oneCell']) (Nat.le_trans (show _ ≤ 10001 by have := HKL.out; omega) (by decide)) (by have := HKL.out; omega) (by have := HSZ.out; simp; omega) ?_; intro v' w1' hown' hgrow _; obtain ⟨g', cap', rfl⟩ := ownsRow_succ hown'; obtain ⟨hv1, hv2, hr2, hk2, hgw2⟩ := appended2 hv (by decide) hrow HSZ.out hown' hgrow; have hc1 := hv1.cell; have hf1 := hv1.frozen)
        have HGW := hgw2 w4 rfl HG.out
        refine ⟨hk2.from _, fun q h1 h2 => (HGW.block q (by have := HN4.out; have := HLT.out; omega) (fun he => by injection he with he; have := HLT.out; omega)).trans (HG.out.block q (by have := HN4.out; have := HLT.out; omega) (fun he => by injection he with he; have := HLT.out; omega)).symm, ⟨fun y hy => (List.mem_append.1 hy).elim (HP.out y) (fun e => by rw [List.mem_singleton.1 e]; exact HQ.out), _, hv2, ?_⟩, HGW⟩
        rw [vals_snoc]
        unfold OwnInts
        rw [List.length_append]
        simpa [i64s] using hr2
    case done =>
      rintro D ys W hD rfl ⟨⟨hp, v, hv, hrow⟩, hg⟩ hK
      have hc := hv.cell
      have HV := Lib.hid (show cells s.cs a = vals (upto (wseq s.cs.length HZ.out ((b : Int)) (1) 1) s.cs.length) by unfold cells; rw [HBE.out]; exact cells_full HSQ.out (fun i hi => hp _ (mem_upto hi)))
      have HROW := Lib.hid hrow
      have HBW := Lib.hid (HB4.out.trans (grown_below hg (by have := HN3.out; omega) (by have := HN4.out; have := HN3.out; omega)))
      obtain ⟨va, vc, rfl⟩ := hrow.form
      clear hrow hg hv hp
      go_wp2_with fail
      refine ⟨by simp, .inl ⟨_, _, rfl, run_takeDeferred hK, ?_⟩⟩
      exact ⟨_, results_tmp rfl _ _ _, _, rfl, by rw [HV.out]; exact OwnInts.mono (ownsRow_putObj HROW.out _ hK rfl) (by have := HN4.out; have := HN3.out; omega), HBW.out.trans (belowK_b (w := w) (Nat.le_refl _) W D _ _ (by have := HN4.out; have := HN3.out; omega) hK rfl rfl)⟩
    case stop =>
      rintro D c pre W hD ⟨q, hq, hpre⟩ ⟨⟨⟨rfl, p, x, he, h1, h2⟩, v, hv, hrow⟩, hg⟩ hK
      rw [he, List.dropLast_concat] at hrow
      obtain ⟨j, rfl, rfl, rfl⟩ := upto_last (he.symm.trans hpre)
      have hc := hv.cell
      have HV := Lib.hid (show cells s.cs a = vals (upto (wseq s.cs.length HZ.out ((b : Int)) (1) 1) j) by unfold cells; rw [HBE.out]; exact cells_stop HSQ.out (by omega) h2 (fun i hi => h1 _ (mem_upto hi)))
      have HROW := Lib.hid hrow
      have HBW := Lib.hid (HB4.out.trans (grown_below hg (by have := HN3.out; omega) (by have := HN4.out; have := HN3.out; omega)))
      obtain ⟨va, vc, rfl⟩ := hrow.form
      clear hrow hg hv h1 h2 he hpre
      gi_wp2
      go_wp2_with fail
      refine ⟨by simp, .inl ⟨_, _, rfl, run_takeDeferred hK, ?_⟩⟩
      exact ⟨_, results_tmp rfl _ _ _, _, rfl, by rw [HV.out]; exact OwnInts.mono (ownsRow_putObj HROW.out _ hK rfl) (by have := HN4.out; have := HN3.out; omega), HBW.out.trans (belowK_b (w := w) (Nat.le_refl _) W D _ _ (by have := HN4.out; have := HN3.out; omega) hK rfl rfl)⟩
end Fld
end Go.Proofs.Ytoacookbfpcncaa
