/- Begin, Formatted, Of, Open of package field. -/
import Derived.Test.YtoacookbfpcncaaFldWalk
import Derived.Test.YtoacookbfpcncaaFldRef2
namespace Go.Proofs.Ytoacookbfpcncaa
open Go.RowKit Sha Six Apd Cut Err Att Grd
set_option linter.unusedVariables false
attribute [local go_sem] Oper.semAt_some
namespace Fld
/-- A screen's box as a value. -/
abbrev sbox (s : S) (ad : Option Addr) (k : Nat) : Array Value := #[.int .i64 s.rows, .int .i64 s.cols, .slice ad s.cs.length k, .int .i64 s.cur, .bool s.lk, .bool s.ins]
set_option maxRecDepth 100000 in
set_option maxHeartbeats 8000000 in
theorem fbegin_any (s : S) (ad : Option Addr) (k : Nat) (a : Nat) (w : World) (h : CelsIn w (.slice ad s.cs.length k) s.cs) (h8 : Sound s.cs) (hz : 0 < s.cs.length) (hl : s.cs.length < 10000) (ha : a < s.cs.length) :
    Calls Try.prog 13 #[.agg #[.int .i64 s.rows, .int .i64 s.cols, .slice ad s.cs.length k, .int .i64 s.cur, .bool s.lk, .bool s.ins], .int .i64 (a : Int)] w fun e w' => e = .returned (.int .i64 (begin_ s.cs a)) ∧ Below w.heap.size w w' := by
  have HB := Lib.hid (al_any w (.cells (sbox s ad k) 24))
  have HX := Lib.hid (heap_alloc_new w (.cells (sbox s ad k) 24))
  have HI := Lib.hid (h.below HB.out)
  have HZ := Lib.hid hz
  have HL := Lib.hid hl
  have HA := Lib.hid ha
  clear h hz hl ha
  refine (callsIn_wide (n := 4)).1 ?_
  refine callsIn_of_wp_marks Try.func13 rfl trivial ?_ rfl
  simp only [Try.ntmps13, List.size_toArray, List.length_cons, List.length_nil, Nat.reduceAdd, Nat.reduceSub, Array.replicate_succ, Array.replicate_zero, List.push_toArray, List.append_toArray, List.nil_append, List.cons_append]
  refine wpIn_wide.2 ?_
  go_wp2_with fail
  obtain ⟨w1, hw1⟩ : ∃ w1 : World, (w.alloc (.cells (sbox s ad k) 24)).alloc (.cells #[.int .i64 0] 3) = w1 := ⟨_, rfl⟩
  have HS1 := Lib.hid (show w1.heap[w.heap.size]? = some (.cells (sbox s ad k) 24) by rw [← hw1, Below.heap_alloc _ _ _ (by simp)]; exact HX.out)
  have HR1 := Lib.hid (show w1.heap[w.heap.size + 1]? = some (.cells #[.int .i64 0] 3) by rw [← hw1]; have := World.alloc_heap_new (w.alloc (.cells (sbox s ad k) 24)) (.cells #[.int .i64 0] 3); rwa [World.size_alloc] at this)
  have HB1 := Lib.hid (show Below w.heap.size w w1 by rw [← hw1]; exact kept_trans HB.out (al_any _ _))
  have HI1 := Lib.hid (show CelsIn w1 (.slice ad s.cs.length k) s.cs by rw [← hw1]; exact HI.out.below (al_any _ _))
  have HN1 := Lib.hid (show w1.heap.size = w.heap.size + 2 by rw [← hw1]; simp)
  rw [hw1]
  clear hw1 HB HX HI
  refine (walk_any _ _ _ _ _ _ _ _ _ _ _ _).mono ?_
  rintro e w2 ⟨rfl, hbox, hb2, hn2⟩
  have HS2 := Lib.hid (show w2.heap[w.heap.size]? = some (.cells (sbox s ad k) 24) from (hb2.block _ (by have := HN1.out; omega)).trans HS1.out)
  have HR2 := Lib.hid (show w2.heap[w.heap.size + 1]? = some (.cells #[.int .i64 0] 3) from (hb2.block _ (by have := HN1.out; omega)).trans HR1.out)
  have HB2 := Lib.hid (kept_trans HB1.out hb2)
  have HI2 := Lib.hid (HI1.out.below hb2)
  have HN2 := Lib.hid (show w2.heap.size = w.heap.size + 6 by have := HN1.out; omega)
  have HBX := Lib.hid hbox
  clear hbox hb2 hn2 HB1 HI1
  go_wp2_with fail
  refine (wpIn_wide (n := 4)).1 ?_
  refine wpIn_rangeFunc_ownG rfl (by omega) (gf := 37) (lb := #[.pointer (some ⟨w1.heap.size, 0, none⟩), .pointer (some ⟨w1.heap.size + 1, 0, none⟩), .pointer (some ⟨w1.heap.size + 2, 0, none⟩), .pointer (some ⟨w1.heap.size + 3, 0, none⟩)]) rfl trivial (enters_of Try.func37 (by kernel_rfl) rfl)
    (walk_stops 3 (by omega) s.rows s.cols ad s.cs.length k s.cur s.lk s.ins HZ.out HL.out (a : Int) 0 (-1) (by have := HL.out; have := HA.out; omega) (by omega) (by omega) w2 w1.heap.size HBX.out)
    kp4_t (kp4_b (by have := HN1.out; have := HN2.out; omega)) (Below.refl _ _) (fun _ => rfl)
    (fun pre W => (∀ y ∈ pre, fat s.cs y.1 = false) ∧ w2.grownBy W none)
    (fun c pre W => (c = .ret ∧ ∃ p x, pre = p ++ [x] ∧ (∀ y ∈ p, fat s.cs y.1 = false) ∧ fat s.cs x.1 = true ∧ W.cell? ⟨w.heap.size + 1, 0, none⟩ = some (.int .i64 (x.1 : Int))) ∧ w2.grownBy W (some (w.heap.size + 1)))
    (OwnFrom.and (ownFrom_pure _ _) ownFrom_grown)
    (fun c => OwnFrom.and (Own.from (fun q X Y row hs hg hr => ⟨hs.1, by obtain ⟨p, x, e, h1, h2, h3⟩ := hs.2; exact ⟨p, x, e, h1, h2, cell_kept h3 hg hr⟩⟩) _) ownFrom_grown)
    ⟨nofun, grown_of (Below.refl _ _)⟩
    (fun x => { tmps := #[.agg (sbox s ad k), .int .i64 (a : Int), .pointer (some ⟨w.heap.size, 0, none⟩), undef, .pointer (some ⟨w.heap.size + 1, 0, none⟩), .int .i64 (x.1 : Int), .agg (sbox s ad k), .int .i64 (a : Int), .func (.func 37) #[] #[.pointer (some ⟨w1.heap.size, 0, none⟩), .pointer (some ⟨w1.heap.size + 1, 0, none⟩), .pointer (some ⟨w1.heap.size + 2, 0, none⟩), .pointer (some ⟨w1.heap.size + 3, 0, none⟩)], .int .i64 (x.1 : Int), undef, undef, undef, undef, undef, undef, undef], defers := [] }) ?assign ?body ?done ?stop
  case assign =>
    intro l x W K hK
    gi_wp2
    exact hK
  case body =>
    rintro l pre ⟨x, hx⟩ W ⟨hp, hg⟩ hlt
    have HP := Lib.hid hp
    have HG := Lib.hid hg
    have HBW := Lib.hid (show Below w2.heap.size w2 W from ⟨hg.os, hg.tape, hg.output, hg.size, fun k hk => hg.block k hk nofun⟩)
    clear hp hg hlt
    obtain ⟨c0, c1, c2, c3, c4, c5⟩ := box6 ((HBW.out.block _ (by have := HN2.out; omega)).trans HS2.out)
    have hr0 : W.heap[w.heap.size + 1]? = some (.cells #[.int .i64 0] 3) := (HBW.out.block _ (by have := HN2.out; omega)).trans HR2.out
    have r0 : W.cell? ⟨w.heap.size + 1, 0, none⟩ = some (.int .i64 0) := by simp [World.cell?, hr0]
    have r1 : W.frozen? ⟨w.heap.size + 1, 0, none⟩ = false := by simp [World.frozen?, hr0]
    obtain ⟨xf, xp, xn, xs, xm, xc, ex⟩ := c_eta (s.cs.getD x noC)
    obtain ⟨b1, o1, rfl, g0, g1, g2, g3, g4, g5⟩ := (HI2.out.below HBW.out).cells hx ex
    have HQ := Lib.hid (fat_of ex)
    have hi0 : (0 : Int) ≤ (x : Int) := by omega
    have hi1 : (x : Int) < (s.cs.length : Int) := by omega
    clear ex hr0
    cases xf with
    | true =>
      gi_wp2
      exact ⟨(KeepsOthers.setCell _ _ _).from _, ⟨rfl, pre, ⟨x, hx⟩, rfl, HP.out, HQ.out, World.cell?_setCell_same' _ _ _ (by rw [r0]; rfl)⟩, grown_t (grown_none HG.out) (grownBy_setCell' W _ _)⟩
    | false =>
      gi_wp2
      exact ⟨KeepsFrom.refl _ _, fun _ _ _ => rfl, fun y hy => (List.mem_append.1 hy).elim (HP.out y) (fun e => by rw [List.mem_singleton.1 e]; exact HQ.out), HG.out⟩
  case done =>
    rintro D ys W hD rfl ⟨hp, hg⟩ hK
    have HNO := Lib.hid (begin_no (cs := s.cs) (a := a) (fun j hj => by
      rw [← wseq_val (hz := HZ.out) (m := 0) (st := -1) (i := j) (by omega)]; exact hp _ (mem_upto hj)))
    have HBW := Lib.hid (show Below w2.heap.size w2 W from ⟨hg.os, hg.tape, hg.output, hg.size, fun k hk => hg.block k hk nofun⟩)
    have HK := Lib.hid hK
    have HD := Lib.hid hD
    have hr0 : W.heap[w.heap.size + 1]? = some (.cells #[.int .i64 0] 3) := (HBW.out.block _ (by have := HN2.out; omega)).trans HR2.out
    have r0 : W.cell? ⟨w.heap.size + 1, 0, none⟩ = some (.int .i64 0) := by simp [World.cell?, hr0]
    have r1 : W.frozen? ⟨w.heap.size + 1, 0, none⟩ = false := by simp [World.frozen?, hr0]
    clear hp hg hK hD hr0
    go_wp2_with fail
    have hK' := (KeepsOthers.setCell W ⟨w.heap.size + 1, 0, none⟩ (.int .i64 (-1))).same D _ HK.out rfl
    have hc5 := cell_kept (World.cell?_setCell_same' W ⟨w.heap.size + 1, 0, none⟩ (.int .i64 (-1)) (by rw [r0]; rfl)) (grownBy_putObj' _ D (.deferred none)) (fun r e => by cases e; exact ⟨_, hK', rfl⟩)
    refine ⟨by simp, .inl ⟨_, _, rfl, run_takeDeferred hK', ?_⟩⟩
    refine ⟨.int .i64 (-1), by simp [results, Try.f13, go_sem, hc5], by rw [HNO.out], ?_⟩
    refine (HB2.out.trans (HBW.out.mono (by have := HN2.out; omega))).trans ?_
    exact ((Below.refl w.heap.size W).setCell (p := ⟨w.heap.size + 1, 0, none⟩) (by simp) _).trans (belowK_b (w := w) (Nat.le_refl _) _ D _ _ (by have := HN2.out; have := HD.out; omega) hK' rfl rfl)
  case stop =>
    rintro D c pre W hD ⟨q, hq, hpre⟩ ⟨⟨rfl, p, x, he, h1, h2, h3⟩, hg⟩ hK
    obtain ⟨j, rfl, rfl, rfl⟩ := upto_last (he.symm.trans hpre)
    have HBA := Lib.hid (begin_at (cs := s.cs) (a := a) (k := j) (by omega) (by rw [← wseq_val (hz := HZ.out) (m := 0) (st := -1) (i := j) (by omega)]; exact h2)
      (fun i hi => by rw [← wseq_val (hz := HZ.out) (m := 0) (st := -1) (i := i) (by omega)]; exact h1 _ (mem_upto hi)))
    rw [wseq_val (hz := HZ.out) (m := 0) (st := -1) (i := j) (t := -(j : Int)) (by omega)] at h3
    gi_wp2
    have hc5 := cell_kept h3 (grownBy_putObj' _ D (.deferred none)) (fun r e => by cases e; exact ⟨_, hK, rfl⟩)
    refine ⟨by simp, .inl ⟨_, _, rfl, run_takeDeferred hK, ?_⟩⟩
    refine ⟨_, by simp [results, Try.f13, go_sem, hc5]; rfl, by rw [HBA.out], ?_⟩
    refine (HB2.out.trans (grown_below hg (by omega) (by have := HN2.out; omega))).trans ?_
    exact belowK_b (w := w) (Nat.le_refl _) _ D _ _ (by have := HN2.out; omega) hK rfl rfl
theorem begin_ge {cs : List C} (hz : 0 < cs.length) : fmt cs = decide (0 ≤ begin_ cs 0) := by
  cases hf : fmt cs with
  | false => rw [begin_none hz hf]; rfl
  | true =>
    obtain ⟨_, b, _, _, hb, _⟩ := begin_some hz hf
    rw [hb]; exact (decide_eq_true (by omega)).symm
theorem begin_ne {cs : List C} {a : Nat} (ha : a < cs.length) : fat cs a = decide (begin_ cs a = (a : Int)) := by
  cases hf : fat cs a with
  | true => rw [begin_self ha hf]; exact (decide_eq_true rfl).symm
  | false =>
    refine (decide_eq_false fun he => ?_).symm
    cases hm : fmt cs with
    | false => rw [begin_none ha hm] at he; omega
    | true =>
      obtain ⟨_, b, _, _, hb, _, h2, _⟩ := begin_some ha hm
      rw [hb] at he
      obtain rfl : b = a := by omega
      rw [hf] at h2; cases h2
set_option maxRecDepth 100000 in
set_option maxHeartbeats 8000000 in
theorem ffmt_any (s : S) (ad : Option Addr) (k : Nat) (w : World) (h : CelsIn w (.slice ad s.cs.length k) s.cs) (h8 : Sound s.cs) (hz : 0 < s.cs.length) (hl : s.cs.length < 10000) :
    Calls Try.prog 11 #[.agg #[.int .i64 s.rows, .int .i64 s.cols, .slice ad s.cs.length k, .int .i64 s.cur, .bool s.lk, .bool s.ins]] w fun e w' => e = .returned (.bool (fmt s.cs)) ∧ Below w.heap.size w w' := by
  have HR := Lib.hid (fbegin_any s ad k 0 (w.alloc (.cells #[.int .i64 s.rows, .int .i64 s.cols, .slice ad s.cs.length k, .int .i64 s.cur, .bool s.lk, .bool s.ins] 24)) (h.below (al_any _ _)) h8 hz hl hz)
  have HE := Lib.hid (begin_ge hz)
  clear h hz hl
  generalize fmt s.cs = res at *
  generalize begin_ s.cs 0 = bg at *
  go_enter Try.func11, Try.ntmps11
  go_wp2_with fail
  refine HR.out.mono ?_
  rintro e w1 ⟨rfl, hb⟩
  have HK := Lib.hid (kept_trans (al_any w _) hb)
  clear hb HR
  go_wp2_with fail
  go_ret
  exact ⟨by rw [HE.out]; rfl, HK.out⟩
set_option maxRecDepth 100000 in
set_option maxHeartbeats 8000000 in
theorem fof_any (s : S) (ad : Option Addr) (k : Nat) (a : Nat) (w : World) (h : CelsIn w (.slice ad s.cs.length k) s.cs) (h8 : Sound s.cs) (hz : 0 < s.cs.length) (hl : s.cs.length < 10000) (ha : a < s.cs.length) :
    Calls Try.prog 18 #[.agg #[.int .i64 s.rows, .int .i64 s.cols, .slice ad s.cs.length k, .int .i64 s.cur, .bool s.lk, .bool s.ins], .int .i64 (a : Int)] w fun e w' => e = .returned (.agg #[.bool (attrOf s.cs a).p, .bool (attrOf s.cs a).n, .int .i64 (attrOf s.cs a).s, .bool (attrOf s.cs a).m]) ∧ Below w.heap.size w w' := by
  have HB := Lib.hid (kept_trans (al_any w (.cells #[.int .i64 s.rows, .int .i64 s.cols, .slice ad s.cs.length k, .int .i64 s.cur, .bool s.lk, .bool s.ins] 24)) (al_any _ (.cells #[.bool false, .bool false, .int .i64 0, .bool false] 33)))
  have HX := Lib.hid (heap_alloc2_old w (.cells #[.int .i64 s.rows, .int .i64 s.cols, .slice ad s.cs.length k, .int .i64 s.cur, .bool s.lk, .bool s.ins] 24) (.cells #[.bool false, .bool false, .int .i64 0, .bool false] 33))
  have HY := Lib.hid (heap_alloc2_new w (.cells #[.int .i64 s.rows, .int .i64 s.cols, .slice ad s.cs.length k, .int .i64 s.cur, .bool s.lk, .bool s.ins] 24) (.cells #[.bool false, .bool false, .int .i64 0, .bool false] 33))
  have HI := Lib.hid (h.below HB.out)
  have HP := Lib.hid fun W hb => fbegin_any s ad k a W (HI.out.below hb) h8 hz hl ha
  have HA := Lib.hid ha
  clear h hz hl ha
  go_enter Try.func18, Try.ntmps18
  go_upto_region 1 with (fail)
  generalize (w.alloc _).alloc _ = w1 at *
  obtain ⟨c0, c1, c2, c3, c4, c5⟩ := cells6 HX.out
  go_wp2_with fail
  with_reducible refine (HP.out _ (Below.refl _ _)).mono ?_
  rintro e w2 ⟨rfl, hb⟩
  have K2 := kept_hid HB hb
  have X2 := Lib.hid (blk HX.out hb)
  have Y2 := Lib.hid (blk HY.out hb)
  have I2 := Lib.hid (HI.out.below hb)
  clear hb c0 c1 c2 c3 c4 c5 HB HX HY HI HP
  cases hf : fmt s.cs with
  | false =>
    rw [begin_none HA.out hf]
    have HE := Lib.hid (show attrOf s.cs a = noC by unfold attrOf; rw [begin_none HA.out hf]; rfl)
    obtain ⟨d0, d1, d2, d3⟩ := cells4 Y2.out
    obtain ⟨f0, f1, f2, f3⟩ := free4 Y2.out
    have SF := Lib.hid (over4g w2 (w.heap.size + 1) _ _ _ _ _ (.bool false) (.bool false) (.int .i64 0) (.bool false) Y2.out)
    clear hf
    go_wp2_with fail
    clear d0 d1 d2 d3 f0 f1 f2 f3
    generalize (((w2.setCell _ _).setCell _ _).setCell _ _).setCell _ _ = w4 at *
    refine bodyPost_ret (v := .agg #[.bool false, .bool false, .int .i64 0, .bool false]) (results_cell_row rfl _ _ (w.heap.size + 1) 33 _ (0, 0) _ rfl SF.out.1 Try.underlying33 rfl (by kernel_rfl)) rfl ?_
    exact ⟨by rw [HE.out]; rfl, below_grown K2.out SF.out.2 (by omega)⟩
  | true =>
    obtain ⟨kk, b, _, hbk, hbe, hbl, _, _⟩ := begin_some HA.out hf
    clear hbk
    rw [hbe]
    obtain ⟨xf, xp, xn, xs, xm, xc, ex⟩ := c_eta (s.cs.getD b noC)
    have HE := Lib.hid (show attrOf s.cs a = ⟨xf, xp, xn, xs, xm, xc⟩ by unfold attrOf; rw [hbe, if_neg (by omega), Int.toNat_natCast, ex])
    obtain ⟨b1, o1, rfl, g0, g1, g2, g3, g4, g5⟩ := I2.out.cells hbl ex
    have g2' : w2.cell? ⟨b1, o1 + b * 6 + 1 + 1, none⟩ = some (.bool xn) := g2
    have g3' : w2.cell? ⟨b1, o1 + b * 6 + 1 + 2, none⟩ = some (.int .i64 xs) := g3
    have g4' : w2.cell? ⟨b1, o1 + b * 6 + 1 + 3, none⟩ = some (.bool xm) := g4
    have hi0 : (0 : Int) ≤ (b : Int) := by omega
    have hi1 : (b : Int) < (s.cs.length : Int) := by omega
    have hi2 : ¬ (b : Int) < 0 := by omega
    obtain ⟨c0, c1, c2, c3, c4, c5⟩ := cells6 X2.out
    obtain ⟨d0, d1, d2, d3⟩ := cells4 Y2.out
    obtain ⟨f0, f1, f2, f3⟩ := free4 Y2.out
    have SF := Lib.hid (over4g w2 (w.heap.size + 1) _ _ _ _ _ (.bool xp) (.bool xn) (.int .i64 xs) (.bool xm) Y2.out)
    clear hf hbe ex
    go_wp2_with fail
    clear c0 c1 c2 c3 c4 c5 d0 d1 d2 d3 f0 f1 f2 f3 g0 g1 g2 g3 g4 g5 g2' g3' g4'
    generalize (((w2.setCell _ _).setCell _ _).setCell _ _).setCell _ _ = w4 at *
    refine bodyPost_ret (v := .agg #[.bool xp, .bool xn, .int .i64 xs, .bool xm]) (results_cell_row rfl _ _ (w.heap.size + 1) 33 _ (0, 0) _ rfl SF.out.1 Try.underlying33 rfl (by kernel_rfl)) rfl ?_
    exact ⟨by rw [HE.out], below_grown K2.out SF.out.2 (by omega)⟩
set_option maxRecDepth 100000 in
set_option maxHeartbeats 8000000 in
theorem fopen_any (s : S) (ad : Option Addr) (k : Nat) (a : Nat) (w : World) (h : CelsIn w (.slice ad s.cs.length k) s.cs) (h8 : Sound s.cs) (hz : 0 < s.cs.length) (hl : s.cs.length < 10000) (ha : a < s.cs.length) :
    Calls Try.prog 20 #[.agg #[.int .i64 s.rows, .int .i64 s.cols, .slice ad s.cs.length k, .int .i64 s.cur, .bool s.lk, .bool s.ins], .int .i64 (a : Int)] w fun e w' => e = .returned (.bool (open_ s.cs a)) ∧ Below w.heap.size w w' := by
  have HB := Lib.hid (al_any w (.cells #[.int .i64 s.rows, .int .i64 s.cols, .slice ad s.cs.length k, .int .i64 s.cur, .bool s.lk, .bool s.ins] 24))
  have HX := Lib.hid (heap_alloc_new w (.cells #[.int .i64 s.rows, .int .i64 s.cols, .slice ad s.cs.length k, .int .i64 s.cur, .bool s.lk, .bool s.ins] 24))
  have HI := Lib.hid (h.below HB.out)
  have HR := Lib.hid fun W hb => fbegin_any s ad k a W (HI.out.below hb) h8 hz hl ha
  have HP := Lib.hid fun W hb => fof_any s ad k a W (HI.out.below hb) h8 hz hl ha
  have HE := Lib.hid (show open_ s.cs a = (!(decide (begin_ s.cs a = (a : Int))) && !(attrOf s.cs a).p) by unfold open_; rw [begin_ne ha])
  clear h hz hl ha
  generalize open_ s.cs a = res at *
  generalize attrOf s.cs a = at_ at *
  generalize begin_ s.cs a = bg at *
  obtain ⟨tf, tp, tn, ts, tm, tc⟩ := at_
  simp only at HP HE
  have hfld := run_prot tp tn ts tm
  by_cases hbg : bg = (a : Int)
  · go_enter Try.func20, Try.ntmps20
    go_upto_region 1 with (fail)
    generalize w.alloc _ = w1 at *
    obtain ⟨c0, c1, c2, c3, c4, c5⟩ := cells6 HX.out
    go_wp2_with fail
    with_reducible refine (HR.out _ (Below.refl _ _)).mono ?_
    rintro e w2 ⟨rfl, hb⟩
    have K2 := kept_hid HB hb
    clear hb
    subst hbg
    go_wp2_with fail
    go_ret
    exact ⟨by rw [HE.out]; simp, K2.out⟩
  · have hne : (bg != (a : Int)) = true := by simpa using hbg
    go_enter Try.func20, Try.ntmps20
    go_upto_region 1 with (fail)
    generalize w.alloc _ = w1 at *
    obtain ⟨c0, c1, c2, c3, c4, c5⟩ := cells6 HX.out
    go_wp2_with fail
    with_reducible refine (HR.out _ (Below.refl _ _)).mono ?_
    rintro e w2 ⟨rfl, hb⟩
    have K2 := kept_hid HB hb
    have HP2 := Lib.hid (HP.out _ hb)
    have X2 := Lib.hid (blk HX.out hb)
    clear hb c0 c1 c2 c3 c4 c5
    obtain ⟨c0, c1, c2, c3, c4, c5⟩ := cells6 X2.out
    go_wp2_with fail
    with_reducible refine HP2.out.mono ?_
    rintro e w3 ⟨rfl, hb⟩
    have K3 := kept_hid K2 hb
    clear hb
    go_wp2_with fail
    go_ret
    exact ⟨by rw [HE.out, decide_eq_false hbg]; rfl, K3.out⟩
end Fld
end Go.Proofs.Ytoacookbfpcncaa
