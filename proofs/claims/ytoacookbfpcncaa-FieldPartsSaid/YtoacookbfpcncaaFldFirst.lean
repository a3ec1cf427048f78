/- firstCell of package field. -/
import Derived.Test.YtoacookbfpcncaaFldBegin
import Derived.Test.YtoacookbfpcncaaFldRef3
import Derived.Test.YtoacookbfpcncaaRgnRound
namespace Go.Proofs.Ytoacookbfpcncaa
open Go.RowKit Sha Six Apd Cut Err Att Grd
set_option linter.unusedVariables false
set_option linter.unusedSimpArgs false
attribute [local go_sem] Oper.semAt_some
namespace Fld
/-- What firstCell answers. -/
def ffc (cs : List C) (a m st : Int) : Int := match firstK (fun i => opener cs (on cs.length a (m + (i : Int) * st))) 0 cs.length with
  | some i => ((on cs.length ((on cs.length a (m + (i : Int) * st) : Nat) : Int) 1 : Nat) : Int)
  | none => -1
theorem ffc_at {cs : List C} {a m st : Int} {i : Nat} (hi : i < cs.length) (h : opener cs (on cs.length a (m + (i : Int) * st)) = true) (hn : ∀ j, j < i → opener cs (on cs.length a (m + (j : Int) * st)) = false) : ffc cs a m st = ((on cs.length ((on cs.length a (m + (i : Int) * st) : Nat) : Int) 1 : Nat) : Int) := by
  have : firstK (fun i => opener cs (on cs.length a (m + (i : Int) * st))) 0 cs.length = some i := firstK_is (Nat.zero_le _) (by omega) h (fun j _ hj => hn j hj)
  unfold ffc; rw [this]
theorem ffc_no {cs : List C} {a m st : Int} (hn : ∀ j, j < cs.length → opener cs (on cs.length a (m + (j : Int) * st)) = false) : ffc cs a m st = -1 := by
  have : firstK (fun i => opener cs (on cs.length a (m + (i : Int) * st))) 0 cs.length = none := firstK_no (fun j _ hj => hn j (by omega))
  unfold ffc; rw [this]
set_option maxRecDepth 100000 in
set_option maxHeartbeats 8000000 in
theorem ffirst_any (s : S) (ad : Option Addr) (k : Nat) (B : Nat) (a m st : Int) (w : World) (h : CelsIn w (.slice ad s.cs.length k) s.cs) (h8 : Sound s.cs) (hz : 0 < s.cs.length) (hl : s.cs.length < 10000) (ha : -100000 < a ∧ a < 100000) (hm : -100000 < m ∧ m < 100000) (hst : -2 < st ∧ st < 2)
    (hbox : Boxes w B (sbox s ad k) a m st) :
    Calls Try.prog 33 #[.agg #[.int .i64 s.rows, .int .i64 s.cols, .slice ad s.cs.length k, .int .i64 s.cur, .bool s.lk, .bool s.ins], .func (.func 37) #[] #[.pointer (some ⟨B, 0, none⟩), .pointer (some ⟨B + 1, 0, none⟩), .pointer (some ⟨B + 2, 0, none⟩), .pointer (some ⟨B + 3, 0, none⟩)]] w fun e w' => e = .returned (.int .i64 (ffc s.cs a m st)) ∧ Below w.heap.size w w' := by
  have HB := Lib.hid (al_any w (.cells (sbox s ad k) 24))
  have HX := Lib.hid (heap_alloc_new w (.cells (sbox s ad k) 24))
  have HI := Lib.hid (h.below HB.out)
  have HZ := Lib.hid hz
  have HL := Lib.hid hl
  have HA := Lib.hid ha
  have HM := Lib.hid hm
  have HST := Lib.hid hst
  have HBX := Lib.hid hbox
  clear h hz hl ha hm hst hbox
  refine (callsIn_wide (n := 4)).1 ?_
  refine callsIn_of_wp_marks Try.func33 rfl trivial ?_ rfl
  simp only [Try.ntmps33, List.size_toArray, List.length_cons, List.length_nil, Nat.reduceAdd, Nat.reduceSub, Array.replicate_succ, Array.replicate_zero, List.push_toArray, List.append_toArray, List.nil_append, List.cons_append]
  refine wpIn_wide.2 ?_
  go_wp2_with fail
  obtain ⟨w2, hw2⟩ : ∃ w2 : World, (w.alloc (.cells (sbox s ad k) 24)).alloc (.cells #[.int .i64 0] 3) = w2 := ⟨_, rfl⟩
  have HS2 := Lib.hid (show w2.heap[w.heap.size]? = some (.cells (sbox s ad k) 24) by rw [← hw2, Below.heap_alloc _ _ _ (by simp)]; exact HX.out)
  have HR2 := Lib.hid (show w2.heap[w.heap.size + 1]? = some (.cells #[.int .i64 0] 3) by rw [← hw2]; have := World.alloc_heap_new (w.alloc (.cells (sbox s ad k) 24)) (.cells #[.int .i64 0] 3); rwa [World.size_alloc] at this)
  have HB2 := Lib.hid (show Below w.heap.size w w2 by rw [← hw2]; exact kept_trans HB.out (al_any _ _))
  have HI2 := Lib.hid (show CelsIn w2 (.slice ad s.cs.length k) s.cs by rw [← hw2]; exact HI.out.below (al_any _ _))
  have HN2 := Lib.hid (show w2.heap.size = w.heap.size + 2 by rw [← hw2]; simp)
  have HBX2 := Lib.hid (HBX.out.kept (kp4_below HB2.out HBX.out.lt))
  rw [hw2]
  clear hw2 HB HX HI
  refine (wpIn_wide (n := 4)).1 ?_
  refine wpIn_rangeFunc_ownG rfl (by omega) (gf := 37) (lb := #[.pointer (some ⟨B, 0, none⟩), .pointer (some ⟨B + 1, 0, none⟩), .pointer (some ⟨B + 2, 0, none⟩), .pointer (some ⟨B + 3, 0, none⟩)]) rfl trivial (enters_of Try.func37 (by kernel_rfl) rfl)
    (walk_stops 3 (by omega) s.rows s.cols ad s.cs.length k s.cur s.lk s.ins HZ.out HL.out a m st HA.out HM.out HST.out w2 B HBX2.out)
    kp4_t (kp4_b (by have := HBX2.out.lt; omega)) (Below.refl _ _) (fun _ => rfl)
    (fun pre W => (∀ y ∈ pre, opener s.cs y.1 = false) ∧ w2.grownBy W none)
    (fun c pre W => (c = .ret ∧ ∃ p x, pre = p ++ [x] ∧ (∀ y ∈ p, opener s.cs y.1 = false) ∧ opener s.cs x.1 = true ∧ W.cell? ⟨w.heap.size + 1, 0, none⟩ = some (.int .i64 ((on s.cs.length (x.1 : Int) 1 : Nat) : Int))) ∧ w2.grownBy W (some (w.heap.size + 1)))
    (OwnFrom.and (ownFrom_pure _ _) ownFrom_grown)
    (fun c => OwnFrom.and (Own.from (fun q X Y row hs hg hr => ⟨hs.1, by obtain ⟨p, x, e, h1, h2, h3⟩ := hs.2; exact ⟨p, x, e, h1, h2, cell_kept h3 hg hr⟩⟩) _) ownFrom_grown)
    ⟨nofun, grown_of (Below.refl _ _)⟩
    (fun x => { tmps := #[.agg (sbox s ad k), .func (.func 37) #[] #[.pointer (some ⟨B, 0, none⟩), .pointer (some ⟨B + 1, 0, none⟩), .pointer (some ⟨B + 2, 0, none⟩), .pointer (some ⟨B + 3, 0, none⟩)], .pointer (some ⟨w.heap.size, 0, none⟩), undef, .pointer (some ⟨w.heap.size + 1, 0, none⟩), .int .i64 (x.1 : Int), undef, undef, .func (.func 37) #[] #[.pointer (some ⟨B, 0, none⟩), .pointer (some ⟨B + 1, 0, none⟩), .pointer (some ⟨B + 2, 0, none⟩), .pointer (some ⟨B + 3, 0, none⟩)], .int .i64 (x.1 : Int), undef, undef, undef, undef, undef, undef, undef, undef, undef, undef, undef, undef, undef, undef, undef, undef, undef, undef, undef, undef, undef, undef, undef, undef, undef, undef], defers := [] }) ?assign ?body ?done ?stop
  case assign =>
    intro l x W K hK
    gi_wp2
    exact hK
  case body =>
    rintro l pre ⟨x, hx⟩ W ⟨hp, hg⟩ hlt
    have HP := Lib.hid hp
    have HG := Lib.hid hg
    have HBW := Lib.hid (show Below w2.heap.size w2 W from ⟨hg.os, hg.tape, hg.output, hg.size, fun k hk => hg.block k hk nofun⟩)
    clear hp hg hlt
    have HSW := Lib.hid ((HBW.out.block _ (by have := HN2.out; omega)).trans HS2.out)
    have HRW := Lib.hid ((HBW.out.block _ (by have := HN2.out; omega)).trans HR2.out)
    have HIW := Lib.hid (HI2.out.below HBW.out)
    have HIX := Lib.hid (on_lt HZ.out (x : Int) 1)
    have HON := Lib.hid fun W => on_any s.rows s.cols ad s.cs.length k s.cur s.lk s.ins (x : Int) 1 W HZ.out (by have := HL.out; omega) (by have := HL.out; rw [IntKind.wrap_i64]; omega) (by decide)
    obtain ⟨xf, xp, xn, xs, xm, xc, ex⟩ := c_eta (s.cs.getD x noC)
    obtain ⟨b1, o1, rfl, g0, g1, g2, g3, g4, g5⟩ := HIW.out.cells hx ex
    obtain ⟨yf, yp, yn, ys, ym, yc, ey⟩ := c_eta (s.cs.getD (on s.cs.length x 1) noC)
    obtain ⟨b2, o2, hbo, p0, p1, p2, p3, p4, p5⟩ := HIW.out.cells HIX.out ey
    injection hbo with hbo
    injection hbo with hb1 hb2
    subst hb1
    subst hb2
    have HOP := Lib.hid (opener_of ex ey)
    have HC := Lib.hid fun (w' : World) (hb : Below W.heap.size W w') => box6 ((hb.block _ (by have := HN2.out; have := HBW.out.size; omega)).trans HSW.out)
    have HG1 := Lib.hid fun (w' : World) (hb : Below W.heap.size W w') => And.intro ((hb.cell (cell_lt g0)).trans g0) (And.intro ((hb.cell (cell_lt g1)).trans g1) (And.intro ((hb.cell (cell_lt g2)).trans g2) (And.intro ((hb.cell (cell_lt g3)).trans g3) (And.intro ((hb.cell (cell_lt g4)).trans g4) ((hb.cell (cell_lt g5)).trans g5)))))
    have HG2 := Lib.hid fun (w' : World) (hb : Below W.heap.size W w') => (hb.cell (cell_lt p0)).trans p0
    have hi0 : (0 : Int) ≤ (x : Int) := by omega
    have hi1 : (x : Int) < (s.cs.length : Int) := by omega
    clear ex ey g0 g1 g2 g3 g4 g5 p0 p1 p2 p3 p4 p5
    gi_wp2
    refine Rgn.region_held (S := fun w' => Below W.heap.size W w') l _ (by kernel_rfl) (fun ⟨_, _, h⟩ => h) (by kernel_rfl) (Below.refl _ _).drew ?_
    intro hS0
    refine wpAnyH_take (i := 0) (v := .pointer (some ⟨w.heap.size, 2, none⟩)) rfl (by kernel_rfl) (by kernel_rfl) (by kernel_rfl) (fun _ _ _ h => h) (Or.inl ⟨by rfl, fun w' hS => by go_simp⟩) hS0 ?_
    simp only [Act.put, List.setIfInBounds_toArray, List.set_cons_zero, List.set_cons_succ]
    refine wpAnyH_take (i := 2) (v := .int .i64 (x : Int)) rfl (by kernel_rfl) (by kernel_rfl) (by kernel_rfl) (fun _ _ _ h => h) (Or.inl ⟨by rfl, fun w' hS => by go_simp⟩) hS0 ?_
    simp only [Act.put, List.setIfInBounds_toArray, List.set_cons_zero, List.set_cons_succ]
    refine wpAnyH_take (i := 6) (v := .int .i64 (x : Int)) rfl (by kernel_rfl) (by kernel_rfl) (by kernel_rfl) (fun _ _ _ h => h) (Or.inl ⟨by rfl, fun w' hS => by go_simp⟩) hS0 ?_
    simp only [Act.put, List.setIfInBounds_toArray, List.set_cons_zero, List.set_cons_succ]
    refine wpAnyH_take (i := 1) (v := .slice (some ⟨b1, o1, none⟩) s.cs.length k) rfl (by kernel_rfl) (by kernel_rfl) (by kernel_rfl) (fun _ _ _ h => h) (Or.inl ⟨by rfl, fun w' hS => by have ⟨q0, q1, q2, q3, q4, q5⟩ := HC.out w' hS; go_simp⟩) hS0 ?_
    simp only [Act.put, List.setIfInBounds_toArray, List.set_cons_zero, List.set_cons_succ]
    refine wpAnyH_take (i := 3) (v := .pointer (some ⟨b1, o1 + x * 6, none⟩)) rfl (by kernel_rfl) (by kernel_rfl) (by kernel_rfl) (fun _ _ _ h => h) (Or.inl ⟨by rfl, fun w' hS => by go_simp⟩) hS0 ?_
    simp only [Act.put, List.setIfInBounds_toArray, List.set_cons_zero, List.set_cons_succ]
    refine wpAnyH_take (i := 4) (v := .agg #[.bool xf, .bool xp, .bool xn, .int .i64 xs, .bool xm, .int .u8 (xc : Int)]) rfl (by kernel_rfl) (by kernel_rfl) (by kernel_rfl) (fun _ _ _ h => h) (Or.inl ⟨by rfl, fun w' hS => by have ⟨q0, q1, q2, q3, q4, q5⟩ := HG1.out w' hS; go_simp⟩) hS0 ?_
    simp only [Act.put, List.setIfInBounds_toArray, List.set_cons_zero, List.set_cons_succ]
    refine wpAnyH_take (i := 5) (v := .agg (sbox s (some ⟨b1, o1, none⟩) k)) rfl (by kernel_rfl) (by kernel_rfl) (by kernel_rfl) (fun _ _ _ h => h) (Or.inl ⟨by rfl, fun w' hS => by have ⟨q0, q1, q2, q3, q4, q5⟩ := HC.out w' hS; go_simp⟩) hS0 ?_
    simp only [Act.put, List.setIfInBounds_toArray, List.set_cons_zero, List.set_cons_succ]
    refine wpAnyH_ready (rs := [7, 8]) (by kernel_rfl) (by simp) ?_
    refine AllReadyH.cons rfl (fun K' hK => ?_) (AllReadyH.cons rfl (fun K' hK => ?_) AllReadyH.nil)
    · clear hS0
      go_simp
      refine (HON.out _).mono ?_
      rintro e w3 ⟨rfl, hb3⟩
      have h3 : Below W.heap.size W w3 := (Below.refl _ _).drew.trans hb3
      refine hK.out _ _ h3 fun _ => ?_
      clear hb3 hK
      refine wpAnyH_ready (rs := [8]) (by kernel_rfl) (by simp) (AllReadyH.cons rfl (fun K' hK => ?_) AllReadyH.nil)
      go_simp
      refine hK.out _ _ (h3.trans ((al_any w3 _).mono h3.size)) fun _ => ?_
      clear hK
      refine wpAnyH_ready (rs := [9]) (by kernel_rfl) (by simp) (AllReadyH.cons rfl (fun K' hK => ?_) AllReadyH.nil)
      go_simp
      obtain ⟨wz, hwz⟩ : ∃ wz, w3.alloc (.cells #[.bool xf, .bool xp, .bool xn, .int .i64 xs, .bool xm, .int .u8 (xc : Int)] 39) = wz := ⟨_, rfl⟩
      have HN := Lib.hid (show wz.heap[w3.heap.size]? = some (.cells #[.bool xf, .bool xp, .bool xn, .int .i64 xs, .bool xm, .int .u8 (xc : Int)] 39) from hwz ▸ World.alloc_heap_new w3 _)
      have HBZ := Lib.hid (show Below W.heap.size W wz from hwz ▸ h3.trans ((al_any w3 (.cells #[.bool xf, .bool xp, .bool xn, .int .i64 xs, .bool xm, .int .u8 (xc : Int)] 39)).mono h3.size))
      rw [hwz]
      refine hK.out _ _ HBZ.out fun _ => ?_
      clear hK h3 hwz
      refine wpAnyH_ready (rs := [10]) (by kernel_rfl) (by simp) (AllReadyH.cons rfl (fun K' hK => ?_) AllReadyH.nil)
      go_simp
      refine hK.out _ _ HBZ.out fun _ => ?_
      refine wpAnyH_done (by kernel_rfl) ?_ _
      clear hK
      generalize w3.heap.size = NB at *
      obtain ⟨q0, q1, q2, q3, q4, q5⟩ := cells6 HN.out
      obtain ⟨d0, d1, d2, d3, d4, d5⟩ := HC.out wz HBZ.out
      have e0 := HG2.out wz HBZ.out
      have hr0 : wz.heap[w.heap.size + 1]? = some (.cells #[.int .i64 0] 3) := (HBZ.out.block _ (by have := HN2.out; have := HBW.out.size; omega)).trans HRW.out
      have r0 : wz.cell? ⟨w.heap.size + 1, 0, none⟩ = some (.int .i64 0) := by simp [World.cell?, hr0]
      have r1 : wz.frozen? ⟨w.heap.size + 1, 0, none⟩ = false := by simp [World.frozen?, hr0]
      have HKO := Lib.hid (KeepsOthers.of_grownBy (grown_of HBZ.out) nofun)
      have HKP := Lib.hid (kp4_below (B := B) HBZ.out (by have := HBX2.out.lt; have := HBW.out.size; omega))
      have HGZ := Lib.hid (grown_t HG.out (grown_of HBZ.out))
      obtain ⟨ix, hix⟩ : ∃ ix, on s.cs.length (x : Int) 1 = ix := ⟨_, rfl⟩
      rw [hix] at e0 ⊢
      have hj0 : (0 : Int) ≤ (ix : Int) := by omega
      have hj1 : (ix : Int) < (s.cs.length : Int) := by have := HIX.out; omega
      replace hix := Lib.hid hix
      clear hr0
      cases xf <;> cases xp <;> cases yf
      all_goals gi_wp2
      all_goals first
        | exact ⟨HKO.out.from _, HKP.out, fun y hy => (List.mem_append.1 hy).elim (HP.out y) (fun e => by rw [List.mem_singleton.1 e]; exact HOP.out), HGZ.out⟩
        | exact ⟨(HKO.out.trans (KeepsOthers.setCell _ _ _)).from _, ⟨rfl, pre, ⟨x, hx⟩, rfl, HP.out, HOP.out, by rw [hix.out]; exact World.cell?_setCell_same' _ _ _ (by rw [r0]; rfl)⟩, grown_t (grown_none HGZ.out) (grownBy_setCell' _ _ _)⟩
    · clear hS0
      go_simp
      have HN1 := Lib.hid (World.alloc_heap_new W (.cells #[.bool false, .bool false, .bool false, .int .i64 0, .bool false, .int .u8 0] 39))
      have h1 : Below W.heap.size W (W.alloc (.cells #[.bool false, .bool false, .bool false, .int .i64 0, .bool false, .int .u8 0] 39)).drew := (al_any W _).drew
      refine hK.out _ _ h1 fun _ => ?_
      clear hK
      refine wpAnyH_ready (rs := [7]) (by kernel_rfl) (by simp) (AllReadyH.cons rfl (fun K' hK => ?_) AllReadyH.nil)
      go_simp
      refine (HON.out _).mono ?_
      rintro e w3 ⟨rfl, hb3⟩
      have h3 : Below W.heap.size W w3 := h1.trans (hb3.mono (by simp [World.drew]))
      have HN3 := Lib.hid ((hb3.block W.heap.size (by simp [World.drew])).trans HN1.out)
      refine hK.out _ _ h3 fun _ => ?_
      clear hb3 h1 HN1 hK
      refine wpAnyH_ready (rs := [9]) (by kernel_rfl) (by simp) (AllReadyH.cons rfl (fun K' hK => ?_) AllReadyH.nil)
      obtain ⟨q0, q1, q2, q3, q4, q5⟩ := cells6 HN3.out
      obtain ⟨f0, f1, f2, f3, f4, f5⟩ := free6 HN3.out
      go_simp
      clear q0 q1 q2 q3 q4 q5 f0 f1 f2 f3 f4 f5
      obtain ⟨wz, hwz⟩ : ∃ wz, ((((((w3.setCell ⟨W.heap.size, 0, none⟩ (.bool xf)).setCell ⟨W.heap.size, 1, none⟩ (.bool xp)).setCell ⟨W.heap.size, 2, none⟩ (.bool xn)).setCell ⟨W.heap.size, 3, none⟩ (.int .i64 xs)).setCell ⟨W.heap.size, 4, none⟩ (.bool xm)).setCell ⟨W.heap.size, 5, none⟩ (.int .u8 (xc : Int))) = wz := ⟨_, rfl⟩
      have hov := over6 w3 W.heap.size 39 _ _ _ _ _ _ (.bool xf) (.bool xp) (.bool xn) (.int .i64 xs) (.bool xm) (.int .u8 (xc : Int)) HN3.out
      rw [hwz] at hov ⊢
      have HN := Lib.hid hov.1
      have HBZ := Lib.hid (below_grown h3 hov.2 (Nat.le_refl _))
      clear h3 hwz hov HN3
      refine hK.out _ _ HBZ.out fun _ => ?_
      clear hK
      refine wpAnyH_ready (rs := [10]) (by kernel_rfl) (by simp) (AllReadyH.cons rfl (fun K' hK => ?_) AllReadyH.nil)
      go_simp
      refine hK.out _ _ HBZ.out fun _ => ?_
      refine wpAnyH_done (by kernel_rfl) ?_ _
      clear hK
      obtain ⟨q0, q1, q2, q3, q4, q5⟩ := cells6 HN.out
      obtain ⟨d0, d1, d2, d3, d4, d5⟩ := HC.out wz HBZ.out
      have e0 := HG2.out wz HBZ.out
      have hr0 : wz.heap[w.heap.size + 1]? = some (.cells #[.int .i64 0] 3) := (HBZ.out.block _ (by have := HN2.out; have := HBW.out.size; omega)).trans HRW.out
      have r0 : wz.cell? ⟨w.heap.size + 1, 0, none⟩ = some (.int .i64 0) := by simp [World.cell?, hr0]
      have r1 : wz.frozen? ⟨w.heap.size + 1, 0, none⟩ = false := by simp [World.frozen?, hr0]
      have HKO := Lib.hid (KeepsOthers.of_grownBy (grown_of HBZ.out) nofun)
      have HKP := Lib.hid (kp4_below (B := B) HBZ.out (by have := HBX2.out.lt; have := HBW.out.size; omega))
      have HGZ := Lib.hid (grown_t HG.out (grown_of HBZ.out))
      obtain ⟨ix, hix⟩ : ∃ ix, on s.cs.length (x : Int) 1 = ix := ⟨_, rfl⟩
      rw [hix] at e0 ⊢
      have hj0 : (0 : Int) ≤ (ix : Int) := by omega
      have hj1 : (ix : Int) < (s.cs.length : Int) := by have := HIX.out; omega
      replace hix := Lib.hid hix
      clear hr0
      cases xf <;> cases xp <;> cases yf
      all_goals gi_wp2
      all_goals first
        | exact ⟨HKO.out.from _, HKP.out, fun y hy => (List.mem_append.1 hy).elim (HP.out y) (fun e => by rw [List.mem_singleton.1 e]; exact HOP.out), HGZ.out⟩
        | exact ⟨(HKO.out.trans (KeepsOthers.setCell _ _ _)).from _, ⟨rfl, pre, ⟨x, hx⟩, rfl, HP.out, HOP.out, by rw [hix.out]; exact World.cell?_setCell_same' _ _ _ (by rw [r0]; rfl)⟩, grown_t (grown_none HGZ.out) (grownBy_setCell' _ _ _)⟩
  case done =>
    rintro D ys W hD rfl ⟨hp, hg⟩ hK
    have HNO := Lib.hid (ffc_no (cs := s.cs) (a := a) (m := m) (st := st) (fun j hj => hp _ (mem_upto hj)))
    have HBW := Lib.hid (show Below w2.heap.size w2 W from ⟨hg.os, hg.tape, hg.output, hg.size, fun k hk => hg.block k hk nofun⟩)
    have HK := Lib.hid hK
    have HD := Lib.hid hD
    have hr0 : W.heap[w.heap.size + 1]? = some (.cells #[.int .i64 0] 3) := (HBW.out.block _ (by have := HN2.out; omega)).trans HR2.out
    have r0 : W.cell? ⟨w.heap.size + 1, 0, none⟩ = some (.int .i64 0) := by simp [World.cell?, hr0]
    have r1 : W.frozen? ⟨w.heap.size + 1, 0, none⟩ = false := by simp [World.frozen?, hr0]
    clear hp hg hK hD hr0
    go_wp2_with fail
    have hK' := (KeepsOthers.setCell W ⟨w.heap.size + 1, 0, none⟩ (.int .i64 (-1))).same D _ HK.out rfl
    have hc5 := cell_kept (World.cell?_setCell_same' W ⟨w.heap.size + 1, 0, none⟩ (.int .i64 (-1)) (by rw [r0]; rfl)) (grownBy_putObj' _ D (.deferred none)) (fun r e => by cases e; exact ⟨_, hK', rfl⟩)
    refine ⟨by simp, .inl ⟨_, _, rfl, run_takeDeferred hK', ?_⟩⟩
    refine ⟨.int .i64 (-1), by simp [results, Try.f33, go_sem, hc5], by rw [HNO.out], ?_⟩
    refine (HB2.out.trans (HBW.out.mono (by have := HN2.out; omega))).trans ?_
    exact ((Below.refl w.heap.size W).setCell (p := ⟨w.heap.size + 1, 0, none⟩) (by simp) _).trans (belowK_b (w := w) (Nat.le_refl _) _ D _ _ (by have := HN2.out; have := HD.out; omega) hK' rfl rfl)
  case stop =>
    rintro D c pre W hD ⟨q, hq, hpre⟩ ⟨⟨rfl, p, x, he, h1, h2, h3⟩, hg⟩ hK
    obtain ⟨j, rfl, rfl, rfl⟩ := upto_last (he.symm.trans hpre)
    have HBA := Lib.hid (ffc_at (cs := s.cs) (a := a) (m := m) (st := st) (i := j) (by omega) h2 (fun i hi => h1 _ (mem_upto hi)))
    gi_wp2
    have hc5 := cell_kept h3 (grownBy_putObj' _ D (.deferred none)) (fun r e => by cases e; exact ⟨_, hK, rfl⟩)
    refine ⟨by simp, .inl ⟨_, _, rfl, run_takeDeferred hK, ?_⟩⟩
    refine ⟨_, by simp [results, Try.f33, go_sem, hc5]; rfl, by rw [HBA.out]; rfl, ?_⟩
    refine (HB2.out.trans (grown_below hg (by omega) (by have := HN2.out; omega))).trans ?_
    exact belowK_b (w := w) (Nat.le_refl _) _ D _ _ (by have := HN2.out; omega) hK rfl rfl
end Fld
end Go.Proofs.Ytoacookbfpcncaa
