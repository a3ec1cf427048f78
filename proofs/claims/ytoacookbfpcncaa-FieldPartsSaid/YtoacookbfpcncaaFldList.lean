/- Begins, Cells of package field. -/
import Derived.RangeFuncBox
import Derived.Maps.AppendAt
import Derived.Test.YtoacookbfpcncaaFldBegin
import Derived.Test.YtoacookbfpcncaaGrdRow
namespace Go.Proofs.Ytoacookbfpcncaa
open Go.RowKit Sha Six Apd Cut Err Att Grd
set_option linter.unusedVariables false
attribute [local go_sem] Oper.semAt_some
namespace Fld
/-- A row that lies from n₀ on is appended to in a box below n₀. -/
theorem appended2 {W w1 : World} {n₀ L : Nat} {t e : TypeId} {size : Nat} {v v' : Value} {k m : Nat} {xs ys : List Value} {tmp : Obj}
    (hv : Boxed W L t v) (hte : t ≠ e) (hrow : W.ownsRow n₀ e size v k xs) (hn₀ : n₀ ≤ W.heap.size)
    (hown' : w1.ownsRow n₀ e size v' m ys) (hgrow : (W.alloc tmp).grownBy w1 v.ownBlock) :
    Boxed w1 L t v ∧ Boxed (w1.setCell ⟨L, 0, none⟩ v') L t v' ∧ (w1.setCell ⟨L, 0, none⟩ v').ownsRow n₀ e size v' m ys ∧ KeepsOthers W (w1.setCell ⟨L, 0, none⟩ v') ∧ (∀ w0 : World, w0.heap.size = n₀ → w0.grownBy W (some L) → w0.grownBy (w1.setCell ⟨L, 0, none⟩ v') (some L)) := by
  have hv1 : Boxed w1 L t v := (hv.alloc tmp).kept hgrow (hv.not_row hte hrow)
  refine ⟨hv1, hv1.set v', hown'.kept (grownBy_setCell' w1 L v') (.inr (hv1.not_row hte hown').symm), ?_, ?_⟩
  · refine ((KeepsOthers.alloc W tmp).trans (KeepsOthers.of_grownBy hgrow fun j o ej hj => ?_)).trans (KeepsOthers.setCell _ _ _)
    rcases (hrow.alloc tmp).2 with ⟨rfl, _⟩ | ⟨g, cap, cur, rfl, _, hgb, _⟩
    · simp [Value.ownBlock] at ej
    · obtain rfl : g = j := by simpa [Value.ownBlock] using ej
      rw [hgb] at hj; cases hj; rfl
  · intro w0 hw0 hg0
    have hg1 : W.grownBy (W.alloc tmp) none := World.grownBy_alloc W tmp none
    have h1 : w0.grownBy w1 (some L) := by
      refine ⟨hgrow.os.trans (hg1.os.trans hg0.os), hgrow.tape.trans (hg1.tape.trans hg0.tape), hgrow.output.trans (hg1.output.trans hg0.output), Nat.le_trans hg0.size (Nat.le_trans hg1.size hgrow.size), fun i hi hn => ?_⟩
      refine (hgrow.block i (Nat.lt_of_lt_of_le hi (Nat.le_trans hg0.size hg1.size)) (fun ej => ?_)).trans ((hg1.block i (Nat.lt_of_lt_of_le hi hg0.size) nofun).trans (hg0.block i hi hn))
      rcases hrow.2 with ⟨rfl, _⟩ | ⟨g, cap, cur, rfl, hb, _, _⟩
      · simp [Value.ownBlock] at ej
      · obtain rfl : i = g := by simpa [Value.ownBlock] using ej
        omega
    exact grown_t h1 (grownBy_setCell' w1 L v')
theorem info_int : (Try.prog.info? 3).map (fun i => (i.zero, i.size, i.bytes)) = some (some (.int .i64 0), 1, 8) := by kernel_rfl
/-- The numbers of places. -/
def vals {z : Nat} (l : List (Pl z)) : List Nat := l.map (·.1)
theorem vals_snoc {z : Nat} (l : List (Pl z)) (x : Pl z) : vals (l ++ [x]) = vals l ++ [x.1] := by simp [vals]
theorem vals_len {z : Nat} (l : List (Pl z)) : (vals l).length = l.length := by simp [vals]
theorem filt_snoc (p : Nat → Bool) (l : List Nat) (x : Nat) (b : Bool) (h : p x = b) : (l ++ [x]).filter p = if b then l.filter p ++ [x] else l.filter p := by
  cases b <;> simp [List.filter_append, h]
/-- A box holds a row of numbers. -/
def HasInts (W : World) (L base : Nat) (xs : List Nat) : Prop := ∃ v, Boxed W L 30 v ∧ OwnInts W base v xs
theorem hasInts_own {β : Type} (L base : Nat) (f : β → List Nat) : Own (fun s W => HasInts W L base (f s)) := fun s X Y row hs hg hr => by
  obtain ⟨v, h1, h2⟩ := hs
  obtain ⟨v', h3, h4, _⟩ := holdsRow_own base L 30 3 1 (fun q : β => (f q).length) (fun q => i64s (f q)) (fun _ _ => True) s X Y row ⟨v, h1, h2, trivial⟩ hg hr
  exact ⟨v', h3, h4⟩
theorem vals_all {z : Nat} (hz : 0 < z) : vals (upto (wseq z hz 0 0 1) z) = List.range z := by
  unfold vals upto
  rw [List.map_map]
  refine (List.map_congr_left fun i hi => ?_).trans (List.map_id _)
  show (wseq z hz 0 0 1 i).1 = i
  rw [wseq_val (t := (i : Int)) (by omega)]
  have hlt := List.mem_range.1 hi
  have h0 := on_cast (z := z) hz 0 (i : Int)
  have : (0 : Int) + (i : Int) = i := by omega
  rw [this, Int.emod_eq_of_lt (by omega) (by omega)] at h0
  omega
set_option maxRecDepth 100000 in
set_option maxHeartbeats 8000000 in
theorem fbegins_any (s : S) (ad : Option Addr) (k : Nat) (w : World) (h : CelsIn w (.slice ad s.cs.length k) s.cs) (h8 : Sound s.cs) (hz : 0 < s.cs.length) (hl : s.cs.length < 10000) :
    Calls Try.prog 26 #[.agg #[.int .i64 s.rows, .int .i64 s.cols, .slice ad s.cs.length k, .int .i64 s.cur, .bool s.lk, .bool s.ins]] w fun e w' => ∃ v, e = .returned v ∧ OwnInts w' w.heap.size v (begins s.cs) ∧ Below w.heap.size w w' := by
  have HB := Lib.hid (al_any w (.cells (sbox s ad k) 24))
  have HX := Lib.hid (heap_alloc_new w (.cells (sbox s ad k) 24))
  have HI := Lib.hid h
  have HZ := Lib.hid hz
  have HL := Lib.hid hl
  clear h hz hl
  refine (callsIn_wide (n := 4)).1 ?_
  refine callsIn_of_wp_marks Try.func26 rfl trivial ?_ rfl
  simp only [Try.ntmps26, List.size_toArray, List.length_cons, List.length_nil, Nat.reduceAdd, Nat.reduceSub, Array.replicate_succ, Array.replicate_zero, List.push_toArray, List.append_toArray, List.nil_append, List.cons_append]
  refine wpIn_wide.2 ?_
  go_wp2_with fail
  obtain ⟨w1, hw1⟩ : ∃ w1 : World, (w.alloc (.cells (sbox s ad k) 24)).alloc (.cells #[.slice none 0 0] 30) = w1 := ⟨_, rfl⟩
  have HS1 := Lib.hid (show w1.heap[w.heap.size]? = some (.cells (sbox s ad k) 24) by rw [← hw1, Below.heap_alloc _ _ _ (by simp)]; exact HX.out)
  have HR1 := Lib.hid (show w1.heap[w.heap.size + 1]? = some (.cells #[.slice none 0 0] 30) by rw [← hw1]; have := World.alloc_heap_new (w.alloc (.cells (sbox s ad k) 24)) (.cells #[.slice none 0 0] 30); rwa [World.size_alloc] at this)
  have HB1 := Lib.hid (show Below w.heap.size w w1 by rw [← hw1]; exact kept_trans HB.out (al_any _ _))
  have HN1 := Lib.hid (show w1.heap.size = w.heap.size + 2 by rw [← hw1]; simp)
  rw [hw1]
  clear hw1 HB HX
  refine (walk_any _ _ _ _ _ _ _ _ _ _ _ _).mono ?_
  rintro e w2 ⟨rfl, hbox, hb2, hn2⟩
  have HS2 := Lib.hid (show w2.heap[w.heap.size]? = some (.cells (sbox s ad k) 24) from (hb2.block _ (by have := HN1.out; omega)).trans HS1.out)
  have HR2 := Lib.hid (show w2.heap[w.heap.size + 1]? = some (.cells #[.slice none 0 0] 30) from (hb2.block _ (by have := HN1.out; omega)).trans HR1.out)
  have HB2 := Lib.hid (kept_trans HB1.out hb2)
  have HN2 := Lib.hid (show w2.heap.size = w.heap.size + 6 by have := HN1.out; omega)
  have HBX := Lib.hid hbox
  clear hbox hb2 hn2 HB1
  go_wp2_with fail
  refine (wpIn_wide (n := 4)).1 ?_
  refine wpIn_rangeFunc_ownG rfl (by omega) (gf := 37) (lb := #[.pointer (some ⟨w1.heap.size, 0, none⟩), .pointer (some ⟨w1.heap.size + 1, 0, none⟩), .pointer (some ⟨w1.heap.size + 2, 0, none⟩), .pointer (some ⟨w1.heap.size + 3, 0, none⟩)]) rfl trivial (enters_of Try.func37 (by kernel_rfl) rfl)
    (walk_stops 3 (by omega) s.rows s.cols ad s.cs.length k s.cur s.lk s.ins HZ.out HL.out 0 0 1 (by omega) (by omega) (by omega) w2 w1.heap.size HBX.out)
    kp4_t (kp4_b (by have := HN1.out; have := HN2.out; omega)) (Below.refl _ _) (fun _ => rfl)
    (fun pre W => HasInts W (w.heap.size + 1) w2.heap.size ((vals pre).filter (fat s.cs)) ∧ w2.grownBy W (some (w.heap.size + 1)))
    (fun _ _ _ => False)
    (OwnFrom.and (Own.from (hasInts_own _ _ fun pre => (vals pre).filter (fat s.cs)) _) ownFrom_grown)
    (fun _ _ _ _ _ hs _ _ => hs)
    ⟨⟨_, HR2.out, World.ownsRow_nil _ _ _ _⟩, grown_none (grown_of (Below.refl _ _))⟩
    (fun x => { tmps := #[.agg (sbox s ad k), .pointer (some ⟨w.heap.size, 0, none⟩), .slice none 0 0, .pointer (some ⟨w.heap.size + 1, 0, none⟩), .int .i64 (x.1 : Int), .agg (sbox s ad k), .func (.func 37) #[] #[.pointer (some ⟨w1.heap.size, 0, none⟩), .pointer (some ⟨w1.heap.size + 1, 0, none⟩), .pointer (some ⟨w1.heap.size + 2, 0, none⟩), .pointer (some ⟨w1.heap.size + 3, 0, none⟩)], .int .i64 (x.1 : Int), undef, undef, undef, undef, undef, undef, undef, undef, undef, undef, undef], defers := [] }) ?assign ?body ?done ?stop
  case assign =>
    intro l x W K hK
    gi_wp2
    exact hK
  case body =>
    rintro l pre ⟨x, hx⟩ W ⟨⟨v, hv, hrow⟩, hg⟩ hlt
    obtain ⟨i0, hi, hz0, hz1, hz2⟩ := info_parts info_int
    have HG := Lib.hid hg
    obtain ⟨c0, c1, c2, c3, c4, c5⟩ := box6 ((hg.block _ (by have := HN2.out; omega) (by simp)).trans HS2.out)
    obtain ⟨xf, xp, xn, xs, xm, xc, ex⟩ := c_eta (s.cs.getD x noC)
    obtain ⟨b1, o1, rfl, g0, g1, g2, g3, g4, g5⟩ := (HI.out.below (HB2.out.trans (grown_below hg (by omega) (by have := HN2.out; omega)))).cells hx ex
    have HQ := Lib.hid (fat_of ex)
    have hi0 : (0 : Int) ≤ (x : Int) := by omega
    have hi1 : (x : Int) < (s.cs.length : Int) := by omega
    have HSZ := Lib.hid (show w2.heap.size ≤ W.heap.size from hg.size)
    have HKL := Lib.hid (show ((vals pre).filter (fat s.cs)).length < 10000 from by
      have := List.length_filter_le (fat s.cs) (vals pre); rw [vals_len] at this; have := HL.out; omega)
    clear ex hg hlt
    have hc := hv.cell
    cases xf with
    | true =>
      gi_wp2_with (gi_at_builtin; refine wpListIn_append_own _ rfl _ _ 30 rfl w2.heap.size 3 i0 (.int .i64 0) 1 8 Try.underlying30 hi hz0 hz1 hz2 rfl (by decide) _ _ _ rfl (hrow.alloc _) ⟨W.heap.size, 0, none⟩ 1 1 [.int .i64 (x : Int)] rfl rfl (cell_one_new _ _ _) (by simp [Value.oneCell']) (Nat.le_trans (show _ ≤ 10001 by have := HKL.out; omega) (by decide)) (by have := HKL.out; omega) (by have := HSZ.out; simp; omega) ?_; intro v' w1' hown' hgrow _; obtain ⟨g', cap', rfl⟩ := ownsRow_succ hown'; obtain ⟨hv1, hv2, hr2, hk2, hgw2⟩ := appended2 hv (by decide) hrow HSZ.out hown' hgrow; have hc1 := hv1.cell; have hf1 := hv1.frozen)
      have HGW := hgw2 w2 rfl HG.out
      have e := (vals_snoc pre ⟨x, hx⟩).symm ▸ filt_snoc (fat s.cs) (vals pre) x true HQ.out
      refine ⟨hk2.from _, fun q h1 h2 => (HGW.block q (by have := HN1.out; have := HN2.out; omega) (fun he => by injection he with he; have := HN1.out; omega)).trans (HG.out.block q (by have := HN1.out; have := HN2.out; omega) (fun he => by injection he with he; have := HN1.out; omega)).symm, ⟨_, hv2, ?_⟩, HGW⟩
      rw [e, if_pos rfl]
      unfold OwnInts
      rw [List.length_append]
      simpa [i64s] using hr2
    | false =>
      gi_wp2
      have e := (vals_snoc pre ⟨x, hx⟩).symm ▸ filt_snoc (fat s.cs) (vals pre) x false HQ.out
      exact ⟨KeepsFrom.refl _ _, fun _ _ _ => rfl, ⟨v, hv, by rw [e, if_neg (by decide)]; exact hrow⟩, HG.out⟩
  case done =>
    rintro D ys W hD rfl ⟨⟨v, hv, hrow⟩, hg⟩ hK
    have hc := hv.cell
    have HV := Lib.hid (show begins s.cs = (vals (upto (wseq s.cs.length HZ.out 0 0 1) s.cs.length)).filter (fat s.cs) by rw [vals_all]; rfl)
    have HROW := Lib.hid hrow
    have HBW := Lib.hid (HB2.out.trans (grown_below hg (by omega) (by have := HN2.out; omega)))
    obtain ⟨va, vc, rfl⟩ := hrow.form
    clear hrow hg hv
    go_wp2_with fail
    refine ⟨by simp, .inl ⟨_, _, rfl, run_takeDeferred hK, ?_⟩⟩
    exact ⟨_, results_tmp rfl _ _ _, _, rfl, by rw [HV.out]; exact OwnInts.mono (ownsRow_putObj HROW.out _ hK rfl) (by have := HN2.out; omega), HBW.out.trans (belowK_b (w := w) (Nat.le_refl _) W D _ _ (by have := HN2.out; omega) hK rfl rfl)⟩
  case stop =>
    rintro D c pre W _ _ h _
    exact h.elim
end Fld
end Go.Proofs.Ytoacookbfpcncaa
