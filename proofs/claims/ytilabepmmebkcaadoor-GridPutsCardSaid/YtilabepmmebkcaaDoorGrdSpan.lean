/- Span of package grid; rows of numbers, of truths. -/
import Derived.Test.YtilabepmmebkcaaDoorGrdLeaf
import Derived.Test.YtilabepmmebkcaaDoorGrdBox
import Derived.Deep.LoopGhost
import Derived.Deep.RegionHeld3
import Derived.Deep.Cut
namespace Go.Proofs.YtilabepmmebkcaaDoor
open Go.RowKit Sha Six Apd Cut Err Att
set_option linter.unusedVariables false
namespace Grd
/-- The cells of a row of numbers. -/
def i64s (l : List Nat) : List Value := l.map fun (x : Nat) => .int .i64 (x : Int)
theorem i64s_len (l : List Nat) : (i64s l).length = l.length := by simp [i64s]
theorem i64s_at {l : List Nat} {i : Nat} (h : i < l.length) : (i64s l)[i]? = some (.int .i64 ((l.getD i 0 : Nat) : Int)) := by
  simp [i64s, h]
theorem i64s_one (l : List Nat) : ∀ v ∈ i64s l, v.oneCell' = true := by intro v hv; simp [i64s] at hv; obtain ⟨x, _, rfl⟩ := hv; rfl
/-- v is a row of the call's own, of the numbers xs. -/
def OwnInts (w : World) (base : Nat) (v : Value) (xs : List Nat) : Prop := w.ownsRow base 3 1 v xs.length (i64s xs)
theorem OwnInts.below {w w' : World} {base : Nat} {v : Value} {xs : List Nat} (h : OwnInts w base v xs) (hb : Below w.heap.size w w') : OwnInts w' base v xs := own_below h hb
theorem OwnInts.mono {w : World} {b base : Nat} {v : Value} {xs : List Nat} (h : OwnInts w base v xs) (hb : b ≤ base) : OwnInts w b v xs := own_mono h hb
theorem OwnInts.form {w : World} {base : Nat} {v : Value} {xs : List Nat} (h : OwnInts w base v xs) : ∃ ad c, v = .slice ad xs.length c := own_form h
theorem OwnInts.cell {w : World} {base n c : Nat} {ad : Option Addr} {xs : List Nat} (h : OwnInts w base (.slice ad n c) xs) {i : Nat} (hi : i < xs.length) : ∃ g, ad = some ⟨g, 0, none⟩ ∧ base ≤ g ∧ g < w.heap.size ∧ w.cell? ⟨g, 0 + i, none⟩ = some (.int .i64 ((xs.getD i 0 : Nat) : Int)) ∧ w.frozen? ⟨g, 0 + i, none⟩ = false := by
  obtain ⟨hl, hv⟩ := h
  rcases hv with ⟨_, h0⟩ | ⟨g, cap, cur, hv, hg, hcur, h1, h2, h3, h4⟩
  · omega
  · injection hv with e1 e2 e3
    subst e1
    refine ⟨g, rfl, hg, there_lt hcur, ?_, frozen_of_row w g (0 + i) cur _ hcur⟩
    have k5 := i64s_at hi
    rw [← h4, List.getElem?_take_of_lt (by omega)] at k5
    rw [cell_of_row w g (0 + i) cur _ (0, 0) hcur, Nat.zero_add, ← Array.getElem?_toList]
    exact k5
theorem OwnInts.set {w : World} {base g n c : Nat} {xs : List Nat} (h : OwnInts w base (.slice (some ⟨g, 0, none⟩) n c) xs) (i x : Nat) :
    OwnInts (w.setCell ⟨g, i, none⟩ (.int .i64 (x : Int))) base (.slice (some ⟨g, 0, none⟩) n c) (xs.set i x) ∧ w.grownBy (w.setCell ⟨g, i, none⟩ (.int .i64 (x : Int))) (some g) := by
  have hn : n = xs.length := by
    obtain ⟨_, _, e⟩ := h.form
    injection e
  subst hn
  unfold OwnInts at h ⊢
  rw [show i64s (xs.set i x) = (i64s xs).set i (.int .i64 (x : Int)) by simp [i64s, List.map_set], List.length_set]
  exact World.ownsRow.stored h i (.int .i64 (x : Int))
theorem fill_set {sp : List Nat} {N q : Nat} (hl : sp.length = N) (hq : q < N) : (sp.take q ++ List.replicate (N - q) 0).set q (sp.getD q 0) = sp.take (q + 1) ++ List.replicate (N - (q + 1)) 0 := by
  have e : sp.getD q 0 = sp[q] := by simp [List.getD_eq_getElem?_getD, show q < sp.length by omega]
  rw [e, List.set_append_right _ _ (by simp; omega), show q - (sp.take q).length = 0 by simp; omega, show N - q = (N - (q + 1)) + 1 by omega, List.replicate_succ, List.set_cons_zero, List.take_succ_eq_append_getElem (show q < sp.length by omega), List.append_assoc]
  rfl
theorem fill_len {sp : List Nat} {N q : Nat} (hl : sp.length = N) (hq : q ≤ N) : (sp.take q ++ List.replicate (N - q) 0).length = N := by simp; omega
/-- The cells of a row of truths. -/
def bools (l : List Bool) : List Value := l.map fun x => .bool x
theorem bools_at {l : List Bool} {i : Nat} (h : i < l.length) : (bools l)[i]? = some (.bool (l.getD i false)) := by
  simp [bools, h]
def OwnBools (w : World) (base : Nat) (v : Value) (xs : List Bool) : Prop := w.ownsRow base 4 1 v xs.length (bools xs)
theorem OwnBools.below {w w' : World} {base : Nat} {v : Value} {xs : List Bool} (h : OwnBools w base v xs) (hb : Below w.heap.size w w') : OwnBools w' base v xs := own_below h hb
theorem OwnBools.cell {w : World} {base g n c : Nat} {xs : List Bool} (h : OwnBools w base (.slice (some ⟨g, 0, none⟩) n c) xs) {i : Nat} (hi : i < xs.length) : w.cell? ⟨g, i, none⟩ = some (.bool (xs.getD i false)) ∧ w.frozen? ⟨g, i, none⟩ = false := by
  obtain ⟨hl, hv⟩ := h
  rcases hv with ⟨_, h0⟩ | ⟨g', cap, cur, hv, hg, hcur, h1, h2, h3, h4⟩
  · omega
  · injection hv with e1 e2 e3
    injection e1 with e1
    injection e1 with e1
    subst e1
    refine ⟨?_, frozen_of_row w g i cur _ hcur⟩
    have k5 := bools_at hi
    rw [← h4, List.getElem?_take_of_lt (by omega)] at k5
    rw [cell_of_row w g i cur _ (0, 0) hcur, ← Array.getElem?_toList]
    exact k5
theorem OwnBools.set {w : World} {base g n c : Nat} {xs : List Bool} (h : OwnBools w base (.slice (some ⟨g, 0, none⟩) n c) xs) (i : Nat) (x : Bool) :
    OwnBools (w.setCell ⟨g, i, none⟩ (.bool x)) base (.slice (some ⟨g, 0, none⟩) n c) (xs.set i x) ∧ w.grownBy (w.setCell ⟨g, i, none⟩ (.bool x)) (some g) := by
  have hn : n = xs.length := by
    obtain ⟨_, _, e⟩ := own_form h
    injection e
  subst hn
  unfold OwnBools at h ⊢
  rw [show bools (xs.set i x) = (bools xs).set i (.bool x) by simp [bools, List.map_set], List.length_set]
  exact World.ownsRow.stored h i (.bool x)
theorem infoB : (Tryd.prog.info? 4).map (fun i => (i.zero, i.size, i.bytes)) = some (some (.bool false), 1, 1) := by kernel_rfl
theorem made_bools (N : Nat) : (madeCells (Value.cells (.bool false)) (N * 1)).toList = bools (List.replicate N false) := by
  rw [Nat.mul_one]; show (madeCells #[.bool false] N).toList = _; rw [toList_madeCells_one]; simp [bools]
theorem infoI : (Tryd.prog.info? 3).map (fun i => (i.zero, i.size, i.bytes)) = some (some (.int .i64 0), 1, 8) := by kernel_rfl
set_option maxRecDepth 100000 in
set_option maxHeartbeats 8000000 in
theorem span_any (r c : Int) (ad : Option Addr) (n k : Nat) (cur : Int) (lk ins : Bool) (a b : Nat) (w : World) (ha : a < n) (hb : b < n) (hn : n < 100000000) :
    Calls Tryd.prog 17 #[.agg #[.int .i64 r, .int .i64 c, .slice ad n k, .int .i64 cur, .bool lk, .bool ins], .int .i64 (a : Int), .int .i64 (b : Int)] w fun e w' => ∃ v, e = .returned v ∧ OwnInts w' w.heap.size v (span n a b) ∧ Below w.heap.size w w' := by
  have HS := Lib.hid fun W => size_any r c ad n k cur lk ins W
  have HO := Lib.hid fun W => on_any r c ad n k cur lk ins (b : Int) (-(a : Int)) W (by omega) (by omega) (IntWalk.i64_in _ (by omega)) (IntWalk.i64_in _ (by omega))
  have HB := Lib.hid (al_any w (.cells #[.int .i64 r, .int .i64 c, .slice ad n k, .int .i64 cur, .bool lk, .bool ins] 24))
  have HX := Lib.hid (heap_alloc_new w (.cells #[.int .i64 r, .int .i64 c, .slice ad n k, .int .i64 cur, .bool lk, .bool ins] 24))
  have HSL := Lib.hid (spanLen_pos (z := n) (by omega) (a : Int) (b : Int))
  have HLE := Lib.hid (show spanLen n a b = if on n b (-(a : Int)) = 0 then n else on n b (-(a : Int)) from rfl)
  generalize on n b (-(a : Int)) = q at HO HLE
  go_enter Tryd.func17, Tryd.ntmps17
  go_upto_region 1 with (fail)
  generalize w.alloc _ = w1 at *
  obtain ⟨c0, c1, c2, c3, c4, c5⟩ := cells6 HX.out
  go_wp2_with fail
  with_reducible refine (HO.out _).mono ?_
  rintro e w2 ⟨rfl, hb2⟩
  have K2 := kept_hid HB hb2
  have X2 := Lib.hid (blk HX.out hb2)
  clear hb2 HX HB HO c0 c1 c2 c3 c4 c5
  by_cases h0 : q = 0
  · subst h0
    obtain ⟨N, hN⟩ : ∃ N : Nat, N = n := ⟨_, rfl⟩
    have HNE := Lib.hid (show (n : Int) = (N : Int) by rw [hN])
    have HN := Lib.hid (show spanLen n a b = N ∧ N ≤ n from ⟨by rw [HLE.out, hN]; rfl, by omega⟩)
    clear hN
    obtain ⟨c0, c1, c2, c3, c4, c5⟩ := cells6 X2.out
    go_wp2_with fail
    with_reducible refine (HS.out _).mono ?_
    rintro e w3 ⟨rfl, hb3⟩
    have K3 := kept_hid K2 hb3
    have X3 := Lib.hid (blk X2.out hb3)
    clear hb3 X2 K2 c0 c1 c2 c3 c4 c5

    go_wp2_with (at_make; refine wpList_mark ?_)
    refine Lib.hid ?_
    obtain ⟨i0, hi, hz0, hz1, hz2⟩ := info_parts infoI
    refine wpList_make_full _ rfl _ _ 45 rfl w.heap.size 3 i0 _ 1 Tryd.underlying45 hi hz0 hz1 .i64 .i64 _ _ N rfl rfl HNE.out HNE.out ?_ ?_ ?_ ?_
    · rw [hz2]; have := HN.out; omega
    · have := HN.out; unfold maxLen; omega
    · exact K3.out.size
    intro w4 hown hgr
    have K4 := kept_hid K3 (belowg hgr)
    have X4 := Lib.hid (blk X3.out (belowg hgr))
    have O4 := Lib.hid (show OwnInts w4 w.heap.size (.slice (some ⟨w3.heap.size, 0, none⟩) N N) ((span n a b).take 0 ++ List.replicate (N - 0) 0) by
      unfold OwnInts
      simp only [List.take_zero, List.nil_append, Nat.sub_zero, List.length_replicate]
      rw [show (madeCells (Value.cells (.int .i64 0)) (N * 1)).toList = i64s (List.replicate N 0) by rw [Nat.mul_one]; show (madeCells #[.int .i64 0] N).toList = _; rw [toList_madeCells_one]; simp [i64s]] at hown
      exact hown)
    have HG := Lib.hid (there_lt X3.out)
    generalize w3.heap.size = g at *
    clear hown hgr K3 X3 hi hz0 hz1 hz2
    go_wp2_with fail
    have HSP := Lib.hid (fun i (h : i < N) => (show (span n a b).getD i 0 = on n a (i : Int) from span_getD (by rw [HN.out.1]; exact h)))
    have HSN := Lib.hid (show (span n a b).length = N by rw [span_length, HN.out.1])
    generalize hsp : span n a b = sp at O4 HSP HSN
    replace hsp := Lib.hid hsp
    go_loopg [9, 23] (N + 1) (fun m _ i wr => ∃ q : Nat, q ≤ N ∧ m = N + 1 - q ∧ i = .int .i64 q ∧ Hid (Below w.heap.size w wr) ∧ Hid (Below w4.heap.size w4 wr ∨ True) ∧ Hid (wr.heap[w.heap.size]? = some (.cells #[.int .i64 r, .int .i64 c, .slice ad n k, .int .i64 cur, .bool lk, .bool ins] 24 (0, 0))) ∧ Hid (OwnInts wr w.heap.size (.slice (some ⟨g, 0, none⟩) N N) (sp.take q ++ List.replicate (N - q) 0)))
    case atStart => exact ⟨0, Nat.zero_le _, rfl, rfl, K4, Lib.hid (.inr trivial), X4, O4⟩
    case round =>
      obtain ⟨q, hq, rfl, rfl, HK, _, HX, HW⟩ := hrel
      have ew : IntKind.i64.wrap ((q : Int) + 1) = (q : Int) + 1 := by
        have := HN.out
        rw [IntWalk.i64_in] <;> omega
      by_cases hlt : q < N
      · have HO := Lib.hid fun W => on_any r c ad n k cur lk ins (a : Int) (q : Int) W (by omega) (by omega) (IntWalk.i64_in _ (by omega)) (IntWalk.i64_in _ (by have := HN.out; omega))
        rw [← HSP.out q hlt] at HO
        have hi0 : (0 : Int) ≤ (q : Int) := by omega
        have hi1 : (q : Int) < (N : Int) := by omega
        obtain ⟨c0, c1, c2, c3, c4, c5⟩ := cells6 HX.out
        go_wp2_with fail
        with_reducible refine (HO.out _).mono ?_
        rintro e w5 ⟨rfl, hb⟩
        have K5 := kept_hid (Lib.hid (Below.refl wr.heap.size wr)) hb
        have X5 := Lib.hid (blk HX.out hb)
        have K6 := kept_hid HK hb
        have W5 := Lib.hid (HW.out.below hb)
        clear hb c0 c1 c2 c3 c4 c5 HX HW HK HO
        obtain ⟨g', hg', _, hgl, hcell, hfr⟩ := W5.out.cell (i := q) (by rw [fill_len HSN.out (by omega)]; exact hlt)
        injection hg' with hg'
        injection hg' with hg' _ _
        subst hg'
        rw [Nat.zero_add] at hcell hfr
        have SS := W5.out.set q (sp.getD q 0)
        rw [fill_set HSN.out hlt] at SS
        have W6 := Lib.hid SS.1
        have G6 := Lib.hid SS.2
        clear SS W5
        have X6 := Lib.hid (blk_g X5.out G6.out (by intro e; injection e with e; have := HG.out; omega))
        have K7 := Lib.hid (below_grown K6.out G6.out (Nat.le_of_lt HG.out))
        clear X5 K6 G6
        go_wp2_with fail
        clear hcell hfr
        go_roundg (N + 1 - (q + 1))
        case measure => omega
        case rel => exact ⟨q + 1, by omega, rfl, rfl, K7, Lib.hid (.inr trivial), X6, W6⟩
      · obtain rfl : q = N := by omega
        clear hlt
        have hn0 : ¬ (q : Int) < (q : Int) := by omega
        have W6 := Lib.hid (show OwnInts wr w.heap.size (.slice (some ⟨g, 0, none⟩) q q) sp from by
          have := HW.out
          rwa [Nat.sub_self, List.take_of_length_le (by rw [HSN.out]; exact Nat.le_refl _), List.replicate_zero, List.append_nil] at this)
        go_wp2_with fail
        go_ret
        exact ⟨_, rfl, by rw [hsp.out]; exact W6.out, HK.out⟩
  · have hz : ((q : Int) == 0) = false := by simp; omega
    obtain ⟨N, hN⟩ : ∃ N : Nat, N = q := ⟨_, rfl⟩
    have HNE := Lib.hid (show (q : Int) = (N : Int) by rw [hN])
    have HN := Lib.hid (show spanLen n a b = N ∧ N ≤ n from by
      have h1 := HLE.out
      rw [if_neg h0] at h1
      have h2 := HSL.out.2
      omega)
    clear hN h0
    go_wp2_with (at_make; refine wpList_mark ?_)
    refine Lib.hid ?_
    obtain ⟨i0, hi, hz0, hz1, hz2⟩ := info_parts infoI
    refine wpList_make_full _ rfl _ _ 45 rfl w.heap.size 3 i0 _ 1 Tryd.underlying45 hi hz0 hz1 .i64 .i64 _ _ N rfl rfl HNE.out HNE.out ?_ ?_ ?_ ?_
    · rw [hz2]; have := HN.out; omega
    · have := HN.out; unfold maxLen; omega
    · exact K2.out.size
    intro w4 hown hgr
    have K4 := kept_hid K2 (belowg hgr)
    have X4 := Lib.hid (blk X2.out (belowg hgr))
    have O4 := Lib.hid (show OwnInts w4 w.heap.size (.slice (some ⟨w2.heap.size, 0, none⟩) N N) ((span n a b).take 0 ++ List.replicate (N - 0) 0) by
      unfold OwnInts
      simp only [List.take_zero, List.nil_append, Nat.sub_zero, List.length_replicate]
      rw [show (madeCells (Value.cells (.int .i64 0)) (N * 1)).toList = i64s (List.replicate N 0) by rw [Nat.mul_one]; show (madeCells #[.int .i64 0] N).toList = _; rw [toList_madeCells_one]; simp [i64s]] at hown
      exact hown)
    have HG := Lib.hid (there_lt X2.out)
    generalize w2.heap.size = g at *
    clear hown hgr K2 X2 hi hz0 hz1 hz2
    go_wp2_with fail
    have HSP := Lib.hid (fun i (h : i < N) => (show (span n a b).getD i 0 = on n a (i : Int) from span_getD (by rw [HN.out.1]; exact h)))
    have HSN := Lib.hid (show (span n a b).length = N by rw [span_length, HN.out.1])
    generalize hsp : span n a b = sp at O4 HSP HSN
    replace hsp := Lib.hid hsp
    go_loopg [9, 23] (N + 1) (fun m _ i wr => ∃ q : Nat, q ≤ N ∧ m = N + 1 - q ∧ i = .int .i64 q ∧ Hid (Below w.heap.size w wr) ∧ Hid (Below w4.heap.size w4 wr ∨ True) ∧ Hid (wr.heap[w.heap.size]? = some (.cells #[.int .i64 r, .int .i64 c, .slice ad n k, .int .i64 cur, .bool lk, .bool ins] 24 (0, 0))) ∧ Hid (OwnInts wr w.heap.size (.slice (some ⟨g, 0, none⟩) N N) (sp.take q ++ List.replicate (N - q) 0)))
    case atStart => exact ⟨0, Nat.zero_le _, rfl, rfl, K4, Lib.hid (.inr trivial), X4, O4⟩
    case round =>
      obtain ⟨q, hq, rfl, rfl, HK, _, HX, HW⟩ := hrel
      have ew : IntKind.i64.wrap ((q : Int) + 1) = (q : Int) + 1 := by
        have := HN.out
        rw [IntWalk.i64_in] <;> omega
      by_cases hlt : q < N
      · have HO := Lib.hid fun W => on_any r c ad n k cur lk ins (a : Int) (q : Int) W (by omega) (by omega) (IntWalk.i64_in _ (by omega)) (IntWalk.i64_in _ (by have := HN.out; omega))
        rw [← HSP.out q hlt] at HO
        have hi0 : (0 : Int) ≤ (q : Int) := by omega
        have hi1 : (q : Int) < (N : Int) := by omega
        obtain ⟨c0, c1, c2, c3, c4, c5⟩ := cells6 HX.out
        go_wp2_with fail
        with_reducible refine (HO.out _).mono ?_
        rintro e w5 ⟨rfl, hb⟩
        have K5 := kept_hid (Lib.hid (Below.refl wr.heap.size wr)) hb
        have X5 := Lib.hid (blk HX.out hb)
        have K6 := kept_hid HK hb
        have W5 := Lib.hid (HW.out.below hb)
        clear hb c0 c1 c2 c3 c4 c5 HX HW HK HO
        obtain ⟨g', hg', _, hgl, hcell, hfr⟩ := W5.out.cell (i := q) (by rw [fill_len HSN.out (by omega)]; exact hlt)
        injection hg' with hg'
        injection hg' with hg' _ _
        subst hg'
        rw [Nat.zero_add] at hcell hfr
        have SS := W5.out.set q (sp.getD q 0)
        rw [fill_set HSN.out hlt] at SS
        have W6 := Lib.hid SS.1
        have G6 := Lib.hid SS.2
        clear SS W5
        have X6 := Lib.hid (blk_g X5.out G6.out (by intro e; injection e with e; have := HG.out; omega))
        have K7 := Lib.hid (below_grown K6.out G6.out (Nat.le_of_lt HG.out))
        clear X5 K6 G6
        go_wp2_with fail
        clear hcell hfr
        go_roundg (N + 1 - (q + 1))
        case measure => omega
        case rel => exact ⟨q + 1, by omega, rfl, rfl, K7, Lib.hid (.inr trivial), X6, W6⟩
      · obtain rfl : q = N := by omega
        clear hlt
        have hn0 : ¬ (q : Int) < (q : Int) := by omega
        have W6 := Lib.hid (show OwnInts wr w.heap.size (.slice (some ⟨g, 0, none⟩) q q) sp from by
          have := HW.out
          rwa [Nat.sub_self, List.take_of_length_le (by rw [HSN.out]; exact Nat.le_refl _), List.replicate_zero, List.append_nil] at this)
        go_wp2_with fail
        go_ret
        exact ⟨_, rfl, by rw [hsp.out]; exact W6.out, HK.out⟩
end Grd
end Go.Proofs.YtilabepmmebkcaaDoor
