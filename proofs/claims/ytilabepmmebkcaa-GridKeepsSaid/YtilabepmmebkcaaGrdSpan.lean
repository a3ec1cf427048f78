/- Span of package grid; Next, Span and Ints of the document. -/
import Derived.Test.YtilabepmmebkcaaGrdLeaf
import Derived.Test.YtilabepmmebkcaaGrdBox
import Derived.Deep.LoopGhost
import Derived.Deep.RegionHeld3
import Derived.Deep.Cut
namespace Go.Proofs.Ytilabepmmebkcaa
open Go.RowKit Sha Six Apd Cut Err Att
set_option linter.unusedVariables false
namespace Grd
/-- The cells of a row of numbers. -/
def i64s (l : List Nat) : List Value := l.map fun (x : Nat) => .int .i64 (x : Int)
theorem i64s_len (l : List Nat) : (i64s l).length = l.length := by simp [i64s]
theorem i64s_at {l : List Nat} {i : Nat} (h : i < l.length) : (i64s l)[i]? = some (.int .i64 ((l.getD i 0 : Nat) : Int)) := by
  simp [i64s, h]
theorem i64s_one (l : List Nat) : ∀ v ∈ i64s l, v.oneCell' = true := by intro v hv; simp [i64s] at hv; obtain ⟨x, _, rfl⟩ := hv; rfl
/-- v is a row of the call's own, of the numbers xs. -/
def OwnInts (w : World) (base : Nat) (v : Value) (xs : List Nat) : Prop := w.ownsRow base 3 1 v xs.length (i64s xs)
theorem OwnInts.below {w w' : World} {base : Nat} {v : Value} {xs : List Nat} (h : OwnInts w base v xs) (hb : Below w.heap.size w w') : OwnInts w' base v xs := own_below h hb
theorem OwnInts.mono {w : World} {b base : Nat} {v : Value} {xs : List Nat} (h : OwnInts w base v xs) (hb : b ≤ base) : OwnInts w b v xs := own_mono h hb
theorem OwnInts.form {w : World} {base : Nat} {v : Value} {xs : List Nat} (h : OwnInts w base v xs) : ∃ ad c, v = .slice ad xs.length c := own_form h
theorem OwnInts.cell {w : World} {base n c : Nat} {ad : Option Addr} {xs : List Nat} (h : OwnInts w base (.slice ad n c) xs) {i : Nat} (hi : i < xs.length) : ∃ g, ad = some ⟨g, 0, none⟩ ∧ base ≤ g ∧ g < w.heap.size ∧ w.cell? ⟨g, 0 + i, none⟩ = some (.int .i64 ((xs.getD i 0 : Nat) : Int)) ∧ w.frozen? ⟨g, 0 + i, none⟩ = false := by
  obtain ⟨hl, hv⟩ := h
  rcases hv with ⟨_, h0⟩ | ⟨g, cap, cur, hv, hg, hcur, h1, h2, h3, h4⟩
  · omega
  · injection hv with e1 e2 e3
    subst e1
    refine ⟨g, rfl, hg, there_lt hcur, ?_, frozen_of_row w g (0 + i) cur _ hcur⟩
    have k5 := i64s_at hi
    rw [← h4, List.getElem?_take_of_lt (by omega)] at k5
    rw [cell_of_row w g (0 + i) cur _ (0, 0) hcur, Nat.zero_add, ← Array.getElem?_toList]
    exact k5
theorem OwnInts.set {w : World} {base g n c : Nat} {xs : List Nat} (h : OwnInts w base (.slice (some ⟨g, 0, none⟩) n c) xs) (i x : Nat) :
    OwnInts (w.setCell ⟨g, i, none⟩ (.int .i64 (x : Int))) base (.slice (some ⟨g, 0, none⟩) n c) (xs.set i x) ∧ w.grownBy (w.setCell ⟨g, i, none⟩ (.int .i64 (x : Int))) (some g) := by
  have hn : n = xs.length := by
    obtain ⟨_, _, e⟩ := h.form
    injection e
  subst hn
  unfold OwnInts at h ⊢
  rw [show i64s (xs.set i x) = (i64s xs).set i (.int .i64 (x : Int)) by simp [i64s, List.map_set], List.length_set]
  exact World.ownsRow.stored h i (.int .i64 (x : Int))
theorem fill_set {sp : List Nat} {N q : Nat} (hl : sp.length = N) (hq : q < N) : (sp.take q ++ List.replicate (N - q) 0).set q (sp.getD q 0) = sp.take (q + 1) ++ List.replicate (N - (q + 1)) 0 := by
  have e : sp.getD q 0 = sp[q] := by simp [List.getD_eq_getElem?_getD, show q < sp.length by omega]
  rw [e, List.set_append_right _ _ (by simp; omega), show q - (sp.take q).length = 0 by simp; omega, show N - q = (N - (q + 1)) + 1 by omega, List.replicate_succ, List.set_cons_zero, List.take_succ_eq_append_getElem (show q < sp.length by omega), List.append_assoc]
  rfl
theorem fill_len {sp : List Nat} {N q : Nat} (hl : sp.length = N) (hq : q ≤ N) : (sp.take q ++ List.replicate (N - q) 0).length = N := by simp; omega
/-- The cells of a row of truths. -/
def bools (l : List Bool) : List Value := l.map fun x => .bool x
theorem bools_at {l : List Bool} {i : Nat} (h : i < l.length) : (bools l)[i]? = some (.bool (l.getD i false)) := by
  simp [bools, h]
def OwnBools (w : World) (base : Nat) (v : Value) (xs : List Bool) : Prop := w.ownsRow base 4 1 v xs.length (bools xs)
theorem OwnBools.below {w w' : World} {base : Nat} {v : Value} {xs : List Bool} (h : OwnBools w base v xs) (hb : Below w.heap.size w w') : OwnBools w' base v xs := own_below h hb
theorem OwnBools.cell {w : World} {base g n c : Nat} {xs : List Bool} (h : OwnBools w base (.slice (some ⟨g, 0, none⟩) n c) xs) {i : Nat} (hi : i < xs.length) : w.cell? ⟨g, i, none⟩ = some (.bool (xs.getD i false)) ∧ w.frozen? ⟨g, i, none⟩ = false := by
  obtain ⟨hl, hv⟩ := h
  rcases hv with ⟨_, h0⟩ | ⟨g', cap, cur, hv, hg, hcur, h1, h2, h3, h4⟩
  · omega
  · injection hv with e1 e2 e3
    injection e1 with e1
    injection e1 with e1
    subst e1
    refine ⟨?_, frozen_of_row w g i cur _ hcur⟩
    have k5 := bools_at hi
    rw [← h4, List.getElem?_take_of_lt (by omega)] at k5
    rw [cell_of_row w g i cur _ (0, 0) hcur, ← Array.getElem?_toList]
    exact k5
theorem OwnBools.set {w : World} {base g n c : Nat} {xs : List Bool} (h : OwnBools w base (.slice (some ⟨g, 0, none⟩) n c) xs) (i : Nat) (x : Bool) :
    OwnBools (w.setCell ⟨g, i, none⟩ (.bool x)) base (.slice (some ⟨g, 0, none⟩) n c) (xs.set i x) ∧ w.grownBy (w.setCell ⟨g, i, none⟩ (.bool x)) (some g) := by
  have hn : n = xs.length := by
    obtain ⟨_, _, e⟩ := own_form h
    injection e
  subst hn
  unfold OwnBools at h ⊢
  rw [show bools (xs.set i x) = (bools xs).set i (.bool x) by simp [bools, List.map_set], List.length_set]
  exact World.ownsRow.stored h i (.bool x)
theorem infoB : (Try.prog.info? 4).map (fun i => (i.zero, i.size, i.bytes)) = some (some (.bool false), 1, 1) := by kernel_rfl
theorem made_bools (N : Nat) : (madeCells (Value.cells (.bool false)) (N * 1)).toList = bools (List.replicate N false) := by
  rw [Nat.mul_one]; show (madeCells #[.bool false] N).toList = _; rw [toList_madeCells_one]; simp [bools]
theorem infoI : (Try.prog.info? 3).map (fun i => (i.zero, i.size, i.bytes)) = some (some (.int .i64 0), 1, 8) := by kernel_rfl
set_option maxRecDepth 100000 in
set_option maxHeartbeats 8000000 in
theorem span_any (r c : Int) (ad : Option Addr) (n k : Nat) (cur : Int) (lk ins : Bool) (a b : Nat) (w : World) (ha : a < n) (hb : b < n) (hn : n < 100000000) :
    Calls Try.prog 9 #[.agg #[.int .i64 r, .int .i64 c, .slice ad n k, .int .i64 cur, .bool lk, .bool ins], .int .i64 (a : Int), .int .i64 (b : Int)] w fun e w' => ∃ v, e = .returned v ∧ OwnInts w' w.heap.size v (span n a b) ∧ Below w.heap.size w w' := by
  have HS := Lib.hid fun W => size_any r c ad n k cur lk ins W
  have HO := Lib.hid fun W => on_any r c ad n k cur lk ins (b : Int) (-(a : Int)) W (by omega) (by omega) (IntWalk.i64_in _ (by omega)) (IntWalk.i64_in _ (by omega))
  have HB := Lib.hid (al_any w (.cells #[.int .i64 r, .int .i64 c, .slice ad n k, .int .i64 cur, .bool lk, .bool ins] 24))
  have HX := Lib.hid (heap_alloc_new w (.cells #[.int .i64 r, .int .i64 c, .slice ad n k, .int .i64 cur, .bool lk, .bool ins] 24))
  have HSL := Lib.hid (spanLen_pos (z := n) (by omega) (a : Int) (b : Int))
  have HLE := Lib.hid (show spanLen n a b = if on n b (-(a : Int)) = 0 then n else on n b (-(a : Int)) from rfl)
  generalize on n b (-(a : Int)) = q at HO HLE
  go_enter Try.func9, Try.ntmps9
  go_upto_region 1 with (fail)
  generalize w.alloc _ = w1 at *
  obtain ⟨c0, c1, c2, c3, c4, c5⟩ := cells6 HX.out
  go_wp2_with fail
  with_reducible refine (HO.out _).mono ?_
  rintro e w2 ⟨rfl, hb2⟩
  have K2 := kept_hid HB hb2
  have X2 := Lib.hid (blk HX.out hb2)
  clear hb2 HX HB HO c0 c1 c2 c3 c4 c5
  by_cases h0 : q = 0
  · subst h0
    obtain ⟨N, hN⟩ : ∃ N : Nat, N = n := ⟨_, rfl⟩
    have HNE := Lib.hid (show (n : Int) = (N : Int) by rw [hN])
    have HN := Lib.hid (show spanLen n a b = N ∧ N ≤ n from ⟨by rw [HLE.out, hN]; rfl, by omega⟩)
    clear hN
    obtain ⟨c0, c1, c2, c3, c4, c5⟩ := cells6 X2.out
    go_wp2_with fail
    with_reducible refine (HS.out _).mono ?_
    rintro e w3 ⟨rfl, hb3⟩
    have K3 := kept_hid K2 hb3
    have X3 := Lib.hid (blk X2.out hb3)
    clear hb3 X2 K2 c0 c1 c2 c3 c4 c5

    go_wp2_with (at_make; refine wpList_mark ?_)
    refine Lib.hid ?_
    obtain ⟨i0, hi, hz0, hz1, hz2⟩ := info_parts infoI
    refine wpList_make_full _ rfl _ _ 29 rfl w.heap.size 3 i0 _ 1 Try.underlying29 hi hz0 hz1 .i64 .i64 _ _ N rfl rfl HNE.out HNE.out ?_ ?_ ?_ ?_
    · rw [hz2]; have := HN.out; omega
    · have := HN.out; unfold maxLen; omega
    · exact K3.out.size
    intro w4 hown hgr
    have K4 := kept_hid K3 (belowg hgr)
    have X4 := Lib.hid (blk X3.out (belowg hgr))
    have O4 := Lib.hid (show OwnInts w4 w.heap.size (.slice (some ⟨w3.heap.size, 0, none⟩) N N) ((span n a b).take 0 ++ List.replicate (N - 0) 0) by
      unfold OwnInts
      simp only [List.take_zero, List.nil_append, Nat.sub_zero, List.length_replicate]
      rw [show (madeCells (Value.cells (.int .i64 0)) (N * 1)).toList = i64s (List.replicate N 0) by rw [Nat.mul_one]; show (madeCells #[.int .i64 0] N).toList = _; rw [toList_madeCells_one]; simp [i64s]] at hown
      exact hown)
    have HG := Lib.hid (there_lt X3.out)
    generalize w3.heap.size = g at *
    clear hown hgr K3 X3 hi hz0 hz1 hz2
    go_wp2_with fail
    have HSP := Lib.hid (fun i (h : i < N) => (show (span n a b).getD i 0 = on n a (i : Int) from span_getD (by rw [HN.out.1]; exact h)))
    have HSN := Lib.hid (show (span n a b).length = N by rw [span_length, HN.out.1])
    generalize hsp : span n a b = sp at O4 HSP HSN
    replace hsp := Lib.hid hsp
    go_loopg [9, 23] (N + 1) (fun m _ i wr => ∃ q : Nat, q ≤ N ∧ m = N + 1 - q ∧ i = .int .i64 q ∧ Hid (Below w.heap.size w wr) ∧ Hid (Below w4.heap.size w4 wr ∨ True) ∧ Hid (wr.heap[w.heap.size]? = some (.cells #[.int .i64 r, .int .i64 c, .slice ad n k, .int .i64 cur, .bool lk, .bool ins] 24 (0, 0))) ∧ Hid (OwnInts wr w.heap.size (.slice (some ⟨g, 0, none⟩) N N) (sp.take q ++ List.replicate (N - q) 0)))
    case atStart => exact ⟨0, Nat.zero_le _, rfl, rfl, K4, Lib.hid (.inr trivial), X4, O4⟩
    case round =>
      obtain ⟨q, hq, rfl, rfl, HK, _, HX, HW⟩ := hrel
      have ew : IntKind.i64.wrap ((q : Int) + 1) = (q : Int) + 1 := by
        have := HN.out
        rw [IntWalk.i64_in] <;> omega
      by_cases hlt : q < N
      · have HO := Lib.hid fun W => on_any r c ad n k cur lk ins (a : Int) (q : Int) W (by omega) (by omega) (IntWalk.i64_in _ (by omega)) (IntWalk.i64_in _ (by have := HN.out; omega))
        rw [← HSP.out q hlt] at HO
        have hi0 : (0 : Int) ≤ (q : Int) := by omega
        have hi1 : (q : Int) < (N : Int) := by omega
        obtain ⟨c0, c1, c2, c3, c4, c5⟩ := cells6 HX.out
        go_wp2_with fail
        with_reducible refine (HO.out _).mono ?_
        rintro e w5 ⟨rfl, hb⟩
        have K5 := kept_hid (Lib.hid (Below.refl wr.heap.size wr)) hb
        have X5 := Lib.hid (blk HX.out hb)
        have K6 := kept_hid HK hb
        have W5 := Lib.hid (HW.out.below hb)
        clear hb c0 c1 c2 c3 c4 c5 HX HW HK HO
        obtain ⟨g', hg', _, hgl, hcell, hfr⟩ := W5.out.cell (i := q) (by rw [fill_len HSN.out (by omega)]; exact hlt)
        injection hg' with hg'
        injection hg' with hg' _ _
        subst hg'
        rw [Nat.zero_add] at hcell hfr
        have SS := W5.out.set q (sp.getD q 0)
        rw [fill_set HSN.out hlt] at SS
        have W6 := Lib.hid SS.1
        have G6 := Lib.hid SS.2
        clear SS W5
        have X6 := Lib.hid (blk_g X5.out G6.out (by intro e; injection e with e; have := HG.out; omega))
        have K7 := Lib.hid (below_grown K6.out G6.out (Nat.le_of_lt HG.out))
        clear X5 K6 G6
        go_wp2_with fail
        clear hcell hfr
        go_roundg (N + 1 - (q + 1))
        case measure => omega
        case rel => exact ⟨q + 1, by omega, rfl, rfl, K7, Lib.hid (.inr trivial), X6, W6⟩
      · obtain rfl : q = N := by omega
        clear hlt
        have hn0 : ¬ (q : Int) < (q : Int) := by omega
        have W6 := Lib.hid (show OwnInts wr w.heap.size (.slice (some ⟨g, 0, none⟩) q q) sp from by
          have := HW.out
          rwa [Nat.sub_self, List.take_of_length_le (by rw [HSN.out]; exact Nat.le_refl _), List.replicate_zero, List.append_nil] at this)
        go_wp2_with fail
        go_ret
        exact ⟨_, rfl, by rw [hsp.out]; exact W6.out, HK.out⟩
  · have hz : ((q : Int) == 0) = false := by simp; omega
    obtain ⟨N, hN⟩ : ∃ N : Nat, N = q := ⟨_, rfl⟩
    have HNE := Lib.hid (show (q : Int) = (N : Int) by rw [hN])
    have HN := Lib.hid (show spanLen n a b = N ∧ N ≤ n from by
      have h1 := HLE.out
      rw [if_neg h0] at h1
      have h2 := HSL.out.2
      omega)
    clear hN h0
    go_wp2_with (at_make; refine wpList_mark ?_)
    refine Lib.hid ?_
    obtain ⟨i0, hi, hz0, hz1, hz2⟩ := info_parts infoI
    refine wpList_make_full _ rfl _ _ 29 rfl w.heap.size 3 i0 _ 1 Try.underlying29 hi hz0 hz1 .i64 .i64 _ _ N rfl rfl HNE.out HNE.out ?_ ?_ ?_ ?_
    · rw [hz2]; have := HN.out; omega
    · have := HN.out; unfold maxLen; omega
    · exact K2.out.size
    intro w4 hown hgr
    have K4 := kept_hid K2 (belowg hgr)
    have X4 := Lib.hid (blk X2.out (belowg hgr))
    have O4 := Lib.hid (show OwnInts w4 w.heap.size (.slice (some ⟨w2.heap.size, 0, none⟩) N N) ((span n a b).take 0 ++ List.replicate (N - 0) 0) by
      unfold OwnInts
      simp only [List.take_zero, List.nil_append, Nat.sub_zero, List.length_replicate]
      rw [show (madeCells (Value.cells (.int .i64 0)) (N * 1)).toList = i64s (List.replicate N 0) by rw [Nat.mul_one]; show (madeCells #[.int .i64 0] N).toList = _; rw [toList_madeCells_one]; simp [i64s]] at hown
      exact hown)
    have HG := Lib.hid (there_lt X2.out)
    generalize w2.heap.size = g at *
    clear hown hgr K2 X2 hi hz0 hz1 hz2
    go_wp2_with fail
    have HSP := Lib.hid (fun i (h : i < N) => (show (span n a b).getD i 0 = on n a (i : Int) from span_getD (by rw [HN.out.1]; exact h)))
    have HSN := Lib.hid (show (span n a b).length = N by rw [span_length, HN.out.1])
    generalize hsp : span n a b = sp at O4 HSP HSN
    replace hsp := Lib.hid hsp
    go_loopg [9, 23] (N + 1) (fun m _ i wr => ∃ q : Nat, q ≤ N ∧ m = N + 1 - q ∧ i = .int .i64 q ∧ Hid (Below w.heap.size w wr) ∧ Hid (Below w4.heap.size w4 wr ∨ True) ∧ Hid (wr.heap[w.heap.size]? = some (.cells #[.int .i64 r, .int .i64 c, .slice ad n k, .int .i64 cur, .bool lk, .bool ins] 24 (0, 0))) ∧ Hid (OwnInts wr w.heap.size (.slice (some ⟨g, 0, none⟩) N N) (sp.take q ++ List.replicate (N - q) 0)))
    case atStart => exact ⟨0, Nat.zero_le _, rfl, rfl, K4, Lib.hid (.inr trivial), X4, O4⟩
    case round =>
      obtain ⟨q, hq, rfl, rfl, HK, _, HX, HW⟩ := hrel
      have ew : IntKind.i64.wrap ((q : Int) + 1) = (q : Int) + 1 := by
        have := HN.out
        rw [IntWalk.i64_in] <;> omega
      by_cases hlt : q < N
      · have HO := Lib.hid fun W => on_any r c ad n k cur lk ins (a : Int) (q : Int) W (by omega) (by omega) (IntWalk.i64_in _ (by omega)) (IntWalk.i64_in _ (by have := HN.out; omega))
        rw [← HSP.out q hlt] at HO
        have hi0 : (0 : Int) ≤ (q : Int) := by omega
        have hi1 : (q : Int) < (N : Int) := by omega
        obtain ⟨c0, c1, c2, c3, c4, c5⟩ := cells6 HX.out
        go_wp2_with fail
        with_reducible refine (HO.out _).mono ?_
        rintro e w5 ⟨rfl, hb⟩
        have K5 := kept_hid (Lib.hid (Below.refl wr.heap.size wr)) hb
        have X5 := Lib.hid (blk HX.out hb)
        have K6 := kept_hid HK hb
        have W5 := Lib.hid (HW.out.below hb)
        clear hb c0 c1 c2 c3 c4 c5 HX HW HK HO
        obtain ⟨g', hg', _, hgl, hcell, hfr⟩ := W5.out.cell (i := q) (by rw [fill_len HSN.out (by omega)]; exact hlt)
        injection hg' with hg'
        injection hg' with hg' _ _
        subst hg'
        rw [Nat.zero_add] at hcell hfr
        have SS := W5.out.set q (sp.getD q 0)
        rw [fill_set HSN.out hlt] at SS
        have W6 := Lib.hid SS.1
        have G6 := Lib.hid SS.2
        clear SS W5
        have X6 := Lib.hid (blk_g X5.out G6.out (by intro e; injection e with e; have := HG.out; omega))
        have K7 := Lib.hid (below_grown K6.out G6.out (Nat.le_of_lt HG.out))
        clear X5 K6 G6
        go_wp2_with fail
        clear hcell hfr
        go_roundg (N + 1 - (q + 1))
        case measure => omega
        case rel => exact ⟨q + 1, by omega, rfl, rfl, K7, Lib.hid (.inr trivial), X6, W6⟩
      · obtain rfl : q = N := by omega
        clear hlt
        have hn0 : ¬ (q : Int) < (q : Int) := by omega
        have W6 := Lib.hid (show OwnInts wr w.heap.size (.slice (some ⟨g, 0, none⟩) q q) sp from by
          have := HW.out
          rwa [Nat.sub_self, List.take_of_length_le (by rw [HSN.out]; exact Nat.le_refl _), List.replicate_zero, List.append_nil] at this)
        go_wp2_with fail
        go_ret
        exact ⟨_, rfl, by rw [hsp.out]; exact W6.out, HK.out⟩
set_option maxHeartbeats 1000000 in
theorem rnext_any (r c : Int) (ad : Option Addr) (n k : Nat) (cur : Int) (lk ins : Bool) (a : Nat) (w : World) (ha : a < n) (hn : n < 100000000) :
    Calls Try.prog 12 #[.agg #[.int .i64 r, .int .i64 c, .slice ad n k, .int .i64 cur, .bool lk, .bool ins], .int .i64 (a : Int)] w fun e w' => e = .returned (.int .i64 ((on n a 1 : Nat) : Int)) ∧ Below w.heap.size w w' := by
  have h1 := on_nat (z := n) a 1
  rw [show ((1 : Nat) : Int) = 1 from rfl] at h1
  by_cases h0 : a + 1 = n
  · have HE := Lib.hid (show on n (a : Int) 1 = 0 by rw [h1, h0, Nat.mod_self])
    have hq : ((a : Int) + 1 == (n : Int)) = true := by simp; omega
    clear h0 h1
    generalize on n (a : Int) 1 = res at HE ⊢
    go_enter Try.func12, Try.ntmps12
    go_wp2_with fail
    go_ret
    exact ⟨by rw [HE.out]; rfl, al_any _ _⟩
  · have HE := Lib.hid (show ((on n (a : Int) 1 : Nat) : Int) = (a : Int) + 1 by rw [h1, Nat.mod_eq_of_lt (by omega)]; omega)
    have hq : ((a : Int) + 1 == (n : Int)) = false := by simp; omega
    clear h0 h1
    generalize on n (a : Int) 1 = res at HE ⊢
    go_enter Try.func12, Try.ntmps12
    go_wp2_with fail
    go_ret
    exact ⟨by rw [HE.out]; rfl, al_any _ _⟩
/-- append of one number whose cell lies in block L. -/
theorem append_int {ops : Array Oper} {rest : List Oper} {o : Oper} {a : Act} {Q : Exit → Act → World → Prop} {w : World} (hgd : o.guard = none) (s x : Operand)
    (ho : o.op = .call { callee := .builtin .append, args := #[s, x], argTypes := #[29, 29] }) (base : Nat) (v : Value) (xs : List Nat) (hs : a.eval s = v) (hown : OwnInts w base v xs)
    (L : Nat) (y : Nat) (hx : a.eval x = .slice (some ⟨L, 0, none⟩) 1 1) (hL : w.heap[L]? = some (.cells #[.int .i64 (y : Int)] 3 (0, 0)))
    (hn : xs.length < 1000000000) (hbase : base ≤ w.heap.size)
    (h : ∀ v' w', OwnInts w' base v' (xs ++ [y]) → w.grownBy w' v.ownBlock → wpList Try.prog ops Q rest (a.put o.dst v') w') : wpList Try.prog ops Q (o :: rest) a w := by
  obtain ⟨i0, hi, hz0, hz1, hz2⟩ := info_parts infoI
  refine wpList_append_own _ hgd s x 29 ho base 3 i0 _ 1 8 Try.underlying29 hi hz0 hz1 hz2 rfl (by decide) v xs.length (i64s xs) hs hown ⟨L, 0, none⟩ 1 1 [.int .i64 (y : Int)] hx rfl (fun j u hj => ?_) (by intro u hu; simp at hu; subst hu; rfl) (by unfold maxLen; omega) (by omega) hbase fun v' w' k1 k2 _ => h v' w' (by unfold OwnInts; rw [List.length_append, show i64s (xs ++ [y]) = i64s xs ++ [.int .i64 (y : Int)] by simp [i64s]]; exact k1) k2
  rw [Addr.add_mid, Nat.zero_add, cell_of_row w L j _ _ (0, 0) hL, List.getElem?_toArray]; exact hj
set_option maxRecDepth 100000 in
set_option maxHeartbeats 8000000 in
theorem rspan_any (r c : Int) (ad : Option Addr) (n k : Nat) (cur : Int) (lk ins : Bool) (a b : Nat) (w : World) (ha : a < n) (hb : b < n) (hn : n < 100000000) :
    Calls Try.prog 10 #[.agg #[.int .i64 r, .int .i64 c, .slice ad n k, .int .i64 cur, .bool lk, .bool ins], .int .i64 (a : Int), .int .i64 (b : Int)] w fun e w' => ∃ v, e = .returned v ∧ OwnInts w' w.heap.size v (span n a b) ∧ Below w.heap.size w w' := by
  have HX := Lib.hid (heap_alloc_new w (.cells #[.int .i64 r, .int .i64 c, .slice ad n k, .int .i64 cur, .bool lk, .bool ins] 24))
  have HB := Lib.hid (al_any w (.cells #[.int .i64 r, .int .i64 c, .slice ad n k, .int .i64 cur, .bool lk, .bool ins] 24))
  have HNX := Lib.hid fun (i : Nat) W (h : i < n) => rnext_any r c ad n k cur lk ins i W h hn
  have HA := Lib.hid ha
  have HBB := Lib.hid hb
  have HNN := Lib.hid hn
  have HSL := Lib.hid (spanLen_pos (z := n) (by omega) (a : Int) (b : Int))
  have HSG := Lib.hid (fun i (h : i < spanLen n a b) => span_getD (z := n) (a := (a : Int)) (b := (b : Int)) h)
  have HSE := Lib.hid (fun q (h0 : 1 ≤ q) (h1 : q ≤ spanLen n a b) => span_end (z := n) ha hb h0 h1)
  have HSN := Lib.hid (span_length n a b)
  clear ha hb hn
  go_enter Try.func10, Try.ntmps10
  go_upto_region 1 with (fail)
  generalize w.alloc _ = w1 at *
  go_upto_region 2 with (fail)
  have HAL := al_any w1 (.cells #[.int .i64 (a : Int)] 3)
  have HZ := HB.out.size
  have K2 := kept_hid HB HAL
  have X2 := Lib.hid (blk HX.out HAL)
  have O2 := Lib.hid (show OwnInts (w1.alloc (.cells #[.int .i64 (a : Int)] 3)) (w.heap.size + 1) (.slice (some ⟨w1.heap.size, 0, none⟩) 1 1) ((span n a b).take 1) from by
    have h0 := World.ownsRow_lit (base := w.heap.size + 1) (e := 3) (size := 1) w1 #[.int .i64 (a : Int)] 1 (there_lt HX.out) (by decide) rfl
    have h1 : (span n a b).take 1 = [a] := by
      have h2 := HSG.out 0 HSL.out.1
      rw [show ((0 : Nat) : Int) = 0 from rfl, on_zero HA.out] at h2
      have h3 : 0 < (span n a b).length := by rw [HSN.out]; exact HSL.out.1
      rw [List.getD_eq_getElem?_getD, List.getElem?_eq_getElem h3, Option.getD_some] at h2
      rw [List.take_succ_eq_append_getElem h3, h2]; rfl
    rw [h1]
    exact h0)
  have HG0 := Lib.hid (there_lt HX.out)
  generalize w1.heap.size = g at *
  generalize w1.alloc _ = w2 at *
  clear HAL HZ HB HX
  obtain ⟨c0, c1, c2, c3, c4, c5⟩ := cells6 X2.out
  go_wp2_with fail
  with_reducible refine (HNX.out a _ HA.out).mono ?_
  rintro e w3 ⟨rfl, hb⟩
  have K3 := kept_hid K2 hb
  have X3 := Lib.hid (blk X2.out hb)
  have O3 := Lib.hid (O2.out.below hb)
  clear hb K2 X2 O2 c0 c1 c2 c3 c4 c5
  go_wp2_with fail
  generalize hsp : span n a b = sp at O3 HSG HSN
  replace hsp := Lib.hid hsp
  generalize hN : spanLen n a b = N at HSL HSG HSE HSN
  clear hN
  go_loopg [7, 8] N (fun m v i wr => ∃ q : Nat, 1 ≤ q ∧ q ≤ N ∧ m = N + 1 - q ∧ i = .int .i64 ((on n a (q : Int) : Nat) : Int) ∧ Hid (Below w.heap.size w wr) ∧ Hid (wr.heap[w.heap.size]? = some (.cells #[.int .i64 r, .int .i64 c, .slice ad n k, .int .i64 cur, .bool lk, .bool ins] 24 (0, 0))) ∧ Hid (OwnInts wr (w.heap.size + 1) v (sp.take q)))
  case atStart => exact ⟨1, Nat.le_refl _, HSL.out.1, by omega, rfl, K3, X3, O3⟩
  case round =>
    obtain ⟨q, hq1, hq, rfl, rfl, HK, HX, HW⟩ := hrel
    have HT := Lib.hid (HSE.out q hq1 hq)
    have HOL := Lib.hid (on_lt (z := n) (by have := HA.out; omega) (a : Int) (q : Int))
    obtain ⟨va, vc, rfl⟩ := HW.out.form
    have HLT := Lib.hid (show (sp.take q).length = q by rw [List.length_take, HSN.out]; omega)
    by_cases hlt : q < N
    · have hne1 : (((on n a (q : Int) : Nat) : Int) != (b : Int)) = true := by
        have := HT.out; simp; omega
      have hne2 : (((on n a (q : Int) : Nat) : Int) != (a : Int)) = true := by
        have := HT.out; simp; omega
      have HO1 := Lib.hid (show on n ((on n a (q : Int) : Nat) : Int) 1 = on n a ((q + 1 : Nat) : Int) by rw [on_on (by have := HA.out; omega)]; rfl)
      have HGD := Lib.hid (HSG.out q hlt)
      generalize on n a (q : Int) = x at *
      have HXN := Lib.hid (HOL.out)
      have HAL := al_any wr (.cells #[.int .i64 (x : Int)] 3)
      have K4 := kept_hid HK HAL
      have X4 := Lib.hid (blk HX.out HAL)
      have W4 := Lib.hid (HW.out.below HAL)
      have L4 := Lib.hid (heap_alloc_new wr (.cells #[.int .i64 (x : Int)] 3))
      have HX0 := Lib.hid (there_lt HX.out)
      have HOG := Lib.hid (show ∀ g, (Value.slice va (sp.take q).length vc).ownBlock = some g → w.heap.size + 1 ≤ g from own_ge HW.out)
      clear HK HX HW HAL
      go_wp2_with (at_builtin; refine wpList_mark ?_)
      refine Lib.hid ?_
      refine append_int rfl (.tmp 22) (.tmp 24) rfl (w.heap.size + 1) (.slice va (sp.take q).length vc) (sp.take q) rfl W4.out wr.heap.size x rfl L4.out (by rw [HLT.out]; have := HSL.out.2; have := HNN.out; omega) (there_lt X4.out) ?_
      intro v' w5 hown hgr
      have HTK := Lib.hid (show sp.take q ++ [x] = sp.take (q + 1) by
        have h2 := HGD.out
        have h3 : q < sp.length := by rw [HSN.out]; exact hlt
        rw [List.getD_eq_getElem?_getD, List.getElem?_eq_getElem h3, Option.getD_some] at h2
        rw [List.take_succ_eq_append_getElem h3, h2])
      rw [HTK.out] at hown
      have W5 := Lib.hid hown
      have X5 := Lib.hid (blk_g X4.out hgr (by intro e; have := HOG.out _ e.symm; omega))
      have K5 := Lib.hid (K4.out.grown hgr K4.out.size (fun g hg => by have := HOG.out _ hg; omega))
      obtain ⟨va5, vc5, rfl⟩ := W5.out.form
      clear hown hgr HTK W4 X4 K4 L4
      obtain ⟨c0, c1, c2, c3, c4, c5⟩ := cells6 X5.out
      go_wp2_with fail
      with_reducible refine (HNX.out x _ HXN.out).mono ?_
      rintro e w6 ⟨rfl, hb⟩
      have K6 := kept_hid K5 hb
      have X6 := Lib.hid (blk X5.out hb)
      have W6 := Lib.hid (W5.out.below hb)
      clear hb K5 X5 W5 c0 c1 c2 c3 c4 c5
      rw [HO1.out]
      go_wp2_with fail
      go_roundg (N + 1 - (q + 1))
      case measure => omega
      case rel => exact ⟨q + 1, by omega, by omega, rfl, rfl, K6, X6, Lib.hid (by have := W6.out; rwa [List.length_take] at this)⟩
    · obtain rfl : q = N := by omega
      have HTT := Lib.hid (HT.out.2 rfl)
      have W6 := Lib.hid (show OwnInts wr w.heap.size (.slice va (sp.take q).length vc) sp from by
        have := HW.out.mono (Nat.le_succ w.heap.size)
        rwa [List.take_of_length_le (by rw [HSN.out]; exact Nat.le_refl _)] at this ⊢)
      clear hlt HT HSE
      have hq0 : on n (a : Int) (q : Int) = b ∨ on n (a : Int) (q : Int) = a := HTT.out
      generalize on n (a : Int) (q : Int) = x at *
      by_cases hxb : x = b
      · have hne1 : ((x : Int) != (b : Int)) = false := by simp; omega
        clear hxb hq0 HTT
        go_wp2_with fail
        go_ret
        exact ⟨_, rfl, by rw [hsp.out]; exact W6.out, HK.out⟩
      · have hne1 : ((x : Int) != (b : Int)) = true := by simp; omega
        have hne2 : ((x : Int) != (a : Int)) = false := by simp; omega
        clear hxb hq0 HTT
        go_wp2_with fail
        go_ret
        exact ⟨_, rfl, by rw [hsp.out]; exact W6.out, HK.out⟩
theorem i_ext {xs ys : List Nat} (hl : xs.length = ys.length) (h : ∀ i, i < xs.length → xs.getD i 0 = ys.getD i 0) : xs = ys := by
  apply List.ext_getElem hl
  intro i h1 h2
  have := h i h1
  rwa [List.getD_eq_getElem?_getD, List.getD_eq_getElem?_getD, List.getElem?_eq_getElem h1, List.getElem?_eq_getElem h2] at this
set_option maxRecDepth 100000 in
set_option maxHeartbeats 8000000 in
theorem rints_same (v1 v2 : Value) (xs : List Nat) (b1 b2 : Nat) (w : World) (h1 : OwnInts w b1 v1 xs) (h2 : OwnInts w b2 v2 xs) (hl : xs.length < 100000000) :
    Calls Try.prog 8 #[v1, v2] w fun e w' => e = .returned (.bool true) ∧ ∃ m, w' = w.drewN m := by
  have H1 := Lib.hid h1
  have H2 := Lib.hid h2
  have HL := Lib.hid hl
  obtain ⟨a1, k1, rfl⟩ := h1.form
  obtain ⟨a2, k2, rfl⟩ := h2.form
  clear h1 h2 hl
  have hne : ((xs.length : Int) != (xs.length : Int)) = false := by simp
  go_enter Try.func8, Try.ntmps8
  go_wp2_with fail
  go_loopg [5] (xs.length + 1) (fun m i wr => ∃ k : Nat, k ≤ xs.length ∧ m = xs.length + 1 - k ∧ i = .int .i64 k ∧ ∃ n, wr = w.drewN n)
  case atStart => exact ⟨0, Nat.zero_le _, rfl, rfl, 0, rfl⟩
  case round =>
    obtain ⟨k, hk, rfl, rfl, n, rfl⟩ := hrel
    have ew : IntKind.i64.wrap ((k : Int) + 1) = (k : Int) + 1 := by
      have := HL.out
      rw [IntWalk.i64_in] <;> omega
    by_cases hlt : k < xs.length
    · obtain ⟨g1, rfl, _, _, d1, _⟩ := H1.out.cell hlt
      obtain ⟨g2, rfl, _, _, d2, _⟩ := H2.out.cell hlt
      rw [Nat.zero_add] at d1 d2
      have hi0 : (0 : Int) ≤ (k : Int) := by omega
      have hi1 : (k : Int) < (xs.length : Int) := by omega
      generalize xs.getD k 0 = x at d1 d2
      have hb : ((x : Int) != (x : Int)) = false := by simp
      go_wp2_with fail
      go_quiet (fail)
      go_wp2_with fail
      go_roundg (xs.length + 1 - (k + 1))
      case measure => omega
      case rel => exact ⟨k + 1, by omega, rfl, by first | rfl | go_num, n + nq, by first | rfl | simp [World.drewN, Nat.add_assoc]⟩
    · have hn0 : ¬ (k : Int) < (xs.length : Int) := by omega
      clear hlt
      go_wp2_with fail
      go_ret
      exact ⟨rfl, n, rfl⟩
end Grd
end Go.Proofs.Ytilabepmmebkcaa
