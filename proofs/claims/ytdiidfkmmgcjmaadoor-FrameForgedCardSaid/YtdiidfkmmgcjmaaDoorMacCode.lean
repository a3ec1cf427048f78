/- 'Code' of package mac is the code of its parts. -/
import Derived.Test.YtdiidfkmmgcjmaaDoorMacLeaf
import Derived.Deep.RegionHeld3
set_option maxRecDepth 100000
namespace Go.Proofs.YtdiidfkmmgcjmaaDoor
open Go.RowKit
namespace Sha
theorem new_ex (w : World) : Calls Tryd.prog 32 #[] w fun e w' => ∃ b, e = .returned (.pointer (some ⟨b, 0, none⟩)) ∧ SumAt w' b [] ∧ w.heap.size ≤ b ∧ Below w.heap.size w w' :=
  (new_any w).mono fun _ _ ⟨he, hs, hb⟩ => ⟨_, he, hs, Nat.le_refl _, hb⟩
theorem turned8_ex (l : List Nat) (c : Nat) (w : World) (hl : l.length = 64) (h8 : ∀ x ∈ l, x < 256) (hc : c < 256) :
    Calls Tryd.prog 34 #[.agg (u8s l).toArray, .int .u8 (c : Int)] w fun e w' =>
      ∃ g, e = .returned (.slice (some ⟨g, 0, none⟩) 64 64) ∧ w'.heap[g]? = some (.cells (u8s (xored l c)).toArray 70 (0, 0)) ∧ w.heap.size ≤ g ∧ Below w.heap.size w w' :=
  (turned8_any l c w hl h8 hc).mono fun _ _ ⟨he, hs, hb⟩ => ⟨_, he, hs, Nat.le_refl _, hb⟩
theorem sum_alloc {w : World} {b : Nat} {m : List Nat} (h : SumAt w b m) (o : Obj) : SumAt (w.alloc o) b m := sum_below h ((Below.refl _ _).alloc (Nat.le_refl _) _)
theorem sum_drew {w : World} {b : Nat} {m : List Nat} (h : SumAt w b m) : SumAt w.drew b m := sum_below h ((Below.refl _ _).drew)
/-- One part, laid in a block of its own, none of it in block b. -/
theorem part_at {w : World} {b p g : Nat} {l : List Nat} {T Tp : TypeId} (n : Nat) (hn : l.length = n) (hp : w.heap[p]? = some (.cells #[.slice (some ⟨g, 0, none⟩) n n] Tp (0, 0))) (hg : w.heap[g]? = some (.cells (u8s l).toArray T (0, 0))) (hpb : p ≠ b) (hgb : g ≠ b) :
    PartsAt w b (.slice (some ⟨p, 0, none⟩) 1 1) [l] := by
  subst hn
  refine ⟨_, 1, rfl, .inr ⟨p, 0, rfl, hpb, fun j hj => ⟨.slice (some ⟨g, 0, none⟩) l.length l.length, ?_, ?_⟩⟩⟩
  · obtain rfl : j = 0 := by simpa using hj
    exact cell_of_row w p 0 _ _ _ hp
  · obtain rfl : j = 0 := by simpa using hj
    refine ⟨_, l.length, rfl, Nat.le_refl _, .inr ⟨g, 0, rfl, hgb, fun i hi => ?_⟩⟩
    rw [Nat.zero_add]
    exact drop_cell hg i hi
/-- What is carried through the region: all that was there; the block's cells. -/
theorem keepS {w1 w w' : World} {N : Nat} {cs : List Value} (hN : N < w1.heap.size) (h : Below w1.heap.size w1 w ∧ w.rangeAt N 0 cs) (hb : Below w.heap.size w w') : Below w1.heap.size w1 w' ∧ w'.rangeAt N 0 cs :=
  ⟨h.1.trans (hb.mono h.1.size), fun j v hj => (hb.cell (p := ⟨N, 0 + j, none⟩) (Nat.lt_of_lt_of_le hN h.1.size)).trans (h.2 j v hj)⟩
theorem keepG {w1 w w' : World} {N b : Nat} {cs : List Value} (hN : N < w1.heap.size) (h : Below w1.heap.size w1 w ∧ w.rangeAt N 0 cs) (hb : w.grownBy w' (some b)) (hB : w1.heap.size ≤ b) : Below w1.heap.size w1 w' ∧ w'.rangeAt N 0 cs :=
  ⟨h.1.grown hb h.1.size (by intro k hk; injection hk with hk; omega), fun j v hj => hb.cell (h.2 j v hj) (by intro e; injection e with e; have e2 : N = b := e; omega)⟩
theorem keepA {w1 w : World} {N : Nat} {cs : List Value} (hN : N < w1.heap.size) (o : Obj) (h : Below w1.heap.size w1 w ∧ w.rangeAt N 0 cs) : Below w1.heap.size w1 (w.alloc o) ∧ (w.alloc o).rangeAt N 0 cs :=
  keepS hN h ((Below.refl _ _).alloc (Nat.le_refl _) _)
/-- A fresh block of 32. -/
def Free32 (w : World) (M : Nat) : Prop := w.heap[M]? = some (.cells (u8s (pad 32 [])).toArray 55 (0, 0))
theorem free_new (w : World) : Free32 (w.alloc (.cells (u8s (pad 32 [])).toArray 55)) w.heap.size := heap_alloc_new w _
theorem free_below {w w' : World} {M : Nat} (h : Free32 w M) (hb : Below w.heap.size w w') : Free32 w' M := (hb.block _ (lt_of_heap h)).trans h
theorem free_grown {w w' : World} {M b : Nat} (h : Free32 w M) (hb : w.grownBy w' (some b)) (hne : M ≠ b) : Free32 w' M := (hb.block _ (lt_of_heap h) (by intro e; injection e with e; exact hne e)).trans h
theorem free_alloc {w : World} {M : Nat} (h : Free32 w M) (o : Obj) : Free32 (w.alloc o) M := free_below h ((Below.refl _ _).alloc (Nat.le_refl _) _)
theorem free_new2 (w : World) (P : Obj) : Free32 ((w.alloc P).alloc (.cells (u8s (pad 32 [])).toArray 55)) (w.heap.size + 1) := heap_alloc2_new w _ _
theorem free_drew {w : World} {M : Nat} (h : Free32 w M) : Free32 w.drew M := h
theorem free_sum {w w' : World} {M b : Nat} {m : List Nat} (h : Free32 w M) (hs : SumAt w b m) (hg : w.grownBy w' (some b)) : Free32 w' M :=
  free_grown h hg (by
    rintro rfl
    obtain ⟨blk, hr, _⟩ := hs
    unfold Free32 at h
    rw [h] at hr
    injection hr with hr
    injection hr with _ e2 _
    exact absurd e2 (by decide))
theorem put_d {w : World} {M : Nat} {D : List Nat} (hD : (u8s D).length = 32) (h : Free32 w M) : (w.setCells M 0 (u8s D)).heap[M]? = some (.cells (u8s D).toArray 55 (0, 0)) := by
  have := heap_setCells M 55 (0, 0) (u8s D) 0 w _ h (by rw [hD, u8s_length, pad_length (by decide)]; decide)
  rw [this, Nat.zero_add, List.take_zero, List.nil_append, List.drop_of_length_le (by rw [hD, u8s_length, pad_length (by decide)]; decide), List.append_nil]
theorem bothS {w4 w : World} {N M : Nat} {D : List Nat} {cs : List Value} (h : Below w4.heap.size w4 (w.setCells M 0 (u8s D)) ∧ (w.setCells M 0 (u8s D)).rangeAt N 0 cs) (hD : (u8s D).length = 32) (hf : Free32 w M) :
    ∃ wz, w.setCells M 0 (u8s D) = wz ∧ ∃ M', wz.heap[M]? = some (.cells (u8s D).toArray 55 (0, 0)) ∧ M' = M ∧ Below w4.heap.size w4 wz :=
  ⟨_, rfl, M, put_d hD hf, rfl, h.1⟩
theorem row_all {w : World} {b n : Nat} {l : List Nat} {T : TypeId} (h : w.heap[b]? = some (.cells (u8s l).toArray T (0, 0))) (hl : l.length = n) : BytesIn w (.slice (some ⟨b, 0, none⟩) n n) l := by
  subst hl
  exact ⟨_, l.length, rfl, Nat.le_refl _, .inr ⟨b, 0, rfl, fun j hj => by rw [Nat.zero_add]; exact drop_cell h j hj⟩⟩
theorem startS {w : World} {N : Nat} {l : List Nat} {T : TypeId} (h : w.heap[N]? = some (.cells (u8s l).toArray T (0, 0))) : Below w.heap.size w w.drew ∧ w.drew.rangeAt N 0 (u8s l) :=
  ⟨(Below.refl _ _).drew, fun j v hj => by rw [Nat.zero_add]; exact (cell_of_row w N j _ _ _ h).trans (by rw [List.getElem?_toArray]; exact hj)⟩
theorem startG {w : World} {N r : Nat} {l : List Nat} {T : TypeId} (h : w.heap[N]? = some (.cells (u8s l).toArray T (0, 0))) : w.grownBy w.drew (some r) ∧ w.drew.rangeAt N 0 (u8s l) := ⟨gdrewN w 1 _, (startS h).2⟩
theorem keepGS {w1 w w' : World} {N r : Nat} {cs : List Value} (hN : N < w1.heap.size) (h : w1.grownBy w (some r) ∧ w.rangeAt N 0 cs) (hb : Below w.heap.size w w') : w1.grownBy w' (some r) ∧ w'.rangeAt N 0 cs :=
  ⟨gtrans h.1 (gbelow hb _), fun j v hj => (hb.cell (p := ⟨N, 0 + j, none⟩) (Nat.lt_of_lt_of_le hN h.1.size)).trans (h.2 j v hj)⟩
theorem keepGA {w1 w : World} {N r : Nat} {cs : List Value} (hN : N < w1.heap.size) (o : Obj) (h : w1.grownBy w (some r) ∧ w.rangeAt N 0 cs) : w1.grownBy (w.alloc o) (some r) ∧ (w.alloc o).rangeAt N 0 cs :=
  keepGS hN h ((Below.refl _ _).alloc (Nat.le_refl _) _)
theorem keepGC {w1 w : World} {N r : Nat} {cs vs : List Value} (hne : N ≠ r) (h : w1.grownBy w (some r) ∧ w.rangeAt N 0 cs) : w1.grownBy (w.setCells r 0 vs) (some r) ∧ (w.setCells r 0 vs).rangeAt N 0 cs :=
  ⟨gtrans h.1 (gsetCells r vs 0 w), fun j v hj => (gsetCells r vs 0 w).cell (h.2 j v hj) (by intro e; injection e with e; exact hne e)⟩
theorem free_there {w : World} {M : Nat} (h : Free32 w M) : w.there M 0 32 := there_of_block h 0 32 (by decide)
theorem belowS {w0 w1 w : World} {N : Nat} {cs : List Value} (hB : Below w0.heap.size w0 w1) (h : Below w1.heap.size w1 w ∧ w.rangeAt N 0 cs) : Below w0.heap.size w0 w := hB.trans (h.1.mono hB.size)
section
variable {w : World} {b g : Nat} {m l : List Nat} {T Tp : TypeId} (n : Nat) (hn : l.length = n) (hs : SumAt w b m) (hg : w.heap[g]? = some (.cells (u8s l).toArray T (0, 0))) (hbg : b < g) (Z : Obj)
include hn hs hg hbg
theorem parts3a : PartsAt (w.alloc (.cells #[.slice (some ⟨g, 0, none⟩) n n] Tp)) b (.slice (some ⟨w.heap.size, 0, none⟩) 1 1) [l] := by
  have := sum_lt hs
  exact part_at n hn (heap_alloc_new w _) ((heap_alloc_old w _ (lt_of_heap hg)).trans hg) (by omega) (by omega)
theorem parts3b : PartsAt ((w.alloc Z).alloc (.cells #[.slice (some ⟨g, 0, none⟩) n n] Tp)) b (.slice (some ⟨w.heap.size + 1, 0, none⟩) 1 1) [l] := by
  have := sum_lt hs
  have h := lt_of_heap hg
  exact part_at n hn (heap_alloc2_new w _ _) ((heap_alloc_old (w.alloc Z) _ (by simp; omega)).trans ((heap_alloc_old w _ h).trans hg)) (by omega) (by omega)
theorem parts3c : PartsAt ((w.alloc (.cells #[.slice (some ⟨g, 0, none⟩) n n] Tp)).alloc Z) b (.slice (some ⟨w.heap.size, 0, none⟩) 1 1) [l] := by
  have := sum_lt hs
  have h := lt_of_heap hg
  exact part_at n hn (heap_alloc2_old w _ _) ((heap_alloc_old (w.alloc _) _ (by simp; omega)).trans ((heap_alloc_old w _ h).trans hg)) (by omega) (by omega)
end
set_option maxRecDepth 100000 in
set_option maxHeartbeats 8000000 in
theorem code_any (ad : Option Addr) (n cap : Nat) (key : List Nat) (v : Value) (ps : List (List Nat)) (w : World) (hB : BytesIn w (.slice ad n cap) key) (h8 : ∀ x ∈ key, x < 256) (hn : n < 1000000) (hP : PartsIn w v ps) (hp8 : ∀ p ∈ ps, ∀ x ∈ p, x < 256) (hm : ps.flatten.length < 700000000) (hps : ps.length < 1000000) :
    Calls Tryd.prog 25 #[.slice ad n cap, v] w fun e w' => e = .returned (.agg (u8s (hmac key ps.flatten)).toArray) ∧ Below w.heap.size w w' := by
  have HB := Lib.hid hB
  have H8 := Lib.hid h8
  have HP := Lib.hid hP
  have HP8 := Lib.hid hp8
  have HM := Lib.hid hm
  have HPS := Lib.hid hps
  have HKL := Lib.hid (kblock_length key)
  have HK8 := Lib.hid (kblock_small h8)
  clear hB h8 hP hp8 hm hps
  go_enter Tryd.func25, Tryd.ntmps25
  go_upto_region 1 with (fail)
  have h1 : Free32 (w.alloc (.cells (u8s (pad 32 [])).toArray 55)) w.heap.size := free_new w
  have h3 : Below w.heap.size w (w.alloc (.cells (u8s (pad 32 [])).toArray 55)) := (Below.refl _ _).alloc (Nat.le_refl _) _
  change Code.wp _ _ _ _ (w.alloc (.cells (u8s (pad 32 [])).toArray 55))
  generalize w.alloc (.cells (u8s (pad 32 [])).toArray 55) = w1 at h1 h3
  have F1 := Lib.hid h1
  have B1 := Lib.hid h3
  clear h1 h3
  go_wp2_with fail
  refine (keyBlock_any ad n cap key _ (bytes_below HB.out B1.out) H8.out hn).mono ?_
  rintro e w2 ⟨rfl, hb2⟩
  have F2 := Lib.hid (free_below F1.out hb2)
  have B2 := Lib.hid (B1.out.trans (hb2.mono B1.out.size))
  clear hb2 F1 B1
  have HMK := Lib.hid (show hmac key ps.flatten = digest (xored (kblock key) 92 ++ digest (xored (kblock key) 54 ++ ps.flatten)) from rfl)
  generalize kblock key = l at HKL HK8 HMK
  have hll := HKL.out
  have hsz : (u8s l).toArray.size = 64 := by rw [List.size_toArray, u8s_length, hll]
  have HSZ := Lib.hid hsz
  clear hll hsz
  dsimp only
  rename_i hK
  refine hK _ _ ?_
  clear hK
  refine wpList_plain rfl (fun K hK => ?_)
  go_simp
  refine hK _ _ ?_
  clear hK K
  have hbk : (w2.alloc (.cells (u8s (pad 64 [])).toArray 70)).heap[w2.heap.size]? = some (.cells (u8s (pad 64 [])).toArray 70 (0, 0)) := heap_alloc_new w2 _
  have hbl := B2.out.alloc B2.out.size (.cells (u8s (pad 64 [])).toArray 70)
  have hfr := free_alloc F2.out (.cells (u8s (pad 64 [])).toArray 70)
  have hN : w.heap.size < w2.heap.size := lt_of_heap F2.out
  change wpList _ _ _ _ _ (w2.alloc (.cells (u8s (pad 64 [])).toArray 70))
  generalize w2.alloc (.cells (u8s (pad 64 [])).toArray 70) = w3 at hbk hbl hfr
  clear F2 B2
  generalize w2.heap.size = N at hbk hN
  refine wpList_store_mid rfl 70 _ _ rfl N 0 _ rfl rfl (there_of_block hbk 0 _ (by rw [HSZ.out]; decide)) (by rw [HSZ.out]; kernel_rfl) (u8s_cells _) ?_
  have hrow : (w3.setCells N 0 (u8s l).toArray.toList).heap[N]? = some (.cells (u8s l).toArray 70 (0, 0)) := by
    have := heap_setCells N 70 (0, 0) (u8s l) 0 w3 _ hbk (by rw [u8s_length, u8s_length, HKL.out]; decide)
    rw [this, Nat.zero_add, List.take_zero, List.nil_append, List.drop_of_length_le (by rw [u8s_length, u8s_length, HKL.out]; decide), List.append_nil]
  have R4 := Lib.hid hrow
  have B4 := Lib.hid (below_setCells N (Nat.le_of_lt hN) (u8s l).toArray.toList 0 _ hbl)
  have F4 := Lib.hid (free_grown hfr (gsetCells N (u8s l).toArray.toList 0 w3) (by omega))
  change wpList _ _ _ _ _ (w3.setCells N 0 (u8s l).toArray.toList)
  generalize w3.setCells N 0 (u8s l).toArray.toList = w4 at R4 B4 F4
  clear hbk hbl hfr hrow
  have hN4 : N < w4.heap.size := lt_of_heap R4.out
  have hu := Tryd.underlying70
  have hi : (Tryd.prog.info? 70).map (·.size) = some (u8s l).length := by rw [u8s_length, HKL.out]; kernel_rfl
  have HX54 := Lib.hid (xored_small (c := 54) HK8.out (by decide))
  have HXL := Lib.hid (show (xored l 54).length = 64 by rw [xored_length, HKL.out])
  have HF1 := Lib.hid (show [] ++ [xored l 54].flatten = xored l 54 by simp)
  have HDL := Lib.hid (digest_len (xored l 54 ++ ps.flatten))
  obtain ⟨D, hD⟩ : ∃ D, D = digest (xored l 54 ++ ps.flatten) := ⟨_, rfl⟩
  have HD := Lib.hid hD.symm
  have hDl : (u8s D).length = 32 := by rw [hD, u8s_length, HDL.out]
  have hDi : (Tryd.prog.info? 55).map (·.size) = some (u8s D).length := by rw [hDl]; kernel_rfl
  have hD1 : ∀ v ∈ u8s D, v.oneCell' = true := u8s_one D
  clear hD
  go_wp2_with fail
  go_region_held3 (fun w' => Below w4.heap.size w4 w' ∧ w'.rangeAt N 0 (u8s l))
      (first | exact startS R4.out | exact keepS hN4 (by assumption) hb | exact keepG hN4 (by assumption) hg hge4 | exact keepA hN4 _ (by assumption) | exact keepG hN4 (by assumption) (gsetCells _ _ 0 _) (by first | exact Nat.le_refl _ | (have h1 := sum_lt hsn; omega) | (have h1 := sum_lt hst; omega) | (have h1 := sum_lt hsa; omega) | (have h1 := sum_lt hss; omega) | (have h1 := sum_lt hss; have h2 := hb.size; omega)))
      (first
        | (go_at_call 32; refine (new_ex _).mono ?_; rintro e wn ⟨bn, rfl, hsn, hbn, hb⟩; have hge4 := Nat.le_trans (And.left (by assumption : Below w4.heap.size w4 _ ∧ World.rangeAt _ N 0 (u8s l))).size hbn; (first | have hf := free_below (free_new _) hb | have hf := free_below (free_drew (free_new _)) hb | skip))
        | (go_at_call 34; refine (turned8_ex l 54 _ HKL.out HK8.out (by decide)).mono ?_; rintro e wt ⟨g, rfl, hxg, hg0, hb⟩; (first | (have hgn : bn < g := Nat.lt_of_lt_of_le (sum_lt hsn) hg0; have hst := sum_below hsn hb) | (have hgn : bn < g := Nat.lt_of_lt_of_le (sum_lt (sum_alloc hsn _)) hg0; have hst := sum_below (sum_alloc hsn _) hb)); (first | have hf := free_below hf hb | have hf := free_below (free_new _) hb | skip))
        | (go_at_call 33; refine (add_any bn [] [xored l 54] _ _ (by first | exact sum_alloc hst _ | exact sum_alloc (sum_alloc hst _) _) (by first | exact parts3a 64 HXL.out hst hxg hgn | exact parts3b 64 HXL.out hst hxg hgn _ | exact parts3c 64 HXL.out hst hxg hgn _) (by simpa using HX54.out) (by simp [HXL.out]) (by simp)).mono ?_; rintro e wa ⟨rfl, hsa, hg⟩; rw [HF1.out] at hsa; (first | have hf := free_sum (free_alloc hf _) (sum_alloc hst _) hg | have hf := free_sum (free_alloc (free_new _) _) (sum_alloc (sum_alloc hst _) _) hg | have hf := free_sum (free_new2 _ _) (sum_alloc (sum_alloc hst _) _) hg | skip))
        | (go_at_call 33; refine (add_any bn (xored l 54) ps v _ (by first | exact hsa | exact sum_alloc hsa _) (parts_at HP.out (belowS B4.out (by assumption)) (Nat.le_trans B4.out.size hge4)) HP8.out (by have := HM.out; have := HXL.out; omega) HPS.out).mono ?_; rintro e ws ⟨rfl, hss, hg⟩; (first | have hf := free_sum hf hsa hg | have hf := free_sum (free_new _) (sum_alloc hsa _) hg | skip))
        | (go_at_call 35; refine (end_any bn (xored l 54 ++ ps.flatten) _ (by first | exact hss | exact sum_alloc hss _) (by rw [List.length_append, HXL.out]; have := HM.out; omega)).mono ?_; rintro e we ⟨rfl, hb⟩; rw [HD.out]; (first | (have hf := free_below hf hb; have hth := free_there hf) | (have hf := free_below (free_new _) hb; have hth := free_there hf) | have hth := free_there (free_new we))))
  all_goals
    have hS := (by assumption : Below w4.heap.size w4 _ ∧ World.rangeAt _ N 0 (u8s l))
    (first | have hq := bothS hS hDl hf | have hq := bothS hS hDl (free_new we))
    obtain ⟨wz, hwz, M, hdz, hM, hbz⟩ := hq
    rw [hwz]
    rw [← hM] at hdz ⊢
    clear hS hM
    have HDZ := Lib.hid hdz
    have HBZ := Lib.hid hbz
    clear hwz hdz hbz
    have hRZ := (HBZ.out.block N hN4).trans R4.out
    have hFZ := free_below F4.out HBZ.out
    have hNZ : N < wz.heap.size := Nat.lt_of_lt_of_le hN4 HBZ.out.size
    have HX92 := Lib.hid (xored_small (c := 92) HK8.out (by decide))
    have HXL2 := Lib.hid (show (xored l 92).length = 64 by rw [xored_length, HKL.out])
    have hDl2 : D.length = 32 := by rw [← HD.out, HDL.out]
    have HDL2 := Lib.hid hDl2
    have HD8 := Lib.hid (show ∀ x ∈ D, x < 256 by rw [← HD.out]; exact digest_small _)
    clear hDl2
    have HF2 := Lib.hid (show [xored l 92, D].flatten = xored l 92 ++ D by simp)
    obtain ⟨E, hE⟩ : ∃ E, E = digest (xored l 92 ++ D) := ⟨_, rfl⟩
    have HE := Lib.hid hE.symm
    have hEl : (u8s E).length = 32 := by rw [hE, u8s_length, digest_len]
    have hEi : (Tryd.prog.info? 55).map (·.size) = some (u8s E).length := by rw [hEl]; kernel_rfl
    have hE1 : ∀ v ∈ u8s E, v.oneCell' = true := u8s_one E
    have HHM := Lib.hid (show hmac key ps.flatten = E by rw [HMK.out, HD.out, hE])
    have hNH : N ≠ w.heap.size := by omega
    clear hE hDl hDi hD1
    go_wp2_with fail
    go_region_held3 (fun w' => wz.grownBy w' (some w.heap.size) ∧ w'.rangeAt N 0 (u8s l))
      (first | exact startG hRZ | exact keepGS hNZ (by assumption) hb | exact keepGA hNZ _ (by assumption) | exact keepGC hNH (by assumption))
      (first
        | (go_at_call 34; refine (turned8_ex l 92 _ HKL.out HK8.out (by decide)).mono ?_; rintro e wt ⟨g2, rfl, hxg, hg0, hb⟩; have hf2 := free_below (free_drew hFZ) hb; have hd2 := (hb.block M (lt_of_heap (w := wz.drew) HDZ.out)).trans HDZ.out)
        | (go_at_call 36; refine (of_any [xored l 92, D] _ _ (parts_laid_in (Below.refl _ wt) [.slice (some ⟨g2, 0, none⟩) 64 64, .slice (some ⟨M, 0, none⟩) 32 32] [xored l 92, D] rfl (fun | 0, _ => row_all hxg HXL2.out | 1, _ => row_all hd2 HDL2.out) _ rfl) (by simpa using ⟨HX92.out, HD8.out⟩) (by rw [HF2.out, List.length_append, HXL2.out, HDL2.out]; decide) (by simp)).mono ?_; rintro e wo ⟨rfl, hb⟩; rw [HF2.out, HE.out]; have hf3 := free_below (free_alloc hf2 _) hb; have hth := free_there hf3))
    have hfin := (by assumption : wz.grownBy _ (some w.heap.size) ∧ World.rangeAt _ N 0 (u8s l))
    have hres := put_d hEl hf3
    have HRES := Lib.hid hres
    have HBL := Lib.hid ((B4.out.trans (HBZ.out.mono B4.out.size)).grown hfin.1 (Nat.le_trans B4.out.size HBZ.out.size) (by intro k hk; injection hk with hk; omega))
    clear hres hfin hEi hE1
    generalize wo.setCells w.heap.size 0 (u8s E) = wy at HRES HBL ⊢
    go_wp2_with fail
    exact bodyPost_ret (v := .agg (u8s E).toArray) (results_cell_row rfl _ _ w.heap.size 55 _ (0, 0) _ rfl HRES.out Tryd.underlying55 rfl (by rw [List.size_toArray, hEl]; kernel_rfl)) rfl ⟨by rw [HHM.out], HBL.out⟩
end Sha
end Go.Proofs.YtdiidfkmmgcjmaaDoor
