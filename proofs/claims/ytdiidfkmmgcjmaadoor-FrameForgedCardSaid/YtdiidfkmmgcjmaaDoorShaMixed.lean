/- 'mixed' of package hash: a state behind the 64 rounds with a block's words. -/
import Derived.Test.YtdiidfkmmgcjmaaDoorShaWord
import Derived.Test.YtdiidfkmmgcjmaaDoorBunBase
import Derived.Deep.Cut
set_option maxRecDepth 100000
namespace Go.Proofs.YtdiidfkmmgcjmaaDoor
open Go.RowKit
namespace Sha

theorem index_u32 (T n : Nat) (hu : Tryd.prog.underlying T = some (.array n 93)) (l : List Nat) (hl : l.length = n) (k : Nat) (hk : k < n) (w : World) :
    (Instr.index T (.agg (u32s l).toArray) (.int .i64 (k : Int))).run Tryd.prog w = .ok (.int .u32 ((l.getD k 0 : Nat) : Int)) w := by
  have hs : ((sizeOf 93).run Tryd.prog w) = .ok 1 w := by kernel_rfl
  have hk' : k < l.length := by omega
  simp [Instr.index, asIntOf, run_underlying hu, hs, hk, part, u32s, hk']

/-- What lies behind k of the sums. -/
def addUpto (a b : List Nat) : Nat → List Nat
  | 0 => a
  | n + 1 => (addUpto a b n).set n ((a.getD n 0 + b.getD n 0) % 4294967296)
theorem addUpto_length (a b : List Nat) (n : Nat) : (addUpto a b n).length = a.length := by
  induction n with | zero => rfl | succ n ih => simp [addUpto, ih]
theorem addUpto_getD (a b : List Nat) (n j : Nat) (h : n ≤ j) : (addUpto a b n).getD j 0 = a.getD j 0 := by
  induction n with
  | zero => rfl
  | succ n ih => rw [addUpto, List.getD_eq_getElem?_getD, List.getElem?_set_ne (by omega), ← List.getD_eq_getElem?_getD]; exact ih (by omega)
theorem addUpto_plus (s t : St) : addUpto s.list t.list 8 = (plus s t).list := rfl

theorem compl32 {e : Nat} (h : e < 4294967296) : 4294967295 ^^^ e = 4294967295 - e := by
  apply Nat.eq_of_testBit_eq
  intro i
  have h1 : Nat.testBit 4294967295 i = decide (i < 32) := Nat.testBit_two_pow_sub_one 32 i
  have h2 : Nat.testBit (4294967295 - e) i = (decide (i < 32) && !e.testBit i) := by
    have := Nat.testBit_two_pow_sub_succ (n := 32) (x := e) h i
    rw [← this]; congr 1; omega
  rw [Nat.testBit_xor, h1, h2]
  by_cases hi : i < 32
  · simp [hi]
  · have : e.testBit i = false := Nat.testBit_lt_two_pow (Nat.lt_of_lt_of_le h (Nat.pow_le_pow_right (by decide) (Nat.le_of_not_lt hi) : 2 ^ 32 ≤ 2 ^ i))
    simp [hi, this]
theorem flat5 (a b c d e : Nat) : (((((a : Int) + b + c + d + e) % 4294967296 : Int)) = (((((a + b) % 4294967296 + c) % 4294967296 + d) % 4294967296 + e) % 4294967296 : Nat)) := by omega
theorem flat2 (a b : Nat) : (((a : Int) + b) % 4294967296 : Int) = ((a + b) % 4294967296 : Nat) := by omega
theorem ch_val {e f g : Nat} (he : e < 4294967296) (hf : f < 4294967296) (hg : g < 4294967296) :
    bits .xor .u32 (bits .and .u32 (e : Int) (f : Int)) (bits .and .u32 (bits .xor .u32 IntKind.u32.max (e : Int)) (g : Int)) = (((e &&& f) ^^^ ((4294967295 - e) &&& g) : Nat) : Int) := by
  have hm : IntKind.u32.max = ((4294967295 : Nat) : Int) := by decide
  have hc : 4294967295 - e < 4294967296 := by omega
  rw [hm, u32_xor_nat _ _ (by decide) he, compl32 he, u32_and_nat _ _ he hf, u32_and_nat _ _ hc hg, u32_xor_nat _ _ (and_lt _ he) (and_lt _ hc)]
theorem ma_val {a b c : Nat} (ha : a < 4294967296) (hb : b < 4294967296) (hc : c < 4294967296) :
    bits .xor .u32 (bits .xor .u32 (bits .and .u32 (a : Int) (b : Int)) (bits .and .u32 (a : Int) (c : Int))) (bits .and .u32 (b : Int) (c : Int)) = ((((a &&& b) ^^^ (a &&& c)) ^^^ (b &&& c) : Nat) : Int) := by
  rw [u32_and_nat _ _ ha hb, u32_and_nat _ _ ha hc, u32_and_nat _ _ hb hc, u32_xor_nat _ _ (and_lt _ ha) (and_lt _ ha), u32_xor_nat _ _ (xor_lt (and_lt _ ha) (and_lt _ ha)) (and_lt _ hb)]
theorem x_val {r1 r2 r3 r4 r5 r6 r7 r8 k x : Nat} (h5 : r5 < 4294967296) (h6 : r6 < 4294967296) (h7 : r7 < 4294967296) :
    ((r8 : Int) + (bsig1 r5 : Nat) + bits .xor .u32 (bits .and .u32 (r5 : Int) (r6 : Int)) (bits .and .u32 (bits .xor .u32 IntKind.u32.max (r5 : Int)) (r7 : Int)) + (k : Int) + (x : Int)) % 4294967296 = ((xOf ⟨r1, r2, r3, r4, r5, r6, r7, r8⟩ k x : Nat) : Int) := by
  rw [ch_val h5 h6 h7, flat5]; rfl
theorem y_val {r1 r2 r3 r4 r5 r6 r7 r8 : Nat} (h1 : r1 < 4294967296) (h2 : r2 < 4294967296) (h3 : r3 < 4294967296) :
    (((bsig0 r1 : Nat) : Int) + bits .xor .u32 (bits .xor .u32 (bits .and .u32 (r1 : Int) (r2 : Int)) (bits .and .u32 (r1 : Int) (r3 : Int))) (bits .and .u32 (r2 : Int) (r3 : Int))) % 4294967296 = ((yOf ⟨r1, r2, r3, r4, r5, r6, r7, r8⟩ : Nat) : Int) := by
  rw [ma_val h1 h2 h3, flat2]; rfl

/-- The memory of 'mixed': its state, its words, its result. -/
structure MMem (H : Nat) (l : List Nat) (w0 w : World) : Prop where
  st : w.heap[H]? = some (.cells (u32s l).toArray 94 (0, 0))
  res : w.heap[H + 2]? = some (.cells (u32s (pad 8 [])).toArray 94 (0, 0))
  old : Below H w0 w
theorem MMem.drewN {H : Nat} {l : List Nat} {w0 w : World} (h : MMem H l w0 w) (n : Nat) : MMem H l w0 (w.drewN n) :=
  ⟨h.st, h.res, ⟨h.old.os, h.old.tape, h.old.output, h.old.size, h.old.block⟩⟩
theorem lt_of_heap {w : World} {b : Nat} {o : Obj} (h : w.heap[b]? = some o) : b < w.heap.size := by
  rcases Nat.lt_or_ge b w.heap.size with h' | h'
  · exact h'
  · simp [h'] at h
theorem MMem.below {H : Nat} {l : List Nat} {w0 w w1 : World} (h : MMem H l w0 w) (hb : Below w.heap.size w w1) : MMem H l w0 w1 :=
  ⟨(hb.block _ (lt_of_heap h.st)).trans h.st, (hb.block _ (lt_of_heap h.res)).trans h.res, h.old.trans (hb.mono (Nat.le_of_lt (lt_of_heap h.st)))⟩

theorem MMem.set {H : Nat} {l : List Nat} {w0 w : World} (h : MMem H l w0 w) (j v : Nat) : MMem H (l.set j v) w0 (w.setCell ⟨H, j, none⟩ (.int .u32 (v : Int))) :=
  ⟨by rw [heap_setCell_same w H j _ _ _ h.st, u32s_set], (heap_setCell_other w _ _ _ (by simp)).trans h.res, h.old.setCell (Nat.le_refl _) _⟩

set_option maxRecDepth 100000 in
set_option maxHeartbeats 2000000 in
theorem mixed_any (s : St) (ws : List Nat) (w : World) (hs : s.Ok) (hl : ws.length = 64) (hw : ∀ x ∈ ws, x < 4294967296) :
    Calls Tryd.prog 48 #[.agg (u32s s.list).toArray, .agg (u32s ws).toArray] w fun e w' => e = .returned (.agg (u32s (mix s ws).list).toArray) ∧ Below w.heap.size w w' := by
  go_enter Tryd.func48, Tryd.ntmps48
  go_upto_region 1 with (fail)
  have M0 : MMem w.heap.size s.list w (((w.alloc (.cells (u32s s.list).toArray 94)).alloc (.cells (u32s ws).toArray 107)).alloc (.cells (u32s (pad 8 [])).toArray 94)) :=
    ⟨(heap_alloc3 w _ _ _).1, (heap_alloc3 w _ _ _).2.2, (((Below.refl _ _).alloc (Nat.le_refl _) _).alloc (by simp) _).alloc (by simp; omega) _⟩
  have W0 : (((w.alloc (.cells (u32s s.list).toArray 94)).alloc (.cells (u32s ws).toArray 107)).alloc (.cells (u32s (pad 8 [])).toArray 94)).heap[w.heap.size + 1]? = some (.cells (u32s ws).toArray 107 (0, 0)) := (heap_alloc3 w _ _ _).2.1
  change Code.wp _ _ _ _ (((w.alloc (.cells (u32s s.list).toArray 94)).alloc (.cells (u32s ws).toArray 107)).alloc (.cells (u32s (pad 8 [])).toArray 94))
  generalize (((w.alloc (.cells (u32s s.list).toArray 94)).alloc (.cells (u32s ws).toArray 107)).alloc (.cells (u32s (pad 8 [])).toArray 94)) = w1 at M0 W0
  have HM := Lib.hid M0
  have HW := Lib.hid W0
  have HA := Lib.hid hw
  have HL := Lib.hid hl
  clear M0 W0 hw hl
  have c0 : w1.cell? ⟨w.heap.size, 0, none⟩ = some (.int .u32 (s.a : Int)) := cell_of_row w1 w.heap.size 0 _ _ _ HM.out.st
  have c1 : w1.cell? ⟨w.heap.size, 1, none⟩ = some (.int .u32 (s.b : Int)) := cell_of_row w1 w.heap.size 1 _ _ _ HM.out.st
  have c2 : w1.cell? ⟨w.heap.size, 2, none⟩ = some (.int .u32 (s.c : Int)) := cell_of_row w1 w.heap.size 2 _ _ _ HM.out.st
  have c3 : w1.cell? ⟨w.heap.size, 3, none⟩ = some (.int .u32 (s.d : Int)) := cell_of_row w1 w.heap.size 3 _ _ _ HM.out.st
  have c4 : w1.cell? ⟨w.heap.size, 4, none⟩ = some (.int .u32 (s.e : Int)) := cell_of_row w1 w.heap.size 4 _ _ _ HM.out.st
  have c5 : w1.cell? ⟨w.heap.size, 5, none⟩ = some (.int .u32 (s.f : Int)) := cell_of_row w1 w.heap.size 5 _ _ _ HM.out.st
  have c6 : w1.cell? ⟨w.heap.size, 6, none⟩ = some (.int .u32 (s.g : Int)) := cell_of_row w1 w.heap.size 6 _ _ _ HM.out.st
  have c7 : w1.cell? ⟨w.heap.size, 7, none⟩ = some (.int .u32 (s.h : Int)) := cell_of_row w1 w.heap.size 7 _ _ _ HM.out.st
  go_quiet (fail)
  rename Nat => nq1
  go_upto_region 2 with (fail)
  go_quiet (fail)
  clear c0 c1 c2 c3 c4 c5 c6 c7
  go_upto_region 3 with (fail)
  have M2 := Lib.hid ((HM.out.drewN nq1).drewN nq)
  have W2 : ((w1.drewN nq1).drewN nq).heap[w.heap.size + 1]? = some (.cells (u32s ws).toArray 107 (0, 0)) := HW.out
  change Code.wp _ _ _ _ ((w1.drewN nq1).drewN nq)
  generalize ((w1.drewN nq1).drewN nq) = w2 at M2 W2
  have hsz : (u32s ws).toArray.size = 64 := by simp [u32s, HL.out]
  refine wp_region_lit ?_
  refine wpList_load_row rfl 107 _ rfl (w.heap.size + 1) rfl 107 _ _ _ W2 Tryd.underlying107 rfl (by rw [hsz]; kernel_rfl) ?_
  clear W2 hsz HM HW
  go_wp2_with fail
  go_loopw [5, 6, 7, 8, 9, 10, 11, 12, 36] (fun a b c d e f g h i wr => ∃ k : Nat, k ≤ 64 ∧ i = .int .i64 k ∧ a = .int .u32 ((run s ws k).a : Int) ∧ b = .int .u32 ((run s ws k).b : Int) ∧ c = .int .u32 ((run s ws k).c : Int) ∧ d = .int .u32 ((run s ws k).d : Int) ∧
      e = .int .u32 ((run s ws k).e : Int) ∧ f = .int .u32 ((run s ws k).f : Int) ∧ g = .int .u32 ((run s ws k).g : Int) ∧ h = .int .u32 ((run s ws k).h : Int) ∧ MMem w.heap.size s.list w wr) (fun _ _ _ _ _ _ _ _ i _ => 64 - (intOf i).toNat)
  case atStart => exact ⟨0, Nat.zero_le _, rfl, rfl, rfl, rfl, rfl, rfl, rfl, rfl, rfl, M2.out⟩
  case round =>
    obtain ⟨k, hk, rfl, rfl, rfl, rfl, rfl, rfl, rfl, rfl, rfl, hm⟩ := hrel
    by_cases hlt : k < 64
    · have HM := Lib.hid hm
      have hix := index_u32 107 64 Tryd.underlying107 ws HL.out k hlt wr
      have hw := getD_lt HA.out (by decide) k
      have hrk := getD_lt round_lt (by decide) k
      have o := run_ok hs ws k
      have HN := Lib.hid (show run s ws (k + 1) = rnd (run s ws k) (roundWords.getD k 0) (ws.getD k 0) from rfl)
      generalize run s ws k = r at HN o
      generalize ws.getD k 0 = x at hix hw HN
      obtain ⟨r1, r2, r3, r4, r5, r6, r7, r8⟩ := r
      obtain ⟨o1, o2, o3, o4, o5, o6, o7, o8⟩ := o
      clear hm
      simp only at o1 o2 o3 o4 o5 o6 o7 o8
      go_wp2_with fail
      refine (bsig1_any _ _ o5).mono ?_
      rintro e w3 ⟨rfl, n3, rfl⟩
      go_wp2_with fail
      refine (kword_any _ (by kernel_rfl) k hlt _).mono ?_
      rintro e w4 ⟨rfl, hb4⟩
      have M4 := Lib.hid ((HM.out.drewN n3).below hb4)
      clear hb4
      go_wp2_with fail
      refine (bsig0_any _ _ o1).mono ?_
      rintro e w5 ⟨rfl, n5, rfl⟩
      go_wp2_with fail
      go_roundw
      case rel =>
        refine ⟨k + 1, by omega, by go_num, ?_⟩
        rw [HN.out]
        have kd : roundWords[k]?.getD 0 = roundWords.getD k 0 := (List.getD_eq_getElem?_getD ..).symm
        rw [kd]
        simp only [x_val (r1 := r1) (r2 := r2) (r3 := r3) (r4 := r4) (r8 := r8) o5 o6 o7, y_val (r4 := r4) (r5 := r5) (r6 := r6) (r7 := r7) (r8 := r8) o1 o2 o3]
        exact ⟨by rw [flat2]; rfl, rfl, rfl, rfl, by rw [flat2]; rfl, rfl, rfl, rfl, M4.out.drewN _⟩
      case measure => simp [intOf]; omega
    · have HM := Lib.hid hm
      have e : k = 64 := by omega
      have o := run_ok hs ws k
      have HV := Lib.hid (show mix s ws = plus s (run s ws k) by rw [e]; rfl)
      have hge : 64 ≤ k := by omega
      clear hm hlt e
      generalize run s ws k = v at HV o
      obtain ⟨v1, v2, v3, v4, v5, v6, v7, v8⟩ := v
      have HO := Lib.hid o.all
      clear o
      go_wp2_with fail
      go_loopw [94] (fun i wr => ∃ j : Nat, j ≤ 8 ∧ i = .int .i64 j ∧ MMem w.heap.size (addUpto s.list [v1, v2, v3, v4, v5, v6, v7, v8] j) w wr) (fun i _ => 8 - (intOf i).toNat)
      case atStart => exact ⟨0, Nat.zero_le _, rfl, HM.out⟩
      case round =>
        obtain ⟨j, hj, rfl, hm⟩ := hrel
        by_cases hlt : j < 8
        · have hix : (Instr.index 94 (.agg #[.int .u32 (v1 : Int), .int .u32 (v2 : Int), .int .u32 (v3 : Int), .int .u32 (v4 : Int), .int .u32 (v5 : Int), .int .u32 (v6 : Int), .int .u32 (v7 : Int), .int .u32 (v8 : Int)]) (.int .i64 (j : Int))).run Tryd.prog wr = .ok (.int .u32 (([v1, v2, v3, v4, v5, v6, v7, v8].getD j 0 : Nat) : Int)) wr :=
            index_u32 94 8 Tryd.underlying94 [v1, v2, v3, v4, v5, v6, v7, v8] rfl j hlt wr
          have hc : wr.cell? ⟨w.heap.size, j, none⟩ = some (.int .u32 ((s.list.getD j 0 : Nat) : Int)) := by
            have := (cell_of_row wr w.heap.size j _ _ _ hm.st).trans (u32s_at (by rw [addUpto_length]; exact hlt))
            rwa [addUpto_getD _ _ _ _ (Nat.le_refl _)] at this
          have hf : wr.frozen? ⟨w.heap.size, j, none⟩ = false := frozen_of_row wr w.heap.size j _ _ hm.st
          have hxs := getD_lt hs.all (by decide) j
          have hxv := getD_lt HO.out (by decide) j
          have HS := Lib.hid (show addUpto s.list [v1, v2, v3, v4, v5, v6, v7, v8] (j + 1) = (addUpto s.list [v1, v2, v3, v4, v5, v6, v7, v8] j).set j ((s.list.getD j 0 + [v1, v2, v3, v4, v5, v6, v7, v8].getD j 0) % 4294967296) from rfl)
          have HN := Lib.hid hm
          simp only [St.list] at hxv
          generalize s.list.getD j 0 = x at hc hxs HS
          generalize [v1, v2, v3, v4, v5, v6, v7, v8].getD j 0 = y at hix hxv HS
          have hj0 : (0 : Int) ≤ (j : Int) := by omega
          have hj1 : (j : Int) < 8 := by omega
          clear hm
          go_wp2_with fail
          go_roundw
          case rel =>
            refine ⟨j + 1, by omega, by go_num, ?_⟩
            rw [HS.out]
            rw [flat2]
            exact HN.out.set j _
          case measure => simp [intOf]; omega
        · have e : j = 8 := by omega
          rw [e] at hm
          have HN := Lib.hid (show MMem w.heap.size (mix s ws).list w wr by rw [HV.out]; exact hm)
          have hge2 : 8 ≤ j := by omega
          clear hm hlt e
          go_upto_region 16 with (fail)
          have hrow := HN.out.st
          have hres := HN.out.res
          have hsz : (u32s (mix s ws).list).toArray.size = 8 := rfl
          have hth : wr.there (w.heap.size + 2) 0 (u32s (mix s ws).list).toArray.size := there_of_block hres 0 _ (by rw [hsz]; decide)
          have hend : ((wr.setCells (w.heap.size + 2) 0 (u32s (mix s ws).list).toArray.toList).heap[w.heap.size + 2]? = some (.cells (u32s (mix s ws).list).toArray 94 (0, 0))) := by
            have := heap_setCells (w.heap.size + 2) 94 (0, 0) (u32s (mix s ws).list) 0 wr _ hres (by rw [u32s_length, u32s_length, pad_length (by decide), St.list_length]; decide)
            rw [this]; rfl
          have HE := Lib.hid hend
          clear hend hres
          refine wp_region_lit ?_
          refine wpList_load_row rfl 94 _ rfl w.heap.size rfl 94 _ _ _ hrow Tryd.underlying94 rfl (by rw [hsz]; kernel_rfl) ?_
          refine wpList_store_mid rfl 94 _ _ rfl (w.heap.size + 2) 0 _ rfl rfl hth (by rw [hsz]; kernel_rfl) (u32s_cells _) ?_
          clear hrow hth
          have HB := Lib.hid (below_setCells (w.heap.size + 2) (by omega) (u32s (mix s ws).list).toArray.toList 0 _ HN.out.old)
          generalize wr.setCells (w.heap.size + 2) 0 (u32s (mix s ws).list).toArray.toList = wz at HE HB
          go_wp2_with fail
          exact bodyPost_ret (v := .agg (u32s (mix s ws).list).toArray) (results_cell_row rfl _ _ (w.heap.size + 2) 94 _ (0, 0) _ rfl HE.out Tryd.underlying94 rfl (by rw [hsz]; kernel_rfl)) rfl ⟨rfl, HB.out⟩
end Sha
end Go.Proofs.YtdiidfkmmgcjmaaDoor
