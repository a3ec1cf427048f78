/- Get of package order, way by way. Written by tools/gen_ord_get.py. -/
import Derived.Test.YtllpmgddcpgegaaOrdTake
import Derived.Test.YtllpmgddcpgegaaBytChars
namespace Go.Proofs.Ytllpmgddcpgegaa
open Go.RowKit Sha Cut Err Six Att Byt
namespace Ord
/-- How things stand within Get: the cursor, the result's block R, the order's block L. -/
structure GS (w a : World) (C g : Nat) (xs : List Nat) (at_ : Nat) (ev : Value) (R L : Nat) (cs : Array Value) : Prop where
  cur : Cur a C g xs at_ ev
  res : a.heap[R]? = some (.cells #[.int .i64 0, .slice none 0 0, .bool false, .bool false, .int .i64 0, .bool false, .int .i64 0, .int .u8 0] 26 (0, 0))
  ord : a.heap[L]? = some (.cells cs 26 (0, 0))
  old : w.grownBy a (some C)
  rl : R < L
  wr : w.heap.size ≤ R
  cr : C < w.heap.size
  gr : g < w.heap.size
theorem GS.call {w a b : World} {C g : Nat} {xs : List Nat} {at_ at' : Nat} {ev ev' : Value} {R L : Nat} {cs : Array Value} (s : GS w a C g xs at_ ev R L cs) (hu : Cur b C g xs at' ev') (hg : a.grownBy b (some C)) : GS w b C g xs at' ev' R L cs :=
  ⟨hu, blk_g s.res hg (by intro e; injection e with e; have := s.cr; have := s.wr; omega), blk_g s.ord hg (by intro e; injection e with e; have := s.cr; have := s.wr; have := s.rl; omega), gtrans s.old hg, s.rl, s.wr, s.cr, s.gr⟩
theorem GS.set {w a : World} {C g : Nat} {xs : List Nat} {at_ : Nat} {ev : Value} {R L : Nat} {cs : Array Value} (s : GS w a C g xs at_ ev R L cs) (i : Nat) (v : Value) : GS w (a.setCell ⟨L, i, none⟩ v) C g xs at_ ev R L (cs.setIfInBounds i v) := by
  have h1 := s.cr
  have h2 := s.wr
  have h3 := s.rl
  have h4 := s.gr
  have hg := gsetCell a L i v
  exact ⟨s.cur.other hg (by omega) (by omega), blk_g s.res hg (by intro e; injection e with e; omega), heap_setCell_same _ _ _ _ _ _ s.ord, gnew s.old hg (by omega), s.rl, s.wr, s.cr, s.gr⟩
theorem gs_start {w a : World} {C g : Nat} {xs : List Nat} {at_ : Nat} {ev : Value} (cs : Array Value) (hw : Cur w C g xs 0 .nilIface ∨ (C < w.heap.size ∧ g < w.heap.size)) (hu : Cur a C g xs at_ ev) (hg : (w.alloc (.cells #[.int .i64 0, .slice none 0 0, .bool false, .bool false, .int .i64 0, .bool false, .int .i64 0, .int .u8 0] 26)).grownBy a (some C)) :
    GS w (a.alloc (.cells cs 26)) C g xs at_ ev w.heap.size a.heap.size cs := by
  have hcg : C < w.heap.size ∧ g < w.heap.size := by
    rcases hw with h | h
    · exact ⟨h.clt, h.glt⟩
    · exact h
  have h1 := heap_alloc_new w (.cells #[.int .i64 0, .slice none 0 0, .bool false, .bool false, .int .i64 0, .bool false, .int .i64 0, .int .u8 0] 26)
  have h2 := blk_g h1 hg (by intro e; injection e with e; have := hcg.1; omega)
  exact ⟨hu.below (al_any _ _), blk h2 (al_any _ _), heap_alloc_new _ _, galloc (gtrans (gbelow (al_any _ _) _) hg) _, there_lt h2, Nat.le_refl _, hcg.1, hcg.2⟩
/-- The result is stored. -/
theorem GS.fin {w a : World} {C g : Nat} {xs : List Nat} {at_ : Nat} {ev : Value} {R L : Nat} {cs : Array Value} (s : GS w a C g xs at_ ev R L cs) (u0 u1 u2 u3 u4 u5 u6 u7 : Value) :
    ∃ b, b = ((((((((a.setCell ⟨R, 0, none⟩ u0).setCell ⟨R, 1, none⟩ u1).setCell ⟨R, 2, none⟩ u2).setCell ⟨R, 3, none⟩ u3).setCell ⟨R, 4, none⟩ u4).setCell ⟨R, 5, none⟩ u5).setCell ⟨R, 6, none⟩ u6).setCell ⟨R, 7, none⟩ u7) ∧
    b.heap[R]? = some (.cells #[u0, u1, u2, u3, u4, u5, u6, u7] 26 (0, 0)) ∧ Cur b C g xs at_ ev ∧ w.grownBy b (some C) ∧ a.grownBy b (some R) := by
  have h1 := s.cr
  have h2 := s.wr
  have h4 := s.gr
  obtain ⟨k, hg⟩ := over8 a R 26 _ _ _ _ _ _ _ _ u0 u1 u2 u3 u4 u5 u6 u7 s.res
  exact ⟨_, rfl, k, s.cur.other hg (by omega) (by omega), gnew s.old hg s.wr, hg⟩
theorem GS.met {w a b : World} {C g : Nat} {xs : List Nat} {at_ : Nat} {ev : Value} {R L : Nat} {cs : Array Value} (s : GS w a C g xs at_ ev R L cs) {e : Value} {c : Int} {n : Nat} (hm : Met a e c n) (hg : a.grownBy b (some R)) : Met b e c n :=
  hm.other hg (fun t x h => by rw [cell_of_row _ _ 1 _ _ _ s.res] at h; cases h)
theorem GS.metL {w a b : World} {C g : Nat} {xs : List Nat} {at_ : Nat} {ev : Value} {R L : Nat} {k0 : Int} {n0 c0 : Nat} {ad0 : Option Addr} {v2 v3 v4 v5 v6 v7 : Value} (s : GS w a C g xs at_ ev R L #[.int .i64 k0, .slice ad0 n0 c0, v2, v3, v4, v5, v6, v7]) {e : Value} {c : Int} {n : Nat} (hm : Met a e c n) (hg : a.grownBy b (some L)) : Met b e c n :=
  hm.other hg (fun t x h => by rw [cell_of_row _ _ 1 _ _ _ s.ord] at h; cases h)
set_option maxRecDepth 100000 in
set_option maxHeartbeats 4000000 in
theorem get_none {C g at_ : Nat} {xs : List Nat} (z : Int) (w : World) (h : Cur w C g xs at_ .nilIface) (hl : xs.length ≤ at_) :
    Calls Try.prog 13 #[.pointer (some ⟨C, 0, none⟩), .int .i64 z] w fun e w' => e = .returned (.agg #[.int .i64 0, .slice none 0 0, .bool false, .bool false, .int .i64 0, .bool false, .int .i64 0, .int .u8 0]) ∧ ∃ ev, Cur w' C g xs (at_) ev ∧ Met w' ev 2 (at_) ∧ w.grownBy w' (some C) := by
  have HA := al_any w (.cells #[.int .i64 0, .slice none 0 0, .bool false, .bool false, .int .i64 0, .bool false, .int .i64 0, .int .u8 0] 26)
  have HU := Lib.hid (h.below HA)
  have HCG := Lib.hid (show C < w.heap.size ∧ g < w.heap.size from ⟨h.clt, h.glt⟩)
  have HW := Lib.hid (rfl : w.alloc (.cells #[.int .i64 0, .slice none 0 0, .bool false, .bool false, .int .i64 0, .bool false, .int .i64 0, .int .u8 0] 26) = w.alloc (.cells #[.int .i64 0, .slice none 0 0, .bool false, .bool false, .int .i64 0, .bool false, .int .i64 0, .int .u8 0] 26))
  have HK := Lib.hid (takeKind_none _ HU.out hl)
  clear h HA HW
  go_enter Try.func13, Try.ntmps13
  go_wp2_with fail
  with_reducible refine HK.out.mono ?_
  rintro e w1 ⟨rfl, ev, hu, hm, hgr⟩
  obtain ⟨b, rfl, hm⟩ := hm
  have M := Lib.hid ((show Met w1 _ _ _ from ⟨b, rfl, hm⟩).below (al_any w1 (.cells #[.int .i64 0, .slice none 0 0, .bool false, .bool false, .int .i64 0, .bool false, .int .i64 0, .int .u8 0] 26)))
  have S := Lib.hid (gs_start #[.int .i64 0, .slice none 0 0, .bool false, .bool false, .int .i64 0, .bool false, .int .i64 0, .int .u8 0] (.inr HCG.out) hu hgr)
  clear hu hgr HK HU hm
  go_wp2_with fail
  generalize w1.heap.size = L at *
  generalize w1.alloc (.cells #[.int .i64 0, .slice none 0 0, .bool false, .bool false, .int .i64 0, .bool false, .int .i64 0, .int .u8 0] 26) = w2 at *
  with_reducible refine (err_any w2 S.out.cur).mono ?_
  rintro e wq ⟨rfl, rfl⟩
  obtain ⟨c0, c1, c2, c3, c4, c5, c6, c7⟩ := cells8 S.out.ord
  obtain ⟨e0, e1, e2, e3, e4, e5, e6, e7⟩ := free8 S.out.ord
  obtain ⟨d0, d1, d2, d3, d4, d5, d6, d7⟩ := cells8 S.out.res
  obtain ⟨f0, f1, f2, f3, f4, f5, f6, f7⟩ := free8 S.out.res
  have SF := Lib.hid (S.out.fin (.int .i64 0) (.slice none 0 0) (.bool false) (.bool false) (.int .i64 0) (.bool false) (.int .i64 0) (.int .u8 0))
  go_wp2_with fail
  clear c0 c1 c2 c3 c4 c5 c6 c7 e0 e1 e2 e3 e4 e5 e6 e7 d0 d1 d2 d3 d4 d5 d6 d7 f0 f1 f2 f3 f4 f5 f6 f7
  obtain ⟨wz, hz, s1, s2, s3, s4⟩ := SF.out
  rw [← hz]
  clear hz SF
  have S1 := Lib.hid s1
  clear s1
  refine bodyPost_ret (v := .agg #[.int .i64 0, .slice none 0 0, .bool false, .bool false, .int .i64 0, .bool false, .int .i64 0, .int .u8 0]) (results_cell_row rfl _ _ w.heap.size 26 _ (0, 0) _ rfl S1.out Try.underlying26 rfl (by kernel_rfl)) rfl ?_
  exact ⟨rfl, _, s2, S.out.met M.out s4, s3⟩
set_option maxRecDepth 100000 in
set_option maxHeartbeats 4000000 in
theorem get_strange {C g at_ : Nat} {xs : List Nat} (z : Int) (w : World) (h : Cur w C g xs at_ .nilIface) (h8 : ∀ x ∈ xs, x < 256) (hl : at_ < xs.length) (hk : kindB (xs.getD at_ 0) = 0) :
    Calls Try.prog 13 #[.pointer (some ⟨C, 0, none⟩), .int .i64 z] w fun e w' => e = .returned (.agg #[.int .i64 0, .slice none 0 0, .bool false, .bool false, .int .i64 0, .bool false, .int .i64 0, .int .u8 0]) ∧ ∃ ev, Cur w' C g xs (at_) ev ∧ Met w' ev 5 (at_) ∧ w.grownBy w' (some C) := by
  have HA := al_any w (.cells #[.int .i64 0, .slice none 0 0, .bool false, .bool false, .int .i64 0, .bool false, .int .i64 0, .int .u8 0] 26)
  have HU := Lib.hid (h.below HA)
  have HCG := Lib.hid (show C < w.heap.size ∧ g < w.heap.size from ⟨h.clt, h.glt⟩)
  have HW := Lib.hid (rfl : w.alloc (.cells #[.int .i64 0, .slice none 0 0, .bool false, .bool false, .int .i64 0, .bool false, .int .i64 0, .int .u8 0] 26) = w.alloc (.cells #[.int .i64 0, .slice none 0 0, .bool false, .bool false, .int .i64 0, .bool false, .int .i64 0, .int .u8 0] 26))
  have HK := Lib.hid (takeKind_bad _ HU.out hl (byte_lt h8 (by decide) at_) hk)
  clear h HA HW hk
  go_enter Try.func13, Try.ntmps13
  go_wp2_with fail
  with_reducible refine HK.out.mono ?_
  rintro e w1 ⟨rfl, ev, hu, hm, hgr⟩
  obtain ⟨b, rfl, hm⟩ := hm
  have M := Lib.hid ((show Met w1 _ _ _ from ⟨b, rfl, hm⟩).below (al_any w1 (.cells #[.int .i64 0, .slice none 0 0, .bool false, .bool false, .int .i64 0, .bool false, .int .i64 0, .int .u8 0] 26)))
  have S := Lib.hid (gs_start #[.int .i64 0, .slice none 0 0, .bool false, .bool false, .int .i64 0, .bool false, .int .i64 0, .int .u8 0] (.inr HCG.out) hu hgr)
  clear hu hgr HK HU hm
  go_wp2_with fail
  generalize w1.heap.size = L at *
  generalize w1.alloc (.cells #[.int .i64 0, .slice none 0 0, .bool false, .bool false, .int .i64 0, .bool false, .int .i64 0, .int .u8 0] 26) = w2 at *
  with_reducible refine (err_any w2 S.out.cur).mono ?_
  rintro e wq ⟨rfl, rfl⟩
  obtain ⟨c0, c1, c2, c3, c4, c5, c6, c7⟩ := cells8 S.out.ord
  obtain ⟨e0, e1, e2, e3, e4, e5, e6, e7⟩ := free8 S.out.ord
  obtain ⟨d0, d1, d2, d3, d4, d5, d6, d7⟩ := cells8 S.out.res
  obtain ⟨f0, f1, f2, f3, f4, f5, f6, f7⟩ := free8 S.out.res
  have SF := Lib.hid (S.out.fin (.int .i64 0) (.slice none 0 0) (.bool false) (.bool false) (.int .i64 0) (.bool false) (.int .i64 0) (.int .u8 0))
  go_wp2_with fail
  clear c0 c1 c2 c3 c4 c5 c6 c7 e0 e1 e2 e3 e4 e5 e6 e7 d0 d1 d2 d3 d4 d5 d6 d7 f0 f1 f2 f3 f4 f5 f6 f7
  obtain ⟨wz, hz, s1, s2, s3, s4⟩ := SF.out
  rw [← hz]
  clear hz SF
  have S1 := Lib.hid s1
  clear s1
  refine bodyPost_ret (v := .agg #[.int .i64 0, .slice none 0 0, .bool false, .bool false, .int .i64 0, .bool false, .int .i64 0, .int .u8 0]) (results_cell_row rfl _ _ w.heap.size 26 _ (0, 0) _ rfl S1.out Try.underlying26 rfl (by kernel_rfl)) rfl ?_
  exact ⟨rfl, _, s2, S.out.met M.out s4, s3⟩
set_option maxRecDepth 100000 in
set_option maxHeartbeats 4000000 in
theorem get_4 {C g at_ : Nat} {xs : List Nat} (z : Int) (w : World) (h : Cur w C g xs at_ .nilIface) (h8 : ∀ x ∈ xs, x < 256) (hx : xs.length < 1000000000) (hl : at_ < xs.length) (hk : kindB (xs.getD at_ 0) = 4) :
    Calls Try.prog 13 #[.pointer (some ⟨C, 0, none⟩), .int .i64 z] w fun e w' => e = .returned (.agg #[.int .i64 4, .slice none 0 0, .bool false, .bool false, .int .i64 0, .bool false, .int .i64 0, .int .u8 0]) ∧ Cur w' C g xs (at_ + 1) .nilIface ∧ w.grownBy w' (some C) := by
  have HA := al_any w (.cells #[.int .i64 0, .slice none 0 0, .bool false, .bool false, .int .i64 0, .bool false, .int .i64 0, .int .u8 0] 26)
  have HU := Lib.hid (h.below HA)
  have HCG := Lib.hid (show C < w.heap.size ∧ g < w.heap.size from ⟨h.clt, h.glt⟩)
  have HW := Lib.hid (rfl : w.alloc (.cells #[.int .i64 0, .slice none 0 0, .bool false, .bool false, .int .i64 0, .bool false, .int .i64 0, .int .u8 0] 26) = w.alloc (.cells #[.int .i64 0, .slice none 0 0, .bool false, .bool false, .int .i64 0, .bool false, .int .i64 0, .int .u8 0] 26))
  have HK := Lib.hid (takeKind_order _ HU.out hx 4 hl (byte_lt h8 (by decide) at_) hk (by decide))
  clear h HA HW hk
  go_enter Try.func13, Try.ntmps13
  go_wp2_with fail
  with_reducible refine HK.out.mono ?_
  rintro e w1 ⟨rfl, hu, hgr⟩
  have S := Lib.hid (gs_start #[.int .i64 4, .slice none 0 0, .bool false, .bool false, .int .i64 0, .bool false, .int .i64 0, .int .u8 0] (.inr HCG.out) hu hgr)
  clear hu hgr HK HU
  go_wp2_with fail
  generalize w1.heap.size = L at *
  generalize w1.alloc (.cells #[.int .i64 4, .slice none 0 0, .bool false, .bool false, .int .i64 0, .bool false, .int .i64 0, .int .u8 0] 26) = w2 at *
  with_reducible refine (err_any w2 S.out.cur).mono ?_
  rintro e wq ⟨rfl, rfl⟩
  obtain ⟨c0, c1, c2, c3, c4, c5, c6, c7⟩ := cells8 S.out.ord
  obtain ⟨e0, e1, e2, e3, e4, e5, e6, e7⟩ := free8 S.out.ord
  obtain ⟨d0, d1, d2, d3, d4, d5, d6, d7⟩ := cells8 S.out.res
  obtain ⟨f0, f1, f2, f3, f4, f5, f6, f7⟩ := free8 S.out.res
  have SF := Lib.hid (S.out.fin (.int .i64 4) (.slice none 0 0) (.bool false) (.bool false) (.int .i64 0) (.bool false) (.int .i64 0) (.int .u8 0))
  go_wp2_with fail
  clear c0 c1 c2 c3 c4 c5 c6 c7 e0 e1 e2 e3 e4 e5 e6 e7 d0 d1 d2 d3 d4 d5 d6 d7 f0 f1 f2 f3 f4 f5 f6 f7
  obtain ⟨wz, hz, s1, s2, s3, s4⟩ := SF.out
  rw [← hz]
  clear hz SF
  have S1 := Lib.hid s1
  clear s1
  refine bodyPost_ret (v := .agg #[.int .i64 4, .slice none 0 0, .bool false, .bool false, .int .i64 0, .bool false, .int .i64 0, .int .u8 0]) (results_cell_row rfl _ _ w.heap.size 26 _ (0, 0) _ rfl S1.out Try.underlying26 rfl (by kernel_rfl)) rfl ?_
  exact ⟨rfl, s2, s3⟩
set_option maxRecDepth 100000 in
set_option maxHeartbeats 4000000 in
theorem get_5 {C g at_ : Nat} {xs : List Nat} (z : Int) (w : World) (h : Cur w C g xs at_ .nilIface) (h8 : ∀ x ∈ xs, x < 256) (hx : xs.length < 1000000000) (hl : at_ < xs.length) (hk : kindB (xs.getD at_ 0) = 5) :
    Calls Try.prog 13 #[.pointer (some ⟨C, 0, none⟩), .int .i64 z] w fun e w' => e = .returned (.agg #[.int .i64 5, .slice none 0 0, .bool false, .bool false, .int .i64 0, .bool false, .int .i64 0, .int .u8 0]) ∧ Cur w' C g xs (at_ + 1) .nilIface ∧ w.grownBy w' (some C) := by
  have HA := al_any w (.cells #[.int .i64 0, .slice none 0 0, .bool false, .bool false, .int .i64 0, .bool false, .int .i64 0, .int .u8 0] 26)
  have HU := Lib.hid (h.below HA)
  have HCG := Lib.hid (show C < w.heap.size ∧ g < w.heap.size from ⟨h.clt, h.glt⟩)
  have HW := Lib.hid (rfl : w.alloc (.cells #[.int .i64 0, .slice none 0 0, .bool false, .bool false, .int .i64 0, .bool false, .int .i64 0, .int .u8 0] 26) = w.alloc (.cells #[.int .i64 0, .slice none 0 0, .bool false, .bool false, .int .i64 0, .bool false, .int .i64 0, .int .u8 0] 26))
  have HK := Lib.hid (takeKind_order _ HU.out hx 5 hl (byte_lt h8 (by decide) at_) hk (by decide))
  clear h HA HW hk
  go_enter Try.func13, Try.ntmps13
  go_wp2_with fail
  with_reducible refine HK.out.mono ?_
  rintro e w1 ⟨rfl, hu, hgr⟩
  have S := Lib.hid (gs_start #[.int .i64 5, .slice none 0 0, .bool false, .bool false, .int .i64 0, .bool false, .int .i64 0, .int .u8 0] (.inr HCG.out) hu hgr)
  clear hu hgr HK HU
  go_wp2_with fail
  generalize w1.heap.size = L at *
  generalize w1.alloc (.cells #[.int .i64 5, .slice none 0 0, .bool false, .bool false, .int .i64 0, .bool false, .int .i64 0, .int .u8 0] 26) = w2 at *
  with_reducible refine (err_any w2 S.out.cur).mono ?_
  rintro e wq ⟨rfl, rfl⟩
  obtain ⟨c0, c1, c2, c3, c4, c5, c6, c7⟩ := cells8 S.out.ord
  obtain ⟨e0, e1, e2, e3, e4, e5, e6, e7⟩ := free8 S.out.ord
  obtain ⟨d0, d1, d2, d3, d4, d5, d6, d7⟩ := cells8 S.out.res
  obtain ⟨f0, f1, f2, f3, f4, f5, f6, f7⟩ := free8 S.out.res
  have SF := Lib.hid (S.out.fin (.int .i64 5) (.slice none 0 0) (.bool false) (.bool false) (.int .i64 0) (.bool false) (.int .i64 0) (.int .u8 0))
  go_wp2_with fail
  clear c0 c1 c2 c3 c4 c5 c6 c7 e0 e1 e2 e3 e4 e5 e6 e7 d0 d1 d2 d3 d4 d5 d6 d7 f0 f1 f2 f3 f4 f5 f6 f7
  obtain ⟨wz, hz, s1, s2, s3, s4⟩ := SF.out
  rw [← hz]
  clear hz SF
  have S1 := Lib.hid s1
  clear s1
  refine bodyPost_ret (v := .agg #[.int .i64 5, .slice none 0 0, .bool false, .bool false, .int .i64 0, .bool false, .int .i64 0, .int .u8 0]) (results_cell_row rfl _ _ w.heap.size 26 _ (0, 0) _ rfl S1.out Try.underlying26 rfl (by kernel_rfl)) rfl ?_
  exact ⟨rfl, s2, s3⟩
set_option maxRecDepth 100000 in
set_option maxHeartbeats 4000000 in
theorem get_2 {C g at_ : Nat} {xs : List Nat} (z : Int) (w : World) (h : Cur w C g xs at_ .nilIface) (h8 : ∀ x ∈ xs, x < 256) (hx : xs.length < 1000000000) (hl : at_ < xs.length) (hk : kindB (xs.getD at_ 0) = 2) (hl2 : at_ + 1 < xs.length) (p n m : Bool) (s : Nat) (hs : s < 4) (hb : xs.getD (at_ + 1) 0 = put (num p n m s)) :
    Calls Try.prog 13 #[.pointer (some ⟨C, 0, none⟩), .int .i64 z] w fun e w' => e = .returned (.agg #[.int .i64 2, .slice none 0 0, .bool p, .bool n, .int .i64 (s : Int), .bool m, .int .i64 0, .int .u8 0]) ∧ Cur w' C g xs (at_ + 2) .nilIface ∧ w.grownBy w' (some C) := by
  have HA := al_any w (.cells #[.int .i64 0, .slice none 0 0, .bool false, .bool false, .int .i64 0, .bool false, .int .i64 0, .int .u8 0] 26)
  have HU := Lib.hid (h.below HA)
  have HCG := Lib.hid (show C < w.heap.size ∧ g < w.heap.size from ⟨h.clt, h.glt⟩)
  have HW := Lib.hid (rfl : w.alloc (.cells #[.int .i64 0, .slice none 0 0, .bool false, .bool false, .int .i64 0, .bool false, .int .i64 0, .int .u8 0] 26) = w.alloc (.cells #[.int .i64 0, .slice none 0 0, .bool false, .bool false, .int .i64 0, .bool false, .int .i64 0, .int .u8 0] 26))
  have HB := Lib.hid hb
  have HK := Lib.hid (takeKind_order _ HU.out hx 2 hl (byte_lt h8 (by decide) at_) hk (by decide))
  clear h HA HW hk hb
  go_enter Try.func13, Try.ntmps13
  go_wp2_with fail
  with_reducible refine HK.out.mono ?_
  rintro e w1 ⟨rfl, hu, hgr⟩
  have S := Lib.hid (gs_start #[.int .i64 2, .slice none 0 0, .bool false, .bool false, .int .i64 0, .bool false, .int .i64 0, .int .u8 0] (.inr HCG.out) hu hgr)
  clear hu hgr HK HU
  go_wp2_with fail
  generalize w1.heap.size = L at *
  generalize w1.alloc (.cells #[.int .i64 2, .slice none 0 0, .bool false, .bool false, .int .i64 0, .bool false, .int .i64 0, .int .u8 0] 26) = w2 at *
  with_reducible refine (takeAttr_ok w2 S.out.cur hx hl2 p n m s hs HB.out).mono ?_
  rintro e w3 ⟨rfl, hu, hgr⟩
  replace S := Lib.hid (S.out.call hu hgr)
  clear hu hgr
  obtain ⟨c0, c1, c2, c3, c4, c5, c6, c7⟩ := cells8 S.out.ord
  obtain ⟨e0, e1, e2, e3, e4, e5, e6, e7⟩ := free8 S.out.ord
  go_wp2_with fail
  clear c0 c1 c2 c3 c4 c5 c6 c7 e0 e1 e2 e3 e4 e5 e6 e7
  have G2 := gsetCell (w3) L 2 (.bool p)
  have G3 := gsetCell ((w3).setCell ⟨L, 2, none⟩ (.bool p)) L 3 (.bool n)
  have G4 := gsetCell (((w3).setCell ⟨L, 2, none⟩ (.bool p)).setCell ⟨L, 3, none⟩ (.bool n)) L 4 (.int .i64 (s : Int))
  have G5 := gsetCell ((((w3).setCell ⟨L, 2, none⟩ (.bool p)).setCell ⟨L, 3, none⟩ (.bool n)).setCell ⟨L, 4, none⟩ (.int .i64 (s : Int))) L 5 (.bool m)
  have GG := Lib.hid (gtrans G2 (gtrans G3 (gtrans G4 (G5))))
  clear G2 G3 G4 G5
  replace S := Lib.hid (show GS w (((((w3).setCell ⟨L, 2, none⟩ (.bool p)).setCell ⟨L, 3, none⟩ (.bool n)).setCell ⟨L, 4, none⟩ (.int .i64 (s : Int))).setCell ⟨L, 5, none⟩ (.bool m)) C g xs _ _ w.heap.size L #[.int .i64 2, .slice none 0 0, .bool p, .bool n, .int .i64 (s : Int), .bool m, .int .i64 0, .int .u8 0] from ((((S.out.set 2 (.bool p)).set 3 (.bool n)).set 4 (.int .i64 (s : Int))).set 5 (.bool m)))
  generalize ((((w3).setCell ⟨L, 2, none⟩ (.bool p)).setCell ⟨L, 3, none⟩ (.bool n)).setCell ⟨L, 4, none⟩ (.int .i64 (s : Int))).setCell ⟨L, 5, none⟩ (.bool m) = w4 at *
  clear GG
  with_reducible refine (err_any w4 S.out.cur).mono ?_
  rintro e wq ⟨rfl, rfl⟩
  obtain ⟨c0, c1, c2, c3, c4, c5, c6, c7⟩ := cells8 S.out.ord
  obtain ⟨e0, e1, e2, e3, e4, e5, e6, e7⟩ := free8 S.out.ord
  obtain ⟨d0, d1, d2, d3, d4, d5, d6, d7⟩ := cells8 S.out.res
  obtain ⟨f0, f1, f2, f3, f4, f5, f6, f7⟩ := free8 S.out.res
  have SF := Lib.hid (S.out.fin (.int .i64 2) (.slice none 0 0) (.bool p) (.bool n) (.int .i64 (s : Int)) (.bool m) (.int .i64 0) (.int .u8 0))
  go_wp2_with fail
  clear c0 c1 c2 c3 c4 c5 c6 c7 e0 e1 e2 e3 e4 e5 e6 e7 d0 d1 d2 d3 d4 d5 d6 d7 f0 f1 f2 f3 f4 f5 f6 f7
  obtain ⟨wz, hz, s1, s2, s3, s4⟩ := SF.out
  rw [← hz]
  clear hz SF
  have S1 := Lib.hid s1
  clear s1
  refine bodyPost_ret (v := .agg #[.int .i64 2, .slice none 0 0, .bool p, .bool n, .int .i64 (s : Int), .bool m, .int .i64 0, .int .u8 0]) (results_cell_row rfl _ _ w.heap.size 26 _ (0, 0) _ rfl S1.out Try.underlying26 rfl (by kernel_rfl)) rfl ?_
  exact ⟨rfl, s2, s3⟩
set_option maxRecDepth 100000 in
set_option maxHeartbeats 4000000 in
theorem get_2_bad {C g at_ : Nat} {xs : List Nat} (z : Int) (w : World) (h : Cur w C g xs at_ .nilIface) (h8 : ∀ x ∈ xs, x < 256) (hx : xs.length < 1000000000) (hl : at_ < xs.length) (hk : kindB (xs.getD at_ 0) = 2) (hl2 : at_ + 1 < xs.length) (hb : noAttr (xs.getD (at_ + 1) 0) = true) :
    Calls Try.prog 13 #[.pointer (some ⟨C, 0, none⟩), .int .i64 z] w fun e w' => e = .returned (.agg #[.int .i64 0, .slice none 0 0, .bool false, .bool false, .int .i64 0, .bool false, .int .i64 0, .int .u8 0]) ∧ ∃ ev, Cur w' C g xs (at_ + 1) ev ∧ Met w' ev 3 (at_ + 1) ∧ w.grownBy w' (some C) := by
  have HA := al_any w (.cells #[.int .i64 0, .slice none 0 0, .bool false, .bool false, .int .i64 0, .bool false, .int .i64 0, .int .u8 0] 26)
  have HU := Lib.hid (h.below HA)
  have HCG := Lib.hid (show C < w.heap.size ∧ g < w.heap.size from ⟨h.clt, h.glt⟩)
  have HW := Lib.hid (rfl : w.alloc (.cells #[.int .i64 0, .slice none 0 0, .bool false, .bool false, .int .i64 0, .bool false, .int .i64 0, .int .u8 0] 26) = w.alloc (.cells #[.int .i64 0, .slice none 0 0, .bool false, .bool false, .int .i64 0, .bool false, .int .i64 0, .int .u8 0] 26))
  have HB := Lib.hid hb
  have HB8 := Lib.hid (byte_lt h8 (by decide) (at_ + 1))
  have HK := Lib.hid (takeKind_order _ HU.out hx 2 hl (byte_lt h8 (by decide) at_) hk (by decide))
  clear h HA HW hk hb
  go_enter Try.func13, Try.ntmps13
  go_wp2_with fail
  with_reducible refine HK.out.mono ?_
  rintro e w1 ⟨rfl, hu, hgr⟩
  have S := Lib.hid (gs_start #[.int .i64 2, .slice none 0 0, .bool false, .bool false, .int .i64 0, .bool false, .int .i64 0, .int .u8 0] (.inr HCG.out) hu hgr)
  clear hu hgr HK HU
  go_wp2_with fail
  generalize w1.heap.size = L at *
  generalize w1.alloc (.cells #[.int .i64 2, .slice none 0 0, .bool false, .bool false, .int .i64 0, .bool false, .int .i64 0, .int .u8 0] 26) = w2 at *
  with_reducible refine (takeAttr_bad w2 S.out.cur hl2 HB8.out HB.out).mono ?_
  rintro e w3 ⟨rfl, ev, hu, hm, hgr⟩
  obtain ⟨b, rfl, hm⟩ := hm
  have M := Lib.hid (show Met w3 _ _ _ from ⟨b, rfl, hm⟩)
  replace S := Lib.hid (S.out.call hu hgr)
  clear hu hgr hm
  obtain ⟨c0, c1, c2, c3, c4, c5, c6, c7⟩ := cells8 S.out.ord
  obtain ⟨e0, e1, e2, e3, e4, e5, e6, e7⟩ := free8 S.out.ord
  go_wp2_with fail
  clear c0 c1 c2 c3 c4 c5 c6 c7 e0 e1 e2 e3 e4 e5 e6 e7
  have G2 := gsetCell (w3) L 2 (.bool false)
  have G3 := gsetCell ((w3).setCell ⟨L, 2, none⟩ (.bool false)) L 3 (.bool false)
  have G4 := gsetCell (((w3).setCell ⟨L, 2, none⟩ (.bool false)).setCell ⟨L, 3, none⟩ (.bool false)) L 4 (.int .i64 0)
  have G5 := gsetCell ((((w3).setCell ⟨L, 2, none⟩ (.bool false)).setCell ⟨L, 3, none⟩ (.bool false)).setCell ⟨L, 4, none⟩ (.int .i64 0)) L 5 (.bool false)
  have GG := Lib.hid (gtrans G2 (gtrans G3 (gtrans G4 (G5))))
  clear G2 G3 G4 G5
  replace M := Lib.hid (S.out.metL M.out GG.out)
  replace S := Lib.hid (show GS w (((((w3).setCell ⟨L, 2, none⟩ (.bool false)).setCell ⟨L, 3, none⟩ (.bool false)).setCell ⟨L, 4, none⟩ (.int .i64 0)).setCell ⟨L, 5, none⟩ (.bool false)) C g xs _ _ w.heap.size L #[.int .i64 2, .slice none 0 0, .bool false, .bool false, .int .i64 0, .bool false, .int .i64 0, .int .u8 0] from ((((S.out.set 2 (.bool false)).set 3 (.bool false)).set 4 (.int .i64 0)).set 5 (.bool false)))
  generalize ((((w3).setCell ⟨L, 2, none⟩ (.bool false)).setCell ⟨L, 3, none⟩ (.bool false)).setCell ⟨L, 4, none⟩ (.int .i64 0)).setCell ⟨L, 5, none⟩ (.bool false) = w4 at *
  clear GG
  with_reducible refine (err_any w4 S.out.cur).mono ?_
  rintro e wq ⟨rfl, rfl⟩
  obtain ⟨c0, c1, c2, c3, c4, c5, c6, c7⟩ := cells8 S.out.ord
  obtain ⟨e0, e1, e2, e3, e4, e5, e6, e7⟩ := free8 S.out.ord
  obtain ⟨d0, d1, d2, d3, d4, d5, d6, d7⟩ := cells8 S.out.res
  obtain ⟨f0, f1, f2, f3, f4, f5, f6, f7⟩ := free8 S.out.res
  have SF := Lib.hid (S.out.fin (.int .i64 0) (.slice none 0 0) (.bool false) (.bool false) (.int .i64 0) (.bool false) (.int .i64 0) (.int .u8 0))
  go_wp2_with fail
  clear c0 c1 c2 c3 c4 c5 c6 c7 e0 e1 e2 e3 e4 e5 e6 e7 d0 d1 d2 d3 d4 d5 d6 d7 f0 f1 f2 f3 f4 f5 f6 f7
  obtain ⟨wz, hz, s1, s2, s3, s4⟩ := SF.out
  rw [← hz]
  clear hz SF
  have S1 := Lib.hid s1
  clear s1
  refine bodyPost_ret (v := .agg #[.int .i64 0, .slice none 0 0, .bool false, .bool false, .int .i64 0, .bool false, .int .i64 0, .int .u8 0]) (results_cell_row rfl _ _ w.heap.size 26 _ (0, 0) _ rfl S1.out Try.underlying26 rfl (by kernel_rfl)) rfl ?_
  exact ⟨rfl, _, s2, S.out.met M.out s4, s3⟩
set_option maxRecDepth 100000 in
set_option maxHeartbeats 4000000 in
theorem get_2_none {C g at_ : Nat} {xs : List Nat} (z : Int) (w : World) (h : Cur w C g xs at_ .nilIface) (h8 : ∀ x ∈ xs, x < 256) (hx : xs.length < 1000000000) (hl : at_ < xs.length) (hk : kindB (xs.getD at_ 0) = 2) (hl2 : xs.length ≤ at_ + 1) :
    Calls Try.prog 13 #[.pointer (some ⟨C, 0, none⟩), .int .i64 z] w fun e w' => e = .returned (.agg #[.int .i64 0, .slice none 0 0, .bool false, .bool false, .int .i64 0, .bool false, .int .i64 0, .int .u8 0]) ∧ ∃ ev, Cur w' C g xs (at_ + 1) ev ∧ Met w' ev 2 (at_ + 1) ∧ w.grownBy w' (some C) := by
  have HA := al_any w (.cells #[.int .i64 0, .slice none 0 0, .bool false, .bool false, .int .i64 0, .bool false, .int .i64 0, .int .u8 0] 26)
  have HU := Lib.hid (h.below HA)
  have HCG := Lib.hid (show C < w.heap.size ∧ g < w.heap.size from ⟨h.clt, h.glt⟩)
  have HW := Lib.hid (rfl : w.alloc (.cells #[.int .i64 0, .slice none 0 0, .bool false, .bool false, .int .i64 0, .bool false, .int .i64 0, .int .u8 0] 26) = w.alloc (.cells #[.int .i64 0, .slice none 0 0, .bool false, .bool false, .int .i64 0, .bool false, .int .i64 0, .int .u8 0] 26))
  have HK := Lib.hid (takeKind_order _ HU.out hx 2 hl (byte_lt h8 (by decide) at_) hk (by decide))
  clear h HA HW hk
  go_enter Try.func13, Try.ntmps13
  go_wp2_with fail
  with_reducible refine HK.out.mono ?_
  rintro e w1 ⟨rfl, hu, hgr⟩
  have S := Lib.hid (gs_start #[.int .i64 2, .slice none 0 0, .bool false, .bool false, .int .i64 0, .bool false, .int .i64 0, .int .u8 0] (.inr HCG.out) hu hgr)
  clear hu hgr HK HU
  go_wp2_with fail
  generalize w1.heap.size = L at *
  generalize w1.alloc (.cells #[.int .i64 2, .slice none 0 0, .bool false, .bool false, .int .i64 0, .bool false, .int .i64 0, .int .u8 0] 26) = w2 at *
  with_reducible refine (takeAttr_none w2 S.out.cur hl2).mono ?_
  rintro e w3 ⟨rfl, ev, hu, hm, hgr⟩
  obtain ⟨b, rfl, hm⟩ := hm
  have M := Lib.hid (show Met w3 _ _ _ from ⟨b, rfl, hm⟩)
  replace S := Lib.hid (S.out.call hu hgr)
  clear hu hgr hm
  obtain ⟨c0, c1, c2, c3, c4, c5, c6, c7⟩ := cells8 S.out.ord
  obtain ⟨e0, e1, e2, e3, e4, e5, e6, e7⟩ := free8 S.out.ord
  go_wp2_with fail
  clear c0 c1 c2 c3 c4 c5 c6 c7 e0 e1 e2 e3 e4 e5 e6 e7
  have G2 := gsetCell (w3) L 2 (.bool false)
  have G3 := gsetCell ((w3).setCell ⟨L, 2, none⟩ (.bool false)) L 3 (.bool false)
  have G4 := gsetCell (((w3).setCell ⟨L, 2, none⟩ (.bool false)).setCell ⟨L, 3, none⟩ (.bool false)) L 4 (.int .i64 0)
  have G5 := gsetCell ((((w3).setCell ⟨L, 2, none⟩ (.bool false)).setCell ⟨L, 3, none⟩ (.bool false)).setCell ⟨L, 4, none⟩ (.int .i64 0)) L 5 (.bool false)
  have GG := Lib.hid (gtrans G2 (gtrans G3 (gtrans G4 (G5))))
  clear G2 G3 G4 G5
  replace M := Lib.hid (S.out.metL M.out GG.out)
  replace S := Lib.hid (show GS w (((((w3).setCell ⟨L, 2, none⟩ (.bool false)).setCell ⟨L, 3, none⟩ (.bool false)).setCell ⟨L, 4, none⟩ (.int .i64 0)).setCell ⟨L, 5, none⟩ (.bool false)) C g xs _ _ w.heap.size L #[.int .i64 2, .slice none 0 0, .bool false, .bool false, .int .i64 0, .bool false, .int .i64 0, .int .u8 0] from ((((S.out.set 2 (.bool false)).set 3 (.bool false)).set 4 (.int .i64 0)).set 5 (.bool false)))
  generalize ((((w3).setCell ⟨L, 2, none⟩ (.bool false)).setCell ⟨L, 3, none⟩ (.bool false)).setCell ⟨L, 4, none⟩ (.int .i64 0)).setCell ⟨L, 5, none⟩ (.bool false) = w4 at *
  clear GG
  with_reducible refine (err_any w4 S.out.cur).mono ?_
  rintro e wq ⟨rfl, rfl⟩
  obtain ⟨c0, c1, c2, c3, c4, c5, c6, c7⟩ := cells8 S.out.ord
  obtain ⟨e0, e1, e2, e3, e4, e5, e6, e7⟩ := free8 S.out.ord
  obtain ⟨d0, d1, d2, d3, d4, d5, d6, d7⟩ := cells8 S.out.res
  obtain ⟨f0, f1, f2, f3, f4, f5, f6, f7⟩ := free8 S.out.res
  have SF := Lib.hid (S.out.fin (.int .i64 0) (.slice none 0 0) (.bool false) (.bool false) (.int .i64 0) (.bool false) (.int .i64 0) (.int .u8 0))
  go_wp2_with fail
  clear c0 c1 c2 c3 c4 c5 c6 c7 e0 e1 e2 e3 e4 e5 e6 e7 d0 d1 d2 d3 d4 d5 d6 d7 f0 f1 f2 f3 f4 f5 f6 f7
  obtain ⟨wz, hz, s1, s2, s3, s4⟩ := SF.out
  rw [← hz]
  clear hz SF
  have S1 := Lib.hid s1
  clear s1
  refine bodyPost_ret (v := .agg #[.int .i64 0, .slice none 0 0, .bool false, .bool false, .int .i64 0, .bool false, .int .i64 0, .int .u8 0]) (results_cell_row rfl _ _ w.heap.size 26 _ (0, 0) _ rfl S1.out Try.underlying26 rfl (by kernel_rfl)) rfl ?_
  exact ⟨rfl, _, s2, S.out.met M.out s4, s3⟩
set_option maxRecDepth 100000 in
set_option maxHeartbeats 4000000 in
theorem get_3 {C g at_ : Nat} {xs : List Nat} (z : Int) (w : World) (h : Cur w C g xs at_ .nilIface) (h8 : ∀ x ∈ xs, x < 256) (hx : xs.length < 1000000000) (hl : at_ < xs.length) (hk : kindB (xs.getD at_ 0) = 3) (hw : (Adr.aspec (xs.drop (at_ + 1)) z).2.1 = 0) :
    Calls Try.prog 13 #[.pointer (some ⟨C, 0, none⟩), .int .i64 z] w fun e w' => e = .returned (.agg #[.int .i64 3, .slice none 0 0, .bool false, .bool false, .int .i64 0, .bool false, .int .i64 ((Adr.aspec (xs.drop (at_ + 1)) z).1 : Int), .int .u8 0]) ∧ Cur w' C g xs (at_ + 3) .nilIface ∧ w.grownBy w' (some C) := by
  have HA := al_any w (.cells #[.int .i64 0, .slice none 0 0, .bool false, .bool false, .int .i64 0, .bool false, .int .i64 0, .int .u8 0] 26)
  have HU := Lib.hid (h.below HA)
  have HCG := Lib.hid (show C < w.heap.size ∧ g < w.heap.size from ⟨h.clt, h.glt⟩)
  have HW := Lib.hid (rfl : w.alloc (.cells #[.int .i64 0, .slice none 0 0, .bool false, .bool false, .int .i64 0, .bool false, .int .i64 0, .int .u8 0] 26) = w.alloc (.cells #[.int .i64 0, .slice none 0 0, .bool false, .bool false, .int .i64 0, .bool false, .int .i64 0, .int .u8 0] 26))
  have HWA := Lib.hid hw
  have HK := Lib.hid (takeKind_order _ HU.out hx 3 hl (byte_lt h8 (by decide) at_) hk (by decide))
  clear h HA HW hk hw
  go_enter Try.func13, Try.ntmps13
  go_wp2_with fail
  with_reducible refine HK.out.mono ?_
  rintro e w1 ⟨rfl, hu, hgr⟩
  have S := Lib.hid (gs_start #[.int .i64 3, .slice none 0 0, .bool false, .bool false, .int .i64 0, .bool false, .int .i64 0, .int .u8 0] (.inr HCG.out) hu hgr)
  clear hu hgr HK HU
  go_wp2_with fail
  generalize w1.heap.size = L at *
  generalize w1.alloc (.cells #[.int .i64 3, .slice none 0 0, .bool false, .bool false, .int .i64 0, .bool false, .int .i64 0, .int .u8 0] 26) = w2 at *
  with_reducible refine (addr_ok z w2 S.out.cur h8 hx HWA.out).mono ?_
  rintro e w3 ⟨rfl, hu, hgr⟩
  replace S := Lib.hid (S.out.call hu hgr)
  clear hu hgr
  obtain ⟨c0, c1, c2, c3, c4, c5, c6, c7⟩ := cells8 S.out.ord
  obtain ⟨e0, e1, e2, e3, e4, e5, e6, e7⟩ := free8 S.out.ord
  go_wp2_with fail
  clear c0 c1 c2 c3 c4 c5 c6 c7 e0 e1 e2 e3 e4 e5 e6 e7
  have G6 := gsetCell (w3) L 6 (.int .i64 ((Adr.aspec (xs.drop (at_ + 1)) z).1 : Int))
  have GG := Lib.hid (G6)
  clear G6
  replace S := Lib.hid (show GS w ((w3).setCell ⟨L, 6, none⟩ (.int .i64 ((Adr.aspec (xs.drop (at_ + 1)) z).1 : Int))) C g xs _ _ w.heap.size L #[.int .i64 3, .slice none 0 0, .bool false, .bool false, .int .i64 0, .bool false, .int .i64 ((Adr.aspec (xs.drop (at_ + 1)) z).1 : Int), .int .u8 0] from (S.out.set 6 (.int .i64 ((Adr.aspec (xs.drop (at_ + 1)) z).1 : Int))))
  generalize (w3).setCell ⟨L, 6, none⟩ (.int .i64 ((Adr.aspec (xs.drop (at_ + 1)) z).1 : Int)) = w4 at *
  clear GG
  with_reducible refine (err_any w4 S.out.cur).mono ?_
  rintro e wq ⟨rfl, rfl⟩
  obtain ⟨c0, c1, c2, c3, c4, c5, c6, c7⟩ := cells8 S.out.ord
  obtain ⟨e0, e1, e2, e3, e4, e5, e6, e7⟩ := free8 S.out.ord
  obtain ⟨d0, d1, d2, d3, d4, d5, d6, d7⟩ := cells8 S.out.res
  obtain ⟨f0, f1, f2, f3, f4, f5, f6, f7⟩ := free8 S.out.res
  have SF := Lib.hid (S.out.fin (.int .i64 3) (.slice none 0 0) (.bool false) (.bool false) (.int .i64 0) (.bool false) (.int .i64 ((Adr.aspec (xs.drop (at_ + 1)) z).1 : Int)) (.int .u8 0))
  go_wp2_with fail
  clear c0 c1 c2 c3 c4 c5 c6 c7 e0 e1 e2 e3 e4 e5 e6 e7 d0 d1 d2 d3 d4 d5 d6 d7 f0 f1 f2 f3 f4 f5 f6 f7
  obtain ⟨wz, hz, s1, s2, s3, s4⟩ := SF.out
  rw [← hz]
  clear hz SF
  have S1 := Lib.hid s1
  clear s1
  refine bodyPost_ret (v := .agg #[.int .i64 3, .slice none 0 0, .bool false, .bool false, .int .i64 0, .bool false, .int .i64 ((Adr.aspec (xs.drop (at_ + 1)) z).1 : Int), .int .u8 0]) (results_cell_row rfl _ _ w.heap.size 26 _ (0, 0) _ rfl S1.out Try.underlying26 rfl (by kernel_rfl)) rfl ?_
  exact ⟨rfl, s2, s3⟩
set_option maxRecDepth 100000 in
set_option maxHeartbeats 4000000 in
theorem get_3_bad {C g at_ : Nat} {xs : List Nat} (z : Int) (w : World) (h : Cur w C g xs at_ .nilIface) (h8 : ∀ x ∈ xs, x < 256) (hx : xs.length < 1000000000) (hl : at_ < xs.length) (hk : kindB (xs.getD at_ 0) = 3) (hw : (Adr.aspec (xs.drop (at_ + 1)) z).2.1 ≠ 0) :
    Calls Try.prog 13 #[.pointer (some ⟨C, 0, none⟩), .int .i64 z] w fun e w' => e = .returned (.agg #[.int .i64 0, .slice none 0 0, .bool false, .bool false, .int .i64 0, .bool false, .int .i64 0, .int .u8 0]) ∧ ∃ ev, Cur w' C g xs (at_ + 1) ev ∧ Met w' ev ((Adr.aspec (xs.drop (at_ + 1)) z).2.1 : Int) (at_ + 1) ∧ w.grownBy w' (some C) := by
  have HA := al_any w (.cells #[.int .i64 0, .slice none 0 0, .bool false, .bool false, .int .i64 0, .bool false, .int .i64 0, .int .u8 0] 26)
  have HU := Lib.hid (h.below HA)
  have HCG := Lib.hid (show C < w.heap.size ∧ g < w.heap.size from ⟨h.clt, h.glt⟩)
  have HW := Lib.hid (rfl : w.alloc (.cells #[.int .i64 0, .slice none 0 0, .bool false, .bool false, .int .i64 0, .bool false, .int .i64 0, .int .u8 0] 26) = w.alloc (.cells #[.int .i64 0, .slice none 0 0, .bool false, .bool false, .int .i64 0, .bool false, .int .i64 0, .int .u8 0] 26))
  have HWA := Lib.hid hw
  have HK := Lib.hid (takeKind_order _ HU.out hx 3 hl (byte_lt h8 (by decide) at_) hk (by decide))
  clear h HA HW hk hw
  go_enter Try.func13, Try.ntmps13
  go_wp2_with fail
  with_reducible refine HK.out.mono ?_
  rintro e w1 ⟨rfl, hu, hgr⟩
  have S := Lib.hid (gs_start #[.int .i64 3, .slice none 0 0, .bool false, .bool false, .int .i64 0, .bool false, .int .i64 0, .int .u8 0] (.inr HCG.out) hu hgr)
  clear hu hgr HK HU
  go_wp2_with fail
  generalize w1.heap.size = L at *
  generalize w1.alloc (.cells #[.int .i64 3, .slice none 0 0, .bool false, .bool false, .int .i64 0, .bool false, .int .i64 0, .int .u8 0] 26) = w2 at *
  with_reducible refine (addr_bad z w2 S.out.cur h8 HWA.out).mono ?_
  rintro e w3 ⟨rfl, ev, hu, hm, hgr⟩
  obtain ⟨b, rfl, hm⟩ := hm
  have M := Lib.hid (show Met w3 _ _ _ from ⟨b, rfl, hm⟩)
  replace S := Lib.hid (S.out.call hu hgr)
  clear hu hgr hm
  obtain ⟨c0, c1, c2, c3, c4, c5, c6, c7⟩ := cells8 S.out.ord
  obtain ⟨e0, e1, e2, e3, e4, e5, e6, e7⟩ := free8 S.out.ord
  go_wp2_with fail
  clear c0 c1 c2 c3 c4 c5 c6 c7 e0 e1 e2 e3 e4 e5 e6 e7
  have G6 := gsetCell (w3) L 6 (.int .i64 0)
  have GG := Lib.hid (G6)
  clear G6
  replace M := Lib.hid (S.out.metL M.out GG.out)
  replace S := Lib.hid (show GS w ((w3).setCell ⟨L, 6, none⟩ (.int .i64 0)) C g xs _ _ w.heap.size L #[.int .i64 3, .slice none 0 0, .bool false, .bool false, .int .i64 0, .bool false, .int .i64 0, .int .u8 0] from (S.out.set 6 (.int .i64 0)))
  generalize (w3).setCell ⟨L, 6, none⟩ (.int .i64 0) = w4 at *
  clear GG
  with_reducible refine (err_any w4 S.out.cur).mono ?_
  rintro e wq ⟨rfl, rfl⟩
  obtain ⟨c0, c1, c2, c3, c4, c5, c6, c7⟩ := cells8 S.out.ord
  obtain ⟨e0, e1, e2, e3, e4, e5, e6, e7⟩ := free8 S.out.ord
  obtain ⟨d0, d1, d2, d3, d4, d5, d6, d7⟩ := cells8 S.out.res
  obtain ⟨f0, f1, f2, f3, f4, f5, f6, f7⟩ := free8 S.out.res
  have SF := Lib.hid (S.out.fin (.int .i64 0) (.slice none 0 0) (.bool false) (.bool false) (.int .i64 0) (.bool false) (.int .i64 0) (.int .u8 0))
  go_wp2_with fail
  clear c0 c1 c2 c3 c4 c5 c6 c7 e0 e1 e2 e3 e4 e5 e6 e7 d0 d1 d2 d3 d4 d5 d6 d7 f0 f1 f2 f3 f4 f5 f6 f7
  obtain ⟨wz, hz, s1, s2, s3, s4⟩ := SF.out
  rw [← hz]
  clear hz SF
  have S1 := Lib.hid s1
  clear s1
  refine bodyPost_ret (v := .agg #[.int .i64 0, .slice none 0 0, .bool false, .bool false, .int .i64 0, .bool false, .int .i64 0, .int .u8 0]) (results_cell_row rfl _ _ w.heap.size 26 _ (0, 0) _ rfl S1.out Try.underlying26 rfl (by kernel_rfl)) rfl ?_
  exact ⟨rfl, _, s2, S.out.met M.out s4, s3⟩
set_option maxRecDepth 100000 in
set_option maxHeartbeats 4000000 in
theorem get_7 {C g at_ : Nat} {xs : List Nat} (z : Int) (w : World) (h : Cur w C g xs at_ .nilIface) (h8 : ∀ x ∈ xs, x < 256) (hx : xs.length < 1000000000) (hl : at_ < xs.length) (hk : kindB (xs.getD at_ 0) = 7) (hw : (Adr.aspec (xs.drop (at_ + 1)) z).2.1 = 0) :
    Calls Try.prog 13 #[.pointer (some ⟨C, 0, none⟩), .int .i64 z] w fun e w' => e = .returned (.agg #[.int .i64 7, .slice none 0 0, .bool false, .bool false, .int .i64 0, .bool false, .int .i64 ((Adr.aspec (xs.drop (at_ + 1)) z).1 : Int), .int .u8 0]) ∧ Cur w' C g xs (at_ + 3) .nilIface ∧ w.grownBy w' (some C) := by
  have HA := al_any w (.cells #[.int .i64 0, .slice none 0 0, .bool false, .bool false, .int .i64 0, .bool false, .int .i64 0, .int .u8 0] 26)
  have HU := Lib.hid (h.below HA)
  have HCG := Lib.hid (show C < w.heap.size ∧ g < w.heap.size from ⟨h.clt, h.glt⟩)
  have HW := Lib.hid (rfl : w.alloc (.cells #[.int .i64 0, .slice none 0 0, .bool false, .bool false, .int .i64 0, .bool false, .int .i64 0, .int .u8 0] 26) = w.alloc (.cells #[.int .i64 0, .slice none 0 0, .bool false, .bool false, .int .i64 0, .bool false, .int .i64 0, .int .u8 0] 26))
  have HWA := Lib.hid hw
  have HK := Lib.hid (takeKind_order _ HU.out hx 7 hl (byte_lt h8 (by decide) at_) hk (by decide))
  clear h HA HW hk hw
  go_enter Try.func13, Try.ntmps13
  go_wp2_with fail
  with_reducible refine HK.out.mono ?_
  rintro e w1 ⟨rfl, hu, hgr⟩
  have S := Lib.hid (gs_start #[.int .i64 7, .slice none 0 0, .bool false, .bool false, .int .i64 0, .bool false, .int .i64 0, .int .u8 0] (.inr HCG.out) hu hgr)
  clear hu hgr HK HU
  go_wp2_with fail
  generalize w1.heap.size = L at *
  generalize w1.alloc (.cells #[.int .i64 7, .slice none 0 0, .bool false, .bool false, .int .i64 0, .bool false, .int .i64 0, .int .u8 0] 26) = w2 at *
  with_reducible refine (addr_ok z w2 S.out.cur h8 hx HWA.out).mono ?_
  rintro e w3 ⟨rfl, hu, hgr⟩
  replace S := Lib.hid (S.out.call hu hgr)
  clear hu hgr
  obtain ⟨c0, c1, c2, c3, c4, c5, c6, c7⟩ := cells8 S.out.ord
  obtain ⟨e0, e1, e2, e3, e4, e5, e6, e7⟩ := free8 S.out.ord
  go_wp2_with fail
  clear c0 c1 c2 c3 c4 c5 c6 c7 e0 e1 e2 e3 e4 e5 e6 e7
  have G6 := gsetCell (w3) L 6 (.int .i64 ((Adr.aspec (xs.drop (at_ + 1)) z).1 : Int))
  have GG := Lib.hid (G6)
  clear G6
  replace S := Lib.hid (show GS w ((w3).setCell ⟨L, 6, none⟩ (.int .i64 ((Adr.aspec (xs.drop (at_ + 1)) z).1 : Int))) C g xs _ _ w.heap.size L #[.int .i64 7, .slice none 0 0, .bool false, .bool false, .int .i64 0, .bool false, .int .i64 ((Adr.aspec (xs.drop (at_ + 1)) z).1 : Int), .int .u8 0] from (S.out.set 6 (.int .i64 ((Adr.aspec (xs.drop (at_ + 1)) z).1 : Int))))
  generalize (w3).setCell ⟨L, 6, none⟩ (.int .i64 ((Adr.aspec (xs.drop (at_ + 1)) z).1 : Int)) = w4 at *
  clear GG
  with_reducible refine (err_any w4 S.out.cur).mono ?_
  rintro e wq ⟨rfl, rfl⟩
  obtain ⟨c0, c1, c2, c3, c4, c5, c6, c7⟩ := cells8 S.out.ord
  obtain ⟨e0, e1, e2, e3, e4, e5, e6, e7⟩ := free8 S.out.ord
  obtain ⟨d0, d1, d2, d3, d4, d5, d6, d7⟩ := cells8 S.out.res
  obtain ⟨f0, f1, f2, f3, f4, f5, f6, f7⟩ := free8 S.out.res
  have SF := Lib.hid (S.out.fin (.int .i64 7) (.slice none 0 0) (.bool false) (.bool false) (.int .i64 0) (.bool false) (.int .i64 ((Adr.aspec (xs.drop (at_ + 1)) z).1 : Int)) (.int .u8 0))
  go_wp2_with fail
  clear c0 c1 c2 c3 c4 c5 c6 c7 e0 e1 e2 e3 e4 e5 e6 e7 d0 d1 d2 d3 d4 d5 d6 d7 f0 f1 f2 f3 f4 f5 f6 f7
  obtain ⟨wz, hz, s1, s2, s3, s4⟩ := SF.out
  rw [← hz]
  clear hz SF
  have S1 := Lib.hid s1
  clear s1
  refine bodyPost_ret (v := .agg #[.int .i64 7, .slice none 0 0, .bool false, .bool false, .int .i64 0, .bool false, .int .i64 ((Adr.aspec (xs.drop (at_ + 1)) z).1 : Int), .int .u8 0]) (results_cell_row rfl _ _ w.heap.size 26 _ (0, 0) _ rfl S1.out Try.underlying26 rfl (by kernel_rfl)) rfl ?_
  exact ⟨rfl, s2, s3⟩
set_option maxRecDepth 100000 in
set_option maxHeartbeats 4000000 in
theorem get_7_bad {C g at_ : Nat} {xs : List Nat} (z : Int) (w : World) (h : Cur w C g xs at_ .nilIface) (h8 : ∀ x ∈ xs, x < 256) (hx : xs.length < 1000000000) (hl : at_ < xs.length) (hk : kindB (xs.getD at_ 0) = 7) (hw : (Adr.aspec (xs.drop (at_ + 1)) z).2.1 ≠ 0) :
    Calls Try.prog 13 #[.pointer (some ⟨C, 0, none⟩), .int .i64 z] w fun e w' => e = .returned (.agg #[.int .i64 0, .slice none 0 0, .bool false, .bool false, .int .i64 0, .bool false, .int .i64 0, .int .u8 0]) ∧ ∃ ev, Cur w' C g xs (at_ + 1) ev ∧ Met w' ev ((Adr.aspec (xs.drop (at_ + 1)) z).2.1 : Int) (at_ + 1) ∧ w.grownBy w' (some C) := by
  have HA := al_any w (.cells #[.int .i64 0, .slice none 0 0, .bool false, .bool false, .int .i64 0, .bool false, .int .i64 0, .int .u8 0] 26)
  have HU := Lib.hid (h.below HA)
  have HCG := Lib.hid (show C < w.heap.size ∧ g < w.heap.size from ⟨h.clt, h.glt⟩)
  have HW := Lib.hid (rfl : w.alloc (.cells #[.int .i64 0, .slice none 0 0, .bool false, .bool false, .int .i64 0, .bool false, .int .i64 0, .int .u8 0] 26) = w.alloc (.cells #[.int .i64 0, .slice none 0 0, .bool false, .bool false, .int .i64 0, .bool false, .int .i64 0, .int .u8 0] 26))
  have HWA := Lib.hid hw
  have HK := Lib.hid (takeKind_order _ HU.out hx 7 hl (byte_lt h8 (by decide) at_) hk (by decide))
  clear h HA HW hk hw
  go_enter Try.func13, Try.ntmps13
  go_wp2_with fail
  with_reducible refine HK.out.mono ?_
  rintro e w1 ⟨rfl, hu, hgr⟩
  have S := Lib.hid (gs_start #[.int .i64 7, .slice none 0 0, .bool false, .bool false, .int .i64 0, .bool false, .int .i64 0, .int .u8 0] (.inr HCG.out) hu hgr)
  clear hu hgr HK HU
  go_wp2_with fail
  generalize w1.heap.size = L at *
  generalize w1.alloc (.cells #[.int .i64 7, .slice none 0 0, .bool false, .bool false, .int .i64 0, .bool false, .int .i64 0, .int .u8 0] 26) = w2 at *
  with_reducible refine (addr_bad z w2 S.out.cur h8 HWA.out).mono ?_
  rintro e w3 ⟨rfl, ev, hu, hm, hgr⟩
  obtain ⟨b, rfl, hm⟩ := hm
  have M := Lib.hid (show Met w3 _ _ _ from ⟨b, rfl, hm⟩)
  replace S := Lib.hid (S.out.call hu hgr)
  clear hu hgr hm
  obtain ⟨c0, c1, c2, c3, c4, c5, c6, c7⟩ := cells8 S.out.ord
  obtain ⟨e0, e1, e2, e3, e4, e5, e6, e7⟩ := free8 S.out.ord
  go_wp2_with fail
  clear c0 c1 c2 c3 c4 c5 c6 c7 e0 e1 e2 e3 e4 e5 e6 e7
  have G6 := gsetCell (w3) L 6 (.int .i64 0)
  have GG := Lib.hid (G6)
  clear G6
  replace M := Lib.hid (S.out.metL M.out GG.out)
  replace S := Lib.hid (show GS w ((w3).setCell ⟨L, 6, none⟩ (.int .i64 0)) C g xs _ _ w.heap.size L #[.int .i64 7, .slice none 0 0, .bool false, .bool false, .int .i64 0, .bool false, .int .i64 0, .int .u8 0] from (S.out.set 6 (.int .i64 0)))
  generalize (w3).setCell ⟨L, 6, none⟩ (.int .i64 0) = w4 at *
  clear GG
  with_reducible refine (err_any w4 S.out.cur).mono ?_
  rintro e wq ⟨rfl, rfl⟩
  obtain ⟨c0, c1, c2, c3, c4, c5, c6, c7⟩ := cells8 S.out.ord
  obtain ⟨e0, e1, e2, e3, e4, e5, e6, e7⟩ := free8 S.out.ord
  obtain ⟨d0, d1, d2, d3, d4, d5, d6, d7⟩ := cells8 S.out.res
  obtain ⟨f0, f1, f2, f3, f4, f5, f6, f7⟩ := free8 S.out.res
  have SF := Lib.hid (S.out.fin (.int .i64 0) (.slice none 0 0) (.bool false) (.bool false) (.int .i64 0) (.bool false) (.int .i64 0) (.int .u8 0))
  go_wp2_with fail
  clear c0 c1 c2 c3 c4 c5 c6 c7 e0 e1 e2 e3 e4 e5 e6 e7 d0 d1 d2 d3 d4 d5 d6 d7 f0 f1 f2 f3 f4 f5 f6 f7
  obtain ⟨wz, hz, s1, s2, s3, s4⟩ := SF.out
  rw [← hz]
  clear hz SF
  have S1 := Lib.hid s1
  clear s1
  refine bodyPost_ret (v := .agg #[.int .i64 0, .slice none 0 0, .bool false, .bool false, .int .i64 0, .bool false, .int .i64 0, .int .u8 0]) (results_cell_row rfl _ _ w.heap.size 26 _ (0, 0) _ rfl S1.out Try.underlying26 rfl (by kernel_rfl)) rfl ?_
  exact ⟨rfl, _, s2, S.out.met M.out s4, s3⟩
set_option maxRecDepth 100000 in
set_option maxHeartbeats 4000000 in
theorem get_1 {C g at_ : Nat} {xs : List Nat} (z : Int) (w : World) (h : Cur w C g xs at_ .nilIface) (h8 : ∀ x ∈ xs, x < 256) (hx : xs.length < 1000000000) (hl : at_ < xs.length) (hk : kindB (xs.getD at_ 0) = 1) (n : Nat) (ys : List Nat) (hn : Byt.crun (xs.drop at_) = n) (hy : (xs.drop at_).take n = ys) :
    Calls Try.prog 13 #[.pointer (some ⟨C, 0, none⟩), .int .i64 z] w fun e w' => ∃ va vc, e = .returned (.agg #[.int .i64 1, .slice va n vc, .bool false, .bool false, .int .i64 0, .bool false, .int .i64 0, .int .u8 0]) ∧ w'.ownsRow w.heap.size 5 1 (.slice va n vc) n (u8s ys) ∧ Cur w' C g xs (at_ + n) .nilIface ∧ w.grownBy w' (some C) := by
  have HA := al_any w (.cells #[.int .i64 0, .slice none 0 0, .bool false, .bool false, .int .i64 0, .bool false, .int .i64 0, .int .u8 0] 26)
  have HU := Lib.hid (h.below HA)
  have HCG := Lib.hid (show C < w.heap.size ∧ g < w.heap.size from ⟨h.clt, h.glt⟩)
  have HW := Lib.hid (rfl : w.alloc (.cells #[.int .i64 0, .slice none 0 0, .bool false, .bool false, .int .i64 0, .bool false, .int .i64 0, .int .u8 0] 26) = w.alloc (.cells #[.int .i64 0, .slice none 0 0, .bool false, .bool false, .int .i64 0, .bool false, .int .i64 0, .int .u8 0] 26))
  have CC := fun (W : World) (hu : Cur W C g xs at_ .nilIface) => chars_ok W hu h8 hx
  simp only [hn, hy] at CC
  have CC := Lib.hid CC
  have HK := Lib.hid (takeKind_text _ HU.out hl (byte_lt h8 (by decide) at_) hk)
  clear h HA HW hk hn hy
  go_enter Try.func13, Try.ntmps13
  go_wp2_with fail
  with_reducible refine HK.out.mono ?_
  rintro e w1 ⟨rfl, hu, hgr⟩
  have S := Lib.hid (gs_start #[.int .i64 1, .slice none 0 0, .bool false, .bool false, .int .i64 0, .bool false, .int .i64 0, .int .u8 0] (.inr HCG.out) hu hgr)
  clear hu hgr HK HU
  go_wp2_with fail
  generalize w1.heap.size = L at *
  generalize w1.alloc (.cells #[.int .i64 1, .slice none 0 0, .bool false, .bool false, .int .i64 0, .bool false, .int .i64 0, .int .u8 0] 26) = w2 at *
  have S0 := S
  with_reducible refine (CC.out w2 S.out.cur).mono ?_
  rintro e w3 ⟨v, rfl, ho, hu, hgr⟩
  replace S := Lib.hid (S.out.call hu hgr)
  have HO := Lib.hid ho
  have HLB := Lib.hid (there_lt S0.out.ord)
  have HRL := Lib.hid S0.out.rl
  obtain ⟨va, vc, rfl⟩ := Apd.own_form ho
  clear hu hgr ho S0
  obtain ⟨c0, c1, c2, c3, c4, c5, c6, c7⟩ := cells8 S.out.ord
  obtain ⟨e0, e1, e2, e3, e4, e5, e6, e7⟩ := free8 S.out.ord
  go_wp2_with fail
  clear c0 c1 c2 c3 c4 c5 c6 c7 e0 e1 e2 e3 e4 e5 e6 e7
  have G1 := gsetCell (w3) L 1 (.slice va n vc)
  have GG := Lib.hid (G1)
  clear G1
  replace S := Lib.hid (show GS w ((w3).setCell ⟨L, 1, none⟩ (.slice va n vc)) C g xs _ _ w.heap.size L #[.int .i64 1, .slice va n vc, .bool false, .bool false, .int .i64 0, .bool false, .int .i64 0, .int .u8 0] from (S.out.set 1 (.slice va n vc)))
  replace HO := Lib.hid (own_other HO.out GG.out HLB.out)
  generalize (w3).setCell ⟨L, 1, none⟩ (.slice va n vc) = w4 at *
  clear GG
  with_reducible refine (err_any w4 S.out.cur).mono ?_
  rintro e wq ⟨rfl, rfl⟩
  obtain ⟨c0, c1, c2, c3, c4, c5, c6, c7⟩ := cells8 S.out.ord
  obtain ⟨e0, e1, e2, e3, e4, e5, e6, e7⟩ := free8 S.out.ord
  obtain ⟨d0, d1, d2, d3, d4, d5, d6, d7⟩ := cells8 S.out.res
  obtain ⟨f0, f1, f2, f3, f4, f5, f6, f7⟩ := free8 S.out.res
  have SF := Lib.hid (S.out.fin (.int .i64 1) (.slice va n vc) (.bool false) (.bool false) (.int .i64 0) (.bool false) (.int .i64 0) (.int .u8 0))
  go_wp2_with fail
  clear c0 c1 c2 c3 c4 c5 c6 c7 e0 e1 e2 e3 e4 e5 e6 e7 d0 d1 d2 d3 d4 d5 d6 d7 f0 f1 f2 f3 f4 f5 f6 f7
  obtain ⟨wz, hz, s1, s2, s3, s4⟩ := SF.out
  rw [← hz]
  clear hz SF
  have S1 := Lib.hid s1
  clear s1
  refine bodyPost_ret (v := .agg #[.int .i64 1, .slice va n vc, .bool false, .bool false, .int .i64 0, .bool false, .int .i64 0, .int .u8 0]) (results_cell_row rfl _ _ w.heap.size 26 _ (0, 0) _ rfl S1.out Try.underlying26 rfl (by kernel_rfl)) rfl ?_
  exact ⟨va, vc, rfl, own_mono (own_other HO.out s4 (by have := HRL.out; have := HLB.out; omega)) (by have := HRL.out; have := HLB.out; omega), s2, s3⟩
set_option maxRecDepth 100000 in
set_option maxHeartbeats 4000000 in
theorem get_6 {C g at_ : Nat} {xs : List Nat} (z : Int) (w : World) (h : Cur w C g xs at_ .nilIface) (h8 : ∀ x ∈ xs, x < 256) (hx : xs.length < 1000000000) (hl : at_ < xs.length) (hk : kindB (xs.getD at_ 0) = 6) (hw : (Adr.aspec (xs.drop (at_ + 1)) z).2.1 = 0) (hl4 : at_ + 3 < xs.length) (x : Nat) (hxx : xs.getD (at_ + 3) 0 = x) (hc : char x = true) :
    Calls Try.prog 13 #[.pointer (some ⟨C, 0, none⟩), .int .i64 z] w fun e w' => e = .returned (.agg #[.int .i64 6, .slice none 0 0, .bool false, .bool false, .int .i64 0, .bool false, .int .i64 ((Adr.aspec (xs.drop (at_ + 1)) z).1 : Int), .int .u8 (x : Int)]) ∧ Cur w' C g xs (at_ + 4) .nilIface ∧ w.grownBy w' (some C) := by
  have HA := al_any w (.cells #[.int .i64 0, .slice none 0 0, .bool false, .bool false, .int .i64 0, .bool false, .int .i64 0, .int .u8 0] 26)
  have HU := Lib.hid (h.below HA)
  have HCG := Lib.hid (show C < w.heap.size ∧ g < w.heap.size from ⟨h.clt, h.glt⟩)
  have HW := Lib.hid (rfl : w.alloc (.cells #[.int .i64 0, .slice none 0 0, .bool false, .bool false, .int .i64 0, .bool false, .int .i64 0, .int .u8 0] 26) = w.alloc (.cells #[.int .i64 0, .slice none 0 0, .bool false, .bool false, .int .i64 0, .bool false, .int .i64 0, .int .u8 0] 26))
  have HWA := Lib.hid hw
  have TC := fun (W : World) (hu : Cur W C g xs (at_ + 3) .nilIface) => takeChar_ok W hu hx hl4 (byte_lt h8 (by decide) (at_ + 3)) (by rw [hxx]; exact hc)
  simp only [hxx] at TC
  have TC := Lib.hid TC
  have HK := Lib.hid (takeKind_order _ HU.out hx 6 hl (byte_lt h8 (by decide) at_) hk (by decide))
  clear h HA HW hk hw hc hxx
  go_enter Try.func13, Try.ntmps13
  go_wp2_with fail
  with_reducible refine HK.out.mono ?_
  rintro e w1 ⟨rfl, hu, hgr⟩
  have S := Lib.hid (gs_start #[.int .i64 6, .slice none 0 0, .bool false, .bool false, .int .i64 0, .bool false, .int .i64 0, .int .u8 0] (.inr HCG.out) hu hgr)
  clear hu hgr HK HU
  go_wp2_with fail
  generalize w1.heap.size = L at *
  generalize w1.alloc (.cells #[.int .i64 6, .slice none 0 0, .bool false, .bool false, .int .i64 0, .bool false, .int .i64 0, .int .u8 0] 26) = w2 at *
  with_reducible refine (addr_ok z w2 S.out.cur h8 hx HWA.out).mono ?_
  rintro e w3 ⟨rfl, hu, hgr⟩
  replace S := Lib.hid (S.out.call hu hgr)
  clear hu hgr
  obtain ⟨c0, c1, c2, c3, c4, c5, c6, c7⟩ := cells8 S.out.ord
  obtain ⟨e0, e1, e2, e3, e4, e5, e6, e7⟩ := free8 S.out.ord
  go_wp2_with fail
  clear c0 c1 c2 c3 c4 c5 c6 c7 e0 e1 e2 e3 e4 e5 e6 e7
  have G6 := gsetCell (w3) L 6 (.int .i64 ((Adr.aspec (xs.drop (at_ + 1)) z).1 : Int))
  have GG := Lib.hid (G6)
  clear G6
  replace S := Lib.hid (show GS w ((w3).setCell ⟨L, 6, none⟩ (.int .i64 ((Adr.aspec (xs.drop (at_ + 1)) z).1 : Int))) C g xs _ _ w.heap.size L #[.int .i64 6, .slice none 0 0, .bool false, .bool false, .int .i64 0, .bool false, .int .i64 ((Adr.aspec (xs.drop (at_ + 1)) z).1 : Int), .int .u8 0] from (S.out.set 6 (.int .i64 ((Adr.aspec (xs.drop (at_ + 1)) z).1 : Int))))
  generalize (w3).setCell ⟨L, 6, none⟩ (.int .i64 ((Adr.aspec (xs.drop (at_ + 1)) z).1 : Int)) = w4 at *
  clear GG
  with_reducible refine (TC.out w4 S.out.cur).mono ?_
  rintro e w5 ⟨rfl, hu, hgr⟩
  replace S := Lib.hid (S.out.call hu hgr)
  clear hu hgr
  obtain ⟨c0, c1, c2, c3, c4, c5, c6, c7⟩ := cells8 S.out.ord
  obtain ⟨e0, e1, e2, e3, e4, e5, e6, e7⟩ := free8 S.out.ord
  go_wp2_with fail
  clear c0 c1 c2 c3 c4 c5 c6 c7 e0 e1 e2 e3 e4 e5 e6 e7
  have G7 := gsetCell (w5) L 7 (.int .u8 (x : Int))
  have GG := Lib.hid (G7)
  clear G7
  replace S := Lib.hid (show GS w ((w5).setCell ⟨L, 7, none⟩ (.int .u8 (x : Int))) C g xs _ _ w.heap.size L #[.int .i64 6, .slice none 0 0, .bool false, .bool false, .int .i64 0, .bool false, .int .i64 ((Adr.aspec (xs.drop (at_ + 1)) z).1 : Int), .int .u8 (x : Int)] from (S.out.set 7 (.int .u8 (x : Int))))
  generalize (w5).setCell ⟨L, 7, none⟩ (.int .u8 (x : Int)) = w6 at *
  clear GG
  with_reducible refine (err_any w6 S.out.cur).mono ?_
  rintro e wq ⟨rfl, rfl⟩
  obtain ⟨c0, c1, c2, c3, c4, c5, c6, c7⟩ := cells8 S.out.ord
  obtain ⟨e0, e1, e2, e3, e4, e5, e6, e7⟩ := free8 S.out.ord
  obtain ⟨d0, d1, d2, d3, d4, d5, d6, d7⟩ := cells8 S.out.res
  obtain ⟨f0, f1, f2, f3, f4, f5, f6, f7⟩ := free8 S.out.res
  have SF := Lib.hid (S.out.fin (.int .i64 6) (.slice none 0 0) (.bool false) (.bool false) (.int .i64 0) (.bool false) (.int .i64 ((Adr.aspec (xs.drop (at_ + 1)) z).1 : Int)) (.int .u8 (x : Int)))
  go_wp2_with fail
  clear c0 c1 c2 c3 c4 c5 c6 c7 e0 e1 e2 e3 e4 e5 e6 e7 d0 d1 d2 d3 d4 d5 d6 d7 f0 f1 f2 f3 f4 f5 f6 f7
  obtain ⟨wz, hz, s1, s2, s3, s4⟩ := SF.out
  rw [← hz]
  clear hz SF
  have S1 := Lib.hid s1
  clear s1
  refine bodyPost_ret (v := .agg #[.int .i64 6, .slice none 0 0, .bool false, .bool false, .int .i64 0, .bool false, .int .i64 ((Adr.aspec (xs.drop (at_ + 1)) z).1 : Int), .int .u8 (x : Int)]) (results_cell_row rfl _ _ w.heap.size 26 _ (0, 0) _ rfl S1.out Try.underlying26 rfl (by kernel_rfl)) rfl ?_
  exact ⟨rfl, s2, s3⟩
set_option maxRecDepth 100000 in
set_option maxHeartbeats 4000000 in
theorem get_6_char {C g at_ : Nat} {xs : List Nat} (z : Int) (w : World) (h : Cur w C g xs at_ .nilIface) (h8 : ∀ x ∈ xs, x < 256) (hx : xs.length < 1000000000) (hl : at_ < xs.length) (hk : kindB (xs.getD at_ 0) = 6) (hw : (Adr.aspec (xs.drop (at_ + 1)) z).2.1 = 0) (hl4 : at_ + 3 < xs.length) (hc : char (xs.getD (at_ + 3) 0) = false) :
    Calls Try.prog 13 #[.pointer (some ⟨C, 0, none⟩), .int .i64 z] w fun e w' => e = .returned (.agg #[.int .i64 0, .slice none 0 0, .bool false, .bool false, .int .i64 0, .bool false, .int .i64 0, .int .u8 0]) ∧ ∃ ev, Cur w' C g xs (at_ + 3) ev ∧ Met w' ev 3 (at_ + 3) ∧ w.grownBy w' (some C) := by
  have HA := al_any w (.cells #[.int .i64 0, .slice none 0 0, .bool false, .bool false, .int .i64 0, .bool false, .int .i64 0, .int .u8 0] 26)
  have HU := Lib.hid (h.below HA)
  have HCG := Lib.hid (show C < w.heap.size ∧ g < w.heap.size from ⟨h.clt, h.glt⟩)
  have HW := Lib.hid (rfl : w.alloc (.cells #[.int .i64 0, .slice none 0 0, .bool false, .bool false, .int .i64 0, .bool false, .int .i64 0, .int .u8 0] 26) = w.alloc (.cells #[.int .i64 0, .slice none 0 0, .bool false, .bool false, .int .i64 0, .bool false, .int .i64 0, .int .u8 0] 26))
  have HWA := Lib.hid hw
  have HC := Lib.hid hc
  have HB8 := Lib.hid (byte_lt h8 (by decide) (at_ + 3))
  have HK := Lib.hid (takeKind_order _ HU.out hx 6 hl (byte_lt h8 (by decide) at_) hk (by decide))
  clear h HA HW hk hw hc
  go_enter Try.func13, Try.ntmps13
  go_wp2_with fail
  with_reducible refine HK.out.mono ?_
  rintro e w1 ⟨rfl, hu, hgr⟩
  have S := Lib.hid (gs_start #[.int .i64 6, .slice none 0 0, .bool false, .bool false, .int .i64 0, .bool false, .int .i64 0, .int .u8 0] (.inr HCG.out) hu hgr)
  clear hu hgr HK HU
  go_wp2_with fail
  generalize w1.heap.size = L at *
  generalize w1.alloc (.cells #[.int .i64 6, .slice none 0 0, .bool false, .bool false, .int .i64 0, .bool false, .int .i64 0, .int .u8 0] 26) = w2 at *
  with_reducible refine (addr_ok z w2 S.out.cur h8 hx HWA.out).mono ?_
  rintro e w3 ⟨rfl, hu, hgr⟩
  replace S := Lib.hid (S.out.call hu hgr)
  clear hu hgr
  obtain ⟨c0, c1, c2, c3, c4, c5, c6, c7⟩ := cells8 S.out.ord
  obtain ⟨e0, e1, e2, e3, e4, e5, e6, e7⟩ := free8 S.out.ord
  go_wp2_with fail
  clear c0 c1 c2 c3 c4 c5 c6 c7 e0 e1 e2 e3 e4 e5 e6 e7
  have G6 := gsetCell (w3) L 6 (.int .i64 ((Adr.aspec (xs.drop (at_ + 1)) z).1 : Int))
  have GG := Lib.hid (G6)
  clear G6
  replace S := Lib.hid (show GS w ((w3).setCell ⟨L, 6, none⟩ (.int .i64 ((Adr.aspec (xs.drop (at_ + 1)) z).1 : Int))) C g xs _ _ w.heap.size L #[.int .i64 6, .slice none 0 0, .bool false, .bool false, .int .i64 0, .bool false, .int .i64 ((Adr.aspec (xs.drop (at_ + 1)) z).1 : Int), .int .u8 0] from (S.out.set 6 (.int .i64 ((Adr.aspec (xs.drop (at_ + 1)) z).1 : Int))))
  generalize (w3).setCell ⟨L, 6, none⟩ (.int .i64 ((Adr.aspec (xs.drop (at_ + 1)) z).1 : Int)) = w4 at *
  clear GG
  with_reducible refine (takeChar_bad w4 S.out.cur hl4 HB8.out HC.out).mono ?_
  rintro e w5 ⟨rfl, ev, hu, hm, hgr⟩
  obtain ⟨b, rfl, hm⟩ := hm
  have M := Lib.hid (show Met w5 _ _ _ from ⟨b, rfl, hm⟩)
  replace S := Lib.hid (S.out.call hu hgr)
  clear hu hgr hm
  obtain ⟨c0, c1, c2, c3, c4, c5, c6, c7⟩ := cells8 S.out.ord
  obtain ⟨e0, e1, e2, e3, e4, e5, e6, e7⟩ := free8 S.out.ord
  go_wp2_with fail
  clear c0 c1 c2 c3 c4 c5 c6 c7 e0 e1 e2 e3 e4 e5 e6 e7
  have G7 := gsetCell (w5) L 7 (.int .u8 0)
  have GG := Lib.hid (G7)
  clear G7
  replace M := Lib.hid (S.out.metL M.out GG.out)
  replace S := Lib.hid (show GS w ((w5).setCell ⟨L, 7, none⟩ (.int .u8 0)) C g xs _ _ w.heap.size L #[.int .i64 6, .slice none 0 0, .bool false, .bool false, .int .i64 0, .bool false, .int .i64 ((Adr.aspec (xs.drop (at_ + 1)) z).1 : Int), .int .u8 0] from (S.out.set 7 (.int .u8 0)))
  generalize (w5).setCell ⟨L, 7, none⟩ (.int .u8 0) = w6 at *
  clear GG
  with_reducible refine (err_any w6 S.out.cur).mono ?_
  rintro e wq ⟨rfl, rfl⟩
  obtain ⟨c0, c1, c2, c3, c4, c5, c6, c7⟩ := cells8 S.out.ord
  obtain ⟨e0, e1, e2, e3, e4, e5, e6, e7⟩ := free8 S.out.ord
  obtain ⟨d0, d1, d2, d3, d4, d5, d6, d7⟩ := cells8 S.out.res
  obtain ⟨f0, f1, f2, f3, f4, f5, f6, f7⟩ := free8 S.out.res
  have SF := Lib.hid (S.out.fin (.int .i64 0) (.slice none 0 0) (.bool false) (.bool false) (.int .i64 0) (.bool false) (.int .i64 0) (.int .u8 0))
  go_wp2_with fail
  clear c0 c1 c2 c3 c4 c5 c6 c7 e0 e1 e2 e3 e4 e5 e6 e7 d0 d1 d2 d3 d4 d5 d6 d7 f0 f1 f2 f3 f4 f5 f6 f7
  obtain ⟨wz, hz, s1, s2, s3, s4⟩ := SF.out
  rw [← hz]
  clear hz SF
  have S1 := Lib.hid s1
  clear s1
  refine bodyPost_ret (v := .agg #[.int .i64 0, .slice none 0 0, .bool false, .bool false, .int .i64 0, .bool false, .int .i64 0, .int .u8 0]) (results_cell_row rfl _ _ w.heap.size 26 _ (0, 0) _ rfl S1.out Try.underlying26 rfl (by kernel_rfl)) rfl ?_
  exact ⟨rfl, _, s2, S.out.met M.out s4, s3⟩
set_option maxRecDepth 100000 in
set_option maxHeartbeats 4000000 in
theorem get_6_none {C g at_ : Nat} {xs : List Nat} (z : Int) (w : World) (h : Cur w C g xs at_ .nilIface) (h8 : ∀ x ∈ xs, x < 256) (hx : xs.length < 1000000000) (hl : at_ < xs.length) (hk : kindB (xs.getD at_ 0) = 6) (hw : (Adr.aspec (xs.drop (at_ + 1)) z).2.1 = 0) (hl4 : xs.length ≤ at_ + 3) :
    Calls Try.prog 13 #[.pointer (some ⟨C, 0, none⟩), .int .i64 z] w fun e w' => e = .returned (.agg #[.int .i64 0, .slice none 0 0, .bool false, .bool false, .int .i64 0, .bool false, .int .i64 0, .int .u8 0]) ∧ ∃ ev, Cur w' C g xs (at_ + 3) ev ∧ Met w' ev 2 (at_ + 3) ∧ w.grownBy w' (some C) := by
  have HA := al_any w (.cells #[.int .i64 0, .slice none 0 0, .bool false, .bool false, .int .i64 0, .bool false, .int .i64 0, .int .u8 0] 26)
  have HU := Lib.hid (h.below HA)
  have HCG := Lib.hid (show C < w.heap.size ∧ g < w.heap.size from ⟨h.clt, h.glt⟩)
  have HW := Lib.hid (rfl : w.alloc (.cells #[.int .i64 0, .slice none 0 0, .bool false, .bool false, .int .i64 0, .bool false, .int .i64 0, .int .u8 0] 26) = w.alloc (.cells #[.int .i64 0, .slice none 0 0, .bool false, .bool false, .int .i64 0, .bool false, .int .i64 0, .int .u8 0] 26))
  have HWA := Lib.hid hw
  have HK := Lib.hid (takeKind_order _ HU.out hx 6 hl (byte_lt h8 (by decide) at_) hk (by decide))
  clear h HA HW hk hw
  go_enter Try.func13, Try.ntmps13
  go_wp2_with fail
  with_reducible refine HK.out.mono ?_
  rintro e w1 ⟨rfl, hu, hgr⟩
  have S := Lib.hid (gs_start #[.int .i64 6, .slice none 0 0, .bool false, .bool false, .int .i64 0, .bool false, .int .i64 0, .int .u8 0] (.inr HCG.out) hu hgr)
  clear hu hgr HK HU
  go_wp2_with fail
  generalize w1.heap.size = L at *
  generalize w1.alloc (.cells #[.int .i64 6, .slice none 0 0, .bool false, .bool false, .int .i64 0, .bool false, .int .i64 0, .int .u8 0] 26) = w2 at *
  with_reducible refine (addr_ok z w2 S.out.cur h8 hx HWA.out).mono ?_
  rintro e w3 ⟨rfl, hu, hgr⟩
  replace S := Lib.hid (S.out.call hu hgr)
  clear hu hgr
  obtain ⟨c0, c1, c2, c3, c4, c5, c6, c7⟩ := cells8 S.out.ord
  obtain ⟨e0, e1, e2, e3, e4, e5, e6, e7⟩ := free8 S.out.ord
  go_wp2_with fail
  clear c0 c1 c2 c3 c4 c5 c6 c7 e0 e1 e2 e3 e4 e5 e6 e7
  have G6 := gsetCell (w3) L 6 (.int .i64 ((Adr.aspec (xs.drop (at_ + 1)) z).1 : Int))
  have GG := Lib.hid (G6)
  clear G6
  replace S := Lib.hid (show GS w ((w3).setCell ⟨L, 6, none⟩ (.int .i64 ((Adr.aspec (xs.drop (at_ + 1)) z).1 : Int))) C g xs _ _ w.heap.size L #[.int .i64 6, .slice none 0 0, .bool false, .bool false, .int .i64 0, .bool false, .int .i64 ((Adr.aspec (xs.drop (at_ + 1)) z).1 : Int), .int .u8 0] from (S.out.set 6 (.int .i64 ((Adr.aspec (xs.drop (at_ + 1)) z).1 : Int))))
  generalize (w3).setCell ⟨L, 6, none⟩ (.int .i64 ((Adr.aspec (xs.drop (at_ + 1)) z).1 : Int)) = w4 at *
  clear GG
  with_reducible refine (takeChar_none w4 S.out.cur hl4).mono ?_
  rintro e w5 ⟨rfl, ev, hu, hm, hgr⟩
  obtain ⟨b, rfl, hm⟩ := hm
  have M := Lib.hid (show Met w5 _ _ _ from ⟨b, rfl, hm⟩)
  replace S := Lib.hid (S.out.call hu hgr)
  clear hu hgr hm
  obtain ⟨c0, c1, c2, c3, c4, c5, c6, c7⟩ := cells8 S.out.ord
  obtain ⟨e0, e1, e2, e3, e4, e5, e6, e7⟩ := free8 S.out.ord
  go_wp2_with fail
  clear c0 c1 c2 c3 c4 c5 c6 c7 e0 e1 e2 e3 e4 e5 e6 e7
  have G7 := gsetCell (w5) L 7 (.int .u8 0)
  have GG := Lib.hid (G7)
  clear G7
  replace M := Lib.hid (S.out.metL M.out GG.out)
  replace S := Lib.hid (show GS w ((w5).setCell ⟨L, 7, none⟩ (.int .u8 0)) C g xs _ _ w.heap.size L #[.int .i64 6, .slice none 0 0, .bool false, .bool false, .int .i64 0, .bool false, .int .i64 ((Adr.aspec (xs.drop (at_ + 1)) z).1 : Int), .int .u8 0] from (S.out.set 7 (.int .u8 0)))
  generalize (w5).setCell ⟨L, 7, none⟩ (.int .u8 0) = w6 at *
  clear GG
  with_reducible refine (err_any w6 S.out.cur).mono ?_
  rintro e wq ⟨rfl, rfl⟩
  obtain ⟨c0, c1, c2, c3, c4, c5, c6, c7⟩ := cells8 S.out.ord
  obtain ⟨e0, e1, e2, e3, e4, e5, e6, e7⟩ := free8 S.out.ord
  obtain ⟨d0, d1, d2, d3, d4, d5, d6, d7⟩ := cells8 S.out.res
  obtain ⟨f0, f1, f2, f3, f4, f5, f6, f7⟩ := free8 S.out.res
  have SF := Lib.hid (S.out.fin (.int .i64 0) (.slice none 0 0) (.bool false) (.bool false) (.int .i64 0) (.bool false) (.int .i64 0) (.int .u8 0))
  go_wp2_with fail
  clear c0 c1 c2 c3 c4 c5 c6 c7 e0 e1 e2 e3 e4 e5 e6 e7 d0 d1 d2 d3 d4 d5 d6 d7 f0 f1 f2 f3 f4 f5 f6 f7
  obtain ⟨wz, hz, s1, s2, s3, s4⟩ := SF.out
  rw [← hz]
  clear hz SF
  have S1 := Lib.hid s1
  clear s1
  refine bodyPost_ret (v := .agg #[.int .i64 0, .slice none 0 0, .bool false, .bool false, .int .i64 0, .bool false, .int .i64 0, .int .u8 0]) (results_cell_row rfl _ _ w.heap.size 26 _ (0, 0) _ rfl S1.out Try.underlying26 rfl (by kernel_rfl)) rfl ?_
  exact ⟨rfl, _, s2, S.out.met M.out s4, s3⟩
set_option maxRecDepth 100000 in
set_option maxHeartbeats 4000000 in
theorem get_6_bad {C g at_ : Nat} {xs : List Nat} (z : Int) (w : World) (h : Cur w C g xs at_ .nilIface) (h8 : ∀ x ∈ xs, x < 256) (hx : xs.length < 1000000000) (hl : at_ < xs.length) (hk : kindB (xs.getD at_ 0) = 6) (hw : (Adr.aspec (xs.drop (at_ + 1)) z).2.1 ≠ 0) :
    Calls Try.prog 13 #[.pointer (some ⟨C, 0, none⟩), .int .i64 z] w fun e w' => e = .returned (.agg #[.int .i64 0, .slice none 0 0, .bool false, .bool false, .int .i64 0, .bool false, .int .i64 0, .int .u8 0]) ∧ ∃ ev, Cur w' C g xs (at_ + 1) ev ∧ Met w' ev ((Adr.aspec (xs.drop (at_ + 1)) z).2.1 : Int) (at_ + 1) ∧ w.grownBy w' (some C) := by
  have HA := al_any w (.cells #[.int .i64 0, .slice none 0 0, .bool false, .bool false, .int .i64 0, .bool false, .int .i64 0, .int .u8 0] 26)
  have HU := Lib.hid (h.below HA)
  have HCG := Lib.hid (show C < w.heap.size ∧ g < w.heap.size from ⟨h.clt, h.glt⟩)
  have HW := Lib.hid (rfl : w.alloc (.cells #[.int .i64 0, .slice none 0 0, .bool false, .bool false, .int .i64 0, .bool false, .int .i64 0, .int .u8 0] 26) = w.alloc (.cells #[.int .i64 0, .slice none 0 0, .bool false, .bool false, .int .i64 0, .bool false, .int .i64 0, .int .u8 0] 26))
  have HWA := Lib.hid hw
  have HK := Lib.hid (takeKind_order _ HU.out hx 6 hl (byte_lt h8 (by decide) at_) hk (by decide))
  clear h HA HW hk hw
  go_enter Try.func13, Try.ntmps13
  go_wp2_with fail
  with_reducible refine HK.out.mono ?_
  rintro e w1 ⟨rfl, hu, hgr⟩
  have S := Lib.hid (gs_start #[.int .i64 6, .slice none 0 0, .bool false, .bool false, .int .i64 0, .bool false, .int .i64 0, .int .u8 0] (.inr HCG.out) hu hgr)
  clear hu hgr HK HU
  go_wp2_with fail
  generalize w1.heap.size = L at *
  generalize w1.alloc (.cells #[.int .i64 6, .slice none 0 0, .bool false, .bool false, .int .i64 0, .bool false, .int .i64 0, .int .u8 0] 26) = w2 at *
  with_reducible refine (addr_bad z w2 S.out.cur h8 HWA.out).mono ?_
  rintro e w3 ⟨rfl, ev, hu, hm, hgr⟩
  obtain ⟨b, rfl, hm⟩ := hm
  have M := Lib.hid (show Met w3 _ _ _ from ⟨b, rfl, hm⟩)
  replace S := Lib.hid (S.out.call hu hgr)
  clear hu hgr hm
  obtain ⟨c0, c1, c2, c3, c4, c5, c6, c7⟩ := cells8 S.out.ord
  obtain ⟨e0, e1, e2, e3, e4, e5, e6, e7⟩ := free8 S.out.ord
  go_wp2_with fail
  clear c0 c1 c2 c3 c4 c5 c6 c7 e0 e1 e2 e3 e4 e5 e6 e7
  have G6 := gsetCell (w3) L 6 (.int .i64 0)
  have GG := Lib.hid (G6)
  clear G6
  replace M := Lib.hid (S.out.metL M.out GG.out)
  replace S := Lib.hid (show GS w ((w3).setCell ⟨L, 6, none⟩ (.int .i64 0)) C g xs _ _ w.heap.size L #[.int .i64 6, .slice none 0 0, .bool false, .bool false, .int .i64 0, .bool false, .int .i64 0, .int .u8 0] from (S.out.set 6 (.int .i64 0)))
  generalize (w3).setCell ⟨L, 6, none⟩ (.int .i64 0) = w4 at *
  clear GG
  with_reducible refine (takeChar_met w4 S.out.cur).mono ?_
  rintro e w5 ⟨rfl, rfl⟩
  obtain ⟨c0, c1, c2, c3, c4, c5, c6, c7⟩ := cells8 S.out.ord
  obtain ⟨e0, e1, e2, e3, e4, e5, e6, e7⟩ := free8 S.out.ord
  go_wp2_with fail
  clear c0 c1 c2 c3 c4 c5 c6 c7 e0 e1 e2 e3 e4 e5 e6 e7
  have G7 := gsetCell (w4) L 7 (.int .u8 0)
  have GG := Lib.hid (G7)
  clear G7
  replace M := Lib.hid (S.out.metL M.out GG.out)
  replace S := Lib.hid (show GS w ((w4).setCell ⟨L, 7, none⟩ (.int .u8 0)) C g xs _ _ w.heap.size L #[.int .i64 6, .slice none 0 0, .bool false, .bool false, .int .i64 0, .bool false, .int .i64 0, .int .u8 0] from (S.out.set 7 (.int .u8 0)))
  generalize (w4).setCell ⟨L, 7, none⟩ (.int .u8 0) = w5 at *
  clear GG
  with_reducible refine (err_any w5 S.out.cur).mono ?_
  rintro e wq ⟨rfl, rfl⟩
  obtain ⟨c0, c1, c2, c3, c4, c5, c6, c7⟩ := cells8 S.out.ord
  obtain ⟨e0, e1, e2, e3, e4, e5, e6, e7⟩ := free8 S.out.ord
  obtain ⟨d0, d1, d2, d3, d4, d5, d6, d7⟩ := cells8 S.out.res
  obtain ⟨f0, f1, f2, f3, f4, f5, f6, f7⟩ := free8 S.out.res
  have SF := Lib.hid (S.out.fin (.int .i64 0) (.slice none 0 0) (.bool false) (.bool false) (.int .i64 0) (.bool false) (.int .i64 0) (.int .u8 0))
  go_wp2_with fail
  clear c0 c1 c2 c3 c4 c5 c6 c7 e0 e1 e2 e3 e4 e5 e6 e7 d0 d1 d2 d3 d4 d5 d6 d7 f0 f1 f2 f3 f4 f5 f6 f7
  obtain ⟨wz, hz, s1, s2, s3, s4⟩ := SF.out
  rw [← hz]
  clear hz SF
  have S1 := Lib.hid s1
  clear s1
  refine bodyPost_ret (v := .agg #[.int .i64 0, .slice none 0 0, .bool false, .bool false, .int .i64 0, .bool false, .int .i64 0, .int .u8 0]) (results_cell_row rfl _ _ w.heap.size 26 _ (0, 0) _ rfl S1.out Try.underlying26 rfl (by kernel_rfl)) rfl ?_
  exact ⟨rfl, _, s2, S.out.met M.out s4, s3⟩
end Ord
end Go.Proofs.Ytllpmgddcpgegaa
