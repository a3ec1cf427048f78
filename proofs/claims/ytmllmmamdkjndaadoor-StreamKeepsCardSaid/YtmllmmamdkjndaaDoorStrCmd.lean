/- takeCommand of package stream. Written by tools/gen_str_cmd.py. -/
import Derived.Test.YtmllmmamdkjndaaDoorStrOrders
import Derived.Test.YtmllmmamdkjndaaDoorStrTake
import Derived.Deep.Cut
namespace Go.Proofs.YtmllmmamdkjndaaDoor
open Go.RowKit Sha Cut Err Six Att Byt Apd
namespace Str
open Go.Proofs.YtmllmmamdkjndaaDoor.Ord
theorem cells5 {w : World} {B : Nat} {t : TypeId} {a0 a1 a2 a3 a4 : Value} (h : w.heap[B]? = some (.cells #[a0, a1, a2, a3, a4] t (0, 0))) :
    w.cell? ⟨B, 0, none⟩ = some a0 ∧ w.cell? ⟨B, 1, none⟩ = some a1 ∧ w.cell? ⟨B, 2, none⟩ = some a2 ∧ w.cell? ⟨B, 3, none⟩ = some a3 ∧ w.cell? ⟨B, 4, none⟩ = some a4 :=
  ⟨cell_of_row _ _ 0 _ _ _ h, cell_of_row _ _ 1 _ _ _ h, cell_of_row _ _ 2 _ _ _ h, cell_of_row _ _ 3 _ _ _ h, cell_of_row _ _ 4 _ _ _ h⟩
theorem free5 {w : World} {B : Nat} {t : TypeId} {cs : Array Value} (h : w.heap[B]? = some (.cells cs t (0, 0))) :
    w.frozen? ⟨B, 0, none⟩ = false ∧ w.frozen? ⟨B, 1, none⟩ = false ∧ w.frozen? ⟨B, 2, none⟩ = false ∧ w.frozen? ⟨B, 3, none⟩ = false ∧ w.frozen? ⟨B, 4, none⟩ = false :=
  ⟨frozen_of_row _ _ 0 _ _ h, frozen_of_row _ _ 1 _ _ h, frozen_of_row _ _ 2 _ _ h, frozen_of_row _ _ 3 _ _ h, frozen_of_row _ _ 4 _ _ h⟩
theorem set5g {w a : World} {B : Nat} {r : Option Nat} {t : TypeId} {a0 a1 a2 a3 a4 : Value} (u0 u1 u2 u3 u4 : Value) (h : a.heap[B]? = some (.cells #[a0, a1, a2, a3, a4] t (0, 0))) (hg : w.grownBy a r) (hB : w.heap.size ≤ B) :
    (((((a.setCell ⟨B, 0, none⟩ u0).setCell ⟨B, 1, none⟩ u1).setCell ⟨B, 2, none⟩ u2).setCell ⟨B, 3, none⟩ u3).setCell ⟨B, 4, none⟩ u4).heap[B]? = some (.cells #[u0, u1, u2, u3, u4] t (0, 0)) ∧ a.grownBy (((((a.setCell ⟨B, 0, none⟩ u0).setCell ⟨B, 1, none⟩ u1).setCell ⟨B, 2, none⟩ u2).setCell ⟨B, 3, none⟩ u3).setCell ⟨B, 4, none⟩ u4) (some B) ∧ w.grownBy (((((a.setCell ⟨B, 0, none⟩ u0).setCell ⟨B, 1, none⟩ u1).setCell ⟨B, 2, none⟩ u2).setCell ⟨B, 3, none⟩ u3).setCell ⟨B, 4, none⟩ u4) r := by
  have h := heap_setCell_same _ B 0 _ t u0 h
  have h := heap_setCell_same _ B 1 _ t u1 h
  have h := heap_setCell_same _ B 2 _ t u2 h
  have h := heap_setCell_same _ B 3 _ t u3 h
  have h := heap_setCell_same _ B 4 _ t u4 h
  have hs : a.grownBy (((((a.setCell ⟨B, 0, none⟩ u0).setCell ⟨B, 1, none⟩ u1).setCell ⟨B, 2, none⟩ u2).setCell ⟨B, 3, none⟩ u3).setCell ⟨B, 4, none⟩ u4) (some B) := gtrans (gsetCell _ _ _ _) (gtrans (gsetCell _ _ _ _) (gtrans (gsetCell _ _ _ _) (gtrans (gsetCell _ _ _ _) (gsetCell _ _ _ _))))
  exact ⟨h, hs, gnew hg hs hB⟩
theorem set13g {w a : World} {B : Nat} {r : Option Nat} {t : TypeId} {a0 a1 a2 a3 a4 : Value} (u1 u2 u3 : Value) (h : a.heap[B]? = some (.cells #[a0, a1, a2, a3, a4] t (0, 0))) (hg : w.grownBy a r) (hB : w.heap.size ≤ B) :
    (((a.setCell ⟨B, 1, none⟩ u1).setCell ⟨B, 2, none⟩ u2).setCell ⟨B, 3, none⟩ u3).heap[B]? = some (.cells #[a0, u1, u2, u3, a4] t (0, 0)) ∧ a.grownBy (((a.setCell ⟨B, 1, none⟩ u1).setCell ⟨B, 2, none⟩ u2).setCell ⟨B, 3, none⟩ u3) (some B) ∧ w.grownBy (((a.setCell ⟨B, 1, none⟩ u1).setCell ⟨B, 2, none⟩ u2).setCell ⟨B, 3, none⟩ u3) r := by
  have h := heap_setCell_same _ B 1 _ t u1 h
  have h := heap_setCell_same _ B 2 _ t u2 h
  have h := heap_setCell_same _ B 3 _ t u3 h
  have hs : a.grownBy (((a.setCell ⟨B, 1, none⟩ u1).setCell ⟨B, 2, none⟩ u2).setCell ⟨B, 3, none⟩ u3) (some B) := gtrans (gsetCell _ _ _ _) (gtrans (gsetCell _ _ _ _) (gsetCell _ _ _ _))
  exact ⟨h, hs, gnew hg hs hB⟩
theorem set4w {w a : World} {B : Nat} {r : Option Nat} {t : TypeId} {a0 a1 a2 a3 a4 : Value} (u4 : Value) (h : a.heap[B]? = some (.cells #[a0, a1, a2, a3, a4] t (0, 0))) (hg : w.grownBy a r) (hB : w.heap.size ≤ B) :
    (a.setCell ⟨B, 4, none⟩ u4).heap[B]? = some (.cells #[a0, a1, a2, a3, u4] t (0, 0)) ∧ a.grownBy (a.setCell ⟨B, 4, none⟩ u4) (some B) ∧ w.grownBy (a.setCell ⟨B, 4, none⟩ u4) r := by
  have h := heap_setCell_same _ B 4 _ t u4 h
  have hs : a.grownBy (a.setCell ⟨B, 4, none⟩ u4) (some B) := gsetCell _ _ _ _
  exact ⟨h, hs, gnew hg hs hB⟩
set_option maxRecDepth 100000 in
set_option maxHeartbeats 8000000 in
theorem command_none {C g : Nat} {xs : List Nat} (z : Nat) (w : World) (h : Cur w C g xs 0 .nilIface) (hx : xs.length < 1000000) (hl : xs.length = 0) :
    Calls Tryd.prog 29 #[.pointer (some ⟨C, 0, none⟩), .int .i64 (z : Int)] w fun e w' => ∃ (c : Int) (a u r : Bool) (ad : Option Addr) (n cp : Nat), e = .returned (.agg #[.int .i64 c, .bool a, .bool u, .bool r, .slice ad n cp]) ∧ w.grownBy w' (some C) ∧ ∃ ev at_, Cur w' C g xs at_ ev ∧ Byt.Met w' ev 2 0 := by
  have HC := Lib.hid h.clt
  have HGL := Lib.hid h.glt
  have HX := Lib.hid hx
  have HA := al_any w (.cells #[.int .i64 0, .bool false, .bool false, .bool false, .slice none 0 0] 26)
  have HN := Lib.hid (heap_alloc_new w (.cells #[.int .i64 0, .bool false, .bool false, .bool false, .slice none 0 0] 26))
  have HW0 := Lib.hid (gbelow HA (some C))
  have HU := h.below HA
  have HWR := Lib.hid fun W => writes_any 0 W
  rw [show writes 0 = false by decide] at HWR
  have HLE := Lib.hid hl
  have HCMD := Lib.hid (takeCmd_none _ HU (by omega))
  clear h HU HA hx
  go_enter Tryd.func29, Tryd.ntmps29
  go_wp2_with fail
  generalize w.alloc (.cells #[.int .i64 0, .bool false, .bool false, .bool false, .slice none 0 0] 26) = wa at *
  with_reducible refine HCMD.out.mono ?_
  rintro e w1 ⟨rfl, ev, hu, hm, hg⟩
  have N1 := blk_g HN.out hg (by intro e; injection e with e; have := HC.out; omega)
  have HS := al_any w1 (.cells #[.int .i64 0, .bool false, .bool false, .bool false, .slice none 0 0] 26)
  have N2 := Lib.hid (blk N1 HS)
  have M2 := Lib.hid (heap_alloc_new w1 (.cells #[.int .i64 0, .bool false, .bool false, .bool false, .slice none 0 0] 26))
  have U2 := Lib.hid (hu.below HS)
  have E2 := Lib.hid (hm.below HS)
  have G2 := Lib.hid (gtrans (gtrans HW0.out hg) (gbelow HS _))
  have HL := Lib.hid (show w.heap.size < w1.heap.size from there_lt N1)
  clear HCMD N1 hu hg HS HN HW0 hm
  go_wp2_with fail
  generalize w1.heap.size = L at *
  generalize w1.alloc (.cells #[.int .i64 0, .bool false, .bool false, .bool false, .slice none 0 0] 26) = w2 at *
  with_reducible refine (HWR.out w2).mono ?_
  rintro e w' ⟨rfl, rfl⟩
  have hq : ¬ 0 < xs.length := by omega
  go_wp2_with fail
  with_reducible refine (left_b w2 U2.out (by have := HX.out; omega)).mono ?_
  rintro e w3 ⟨rfl, hb⟩
  have N3 := Lib.hid (blk N2.out hb)
  have M3 := Lib.hid (blk M2.out hb)
  have U3 := Lib.hid (U2.out.below hb)
  have G3 := Lib.hid (gtrans G2.out (gbelow hb _))
  have E3 := Lib.hid (E2.out.below hb)
  clear hb
  obtain ⟨c0, c1, c2, c3, c4⟩ := cells5 M3.out
  obtain ⟨d0, d1, d2, d3, d4⟩ := cells5 N3.out
  obtain ⟨f0, f1, f2, f3, f4⟩ := free5 N3.out
  have D1 := Lib.hid d1
  have SF := Lib.hid (set5g (.int .i64 0) (.bool false) (.bool false) (.bool false) (.slice none 0 0) N3.out G3.out (Nat.le_refl _))
  go_wp2_with fail
  clear c0 c1 c2 c3 c4 d0 d1 d2 d3 d4 f0 f1 f2 f3 f4
  generalize ((((w3.setCell ⟨w.heap.size, 0, none⟩ (.int .i64 0)).setCell ⟨w.heap.size, 1, none⟩ (.bool false)).setCell ⟨w.heap.size, 2, none⟩ (.bool false)).setCell ⟨w.heap.size, 3, none⟩ (.bool false)).setCell ⟨w.heap.size, 4, none⟩ (.slice none 0 0) = wz at *
  refine bodyPost_ret (v := .agg #[.int .i64 0, .bool false, .bool false, .bool false, .slice none 0 0]) (results_cell_row rfl _ _ w.heap.size 26 _ (0, 0) _ rfl SF.out.1 Tryd.underlying26 rfl (by kernel_rfl)) rfl ?_
  exact ⟨_, _, _, _, _, _, _, rfl, SF.out.2.2, _, _, (U3.out.other SF.out.2.1 (by have := HC.out; omega) (by have := HGL.out; omega)), E3.out.other SF.out.2.1 (fun t x h => by rw [D1.out] at h; cases h)⟩
set_option maxRecDepth 100000 in
set_option maxHeartbeats 8000000 in
theorem command_strange {C g : Nat} {xs : List Nat} (z : Nat) (w : World) (h : Cur w C g xs 0 .nilIface) (hx : xs.length < 1000000) (hl : 0 < xs.length) (hb8 : xs.getD 0 0 < 256) (hk : known ((xs.getD 0 0 : Nat) : Int) = false) :
    Calls Tryd.prog 29 #[.pointer (some ⟨C, 0, none⟩), .int .i64 (z : Int)] w fun e w' => ∃ (c : Int) (a u r : Bool) (ad : Option Addr) (n cp : Nat), e = .returned (.agg #[.int .i64 c, .bool a, .bool u, .bool r, .slice ad n cp]) ∧ w.grownBy w' (some C) ∧ ∃ ev at_, Cur w' C g xs at_ ev ∧ Byt.Met w' ev 5 0 := by
  have HC := Lib.hid h.clt
  have HGL := Lib.hid h.glt
  have HX := Lib.hid hx
  have HA := al_any w (.cells #[.int .i64 0, .bool false, .bool false, .bool false, .slice none 0 0] 26)
  have HN := Lib.hid (heap_alloc_new w (.cells #[.int .i64 0, .bool false, .bool false, .bool false, .slice none 0 0] 26))
  have HW0 := Lib.hid (gbelow HA (some C))
  have HU := h.below HA
  have HWR := Lib.hid fun W => writes_any 0 W
  rw [show writes 0 = false by decide] at HWR
  have HCMD := Lib.hid (takeCmd_bad _ HU hl hb8 hk)
  clear h HU HA hx
  go_enter Tryd.func29, Tryd.ntmps29
  go_wp2_with fail
  generalize w.alloc (.cells #[.int .i64 0, .bool false, .bool false, .bool false, .slice none 0 0] 26) = wa at *
  with_reducible refine HCMD.out.mono ?_
  rintro e w1 ⟨rfl, ev, hu, hm, hg⟩
  have N1 := blk_g HN.out hg (by intro e; injection e with e; have := HC.out; omega)
  have HS := al_any w1 (.cells #[.int .i64 0, .bool false, .bool false, .bool false, .slice none 0 0] 26)
  have N2 := Lib.hid (blk N1 HS)
  have M2 := Lib.hid (heap_alloc_new w1 (.cells #[.int .i64 0, .bool false, .bool false, .bool false, .slice none 0 0] 26))
  have U2 := Lib.hid (hu.below HS)
  have E2 := Lib.hid (hm.below HS)
  have G2 := Lib.hid (gtrans (gtrans HW0.out hg) (gbelow HS _))
  have HL := Lib.hid (show w.heap.size < w1.heap.size from there_lt N1)
  clear HCMD N1 hu hg HS HN HW0 hm
  go_wp2_with fail
  generalize w1.heap.size = L at *
  generalize w1.alloc (.cells #[.int .i64 0, .bool false, .bool false, .bool false, .slice none 0 0] 26) = w2 at *
  with_reducible refine (HWR.out w2).mono ?_
  rintro e w' ⟨rfl, rfl⟩
  go_wp2_with fail
  with_reducible refine (left_b w2 U2.out (by have := HX.out; omega)).mono ?_
  rintro e w3 ⟨rfl, hb⟩
  have N3 := Lib.hid (blk N2.out hb)
  have M3 := Lib.hid (blk M2.out hb)
  have U3 := Lib.hid (U2.out.below hb)
  have G3 := Lib.hid (gtrans G2.out (gbelow hb _))
  have E3 := Lib.hid (E2.out.below hb)
  clear hb
  have E4 := E3.out
  obtain ⟨b, rfl, _⟩ := E4
  go_wp2_with fail
  with_reducible refine (fail_met _ w3 U3.out).mono ?_
  rintro e w' ⟨rfl, rfl⟩
  obtain ⟨c0, c1, c2, c3, c4⟩ := cells5 M3.out
  obtain ⟨d0, d1, d2, d3, d4⟩ := cells5 N3.out
  obtain ⟨f0, f1, f2, f3, f4⟩ := free5 N3.out
  have D1 := Lib.hid d1
  have SF := Lib.hid (set5g (.int .i64 0) (.bool false) (.bool false) (.bool false) (.slice none 0 0) N3.out G3.out (Nat.le_refl _))
  go_wp2_with fail
  clear c0 c1 c2 c3 c4 d0 d1 d2 d3 d4 f0 f1 f2 f3 f4
  generalize ((((w3.setCell ⟨w.heap.size, 0, none⟩ (.int .i64 0)).setCell ⟨w.heap.size, 1, none⟩ (.bool false)).setCell ⟨w.heap.size, 2, none⟩ (.bool false)).setCell ⟨w.heap.size, 3, none⟩ (.bool false)).setCell ⟨w.heap.size, 4, none⟩ (.slice none 0 0) = wz at *
  refine bodyPost_ret (v := .agg #[.int .i64 0, .bool false, .bool false, .bool false, .slice none 0 0]) (results_cell_row rfl _ _ w.heap.size 26 _ (0, 0) _ rfl SF.out.1 Tryd.underlying26 rfl (by kernel_rfl)) rfl ?_
  exact ⟨_, _, _, _, _, _, _, rfl, SF.out.2.2, _, _, (U3.out.other SF.out.2.1 (by have := HC.out; omega) (by have := HGL.out; omega)), E3.out.other SF.out.2.1 (fun t x h => by rw [D1.out] at h; cases h)⟩
set_option maxRecDepth 100000 in
set_option maxHeartbeats 8000000 in
theorem command_bare {C g : Nat} {xs : List Nat} (z : Nat) (w : World) (h : Cur w C g xs 0 .nilIface) (hx : xs.length < 1000000) (hl : 0 < xs.length) (hb8 : xs.getD 0 0 < 256) (cmd : Nat) (hcm : xs.getD 0 0 = cmd) (hk : known (cmd : Int) = true) (hw : writes (cmd : Int) = false) (h1 : xs.length = 1) :
    Calls Tryd.prog 29 #[.pointer (some ⟨C, 0, none⟩), .int .i64 (z : Int)] w fun e w' => ∃ ad n cp, e = .returned (.agg #[.int .i64 (cmd : Int), .bool false, .bool false, .bool false, .slice ad n cp]) ∧ w.grownBy w' (some C) ∧ OrdsIn w' w.heap.size (.slice ad n cp) [] ∧ ∃ at_, Cur w' C g xs at_ .nilIface := by
  have HC := Lib.hid h.clt
  have HGL := Lib.hid h.glt
  have HX := Lib.hid hx
  have HA := al_any w (.cells #[.int .i64 0, .bool false, .bool false, .bool false, .slice none 0 0] 26)
  have HN := Lib.hid (heap_alloc_new w (.cells #[.int .i64 0, .bool false, .bool false, .bool false, .slice none 0 0] 26))
  have HW0 := Lib.hid (gbelow HA (some C))
  have HU := h.below HA
  rw [hcm] at hb8
  have HWR := Lib.hid fun W => writes_any (cmd : Int) W
  rw [hw] at HWR
  have HTC := takeCmd_ok _ HU (by omega) hl (by rw [hcm]; exact hb8) (by rw [hcm]; exact hk)
  rw [hcm] at HTC
  clear hk hw hcm hb8
  have HCMD := Lib.hid (HTC)
  clear h HU HA hx
  go_enter Tryd.func29, Tryd.ntmps29
  go_wp2_with fail
  generalize w.alloc (.cells #[.int .i64 0, .bool false, .bool false, .bool false, .slice none 0 0] 26) = wa at *
  with_reducible refine HCMD.out.mono ?_
  rintro e w1 ⟨rfl, hu, hg⟩
  have N1 := blk_g HN.out hg (by intro e; injection e with e; have := HC.out; omega)
  have HS := al_any w1 (.cells #[.int .i64 (cmd : Int), .bool false, .bool false, .bool false, .slice none 0 0] 26)
  have N2 := Lib.hid (blk N1 HS)
  have M2 := Lib.hid (heap_alloc_new w1 (.cells #[.int .i64 (cmd : Int), .bool false, .bool false, .bool false, .slice none 0 0] 26))
  have U2 := Lib.hid (hu.below HS)
  have G2 := Lib.hid (gtrans (gtrans HW0.out hg) (gbelow HS _))
  have HL := Lib.hid (show w.heap.size < w1.heap.size from there_lt N1)
  clear HCMD HTC N1 hu hg HS HN HW0
  go_wp2_with fail
  generalize w1.heap.size = L at *
  generalize w1.alloc (.cells #[.int .i64 (cmd : Int), .bool false, .bool false, .bool false, .slice none 0 0] 26) = w2 at *
  with_reducible refine (HWR.out w2).mono ?_
  rintro e w' ⟨rfl, rfl⟩
  have hq : ¬ 0 < xs.length - (0 + 1) := by omega
  go_wp2_with fail
  with_reducible refine (left_b w2 U2.out (by have := HX.out; omega)).mono ?_
  rintro e w3 ⟨rfl, hb⟩
  have N3 := Lib.hid (blk N2.out hb)
  have M3 := Lib.hid (blk M2.out hb)
  have U3 := Lib.hid (U2.out.below hb)
  have G3 := Lib.hid (gtrans G2.out (gbelow hb _))
  clear hb
  obtain ⟨c0, c1, c2, c3, c4⟩ := cells5 M3.out
  obtain ⟨d0, d1, d2, d3, d4⟩ := cells5 N3.out
  obtain ⟨f0, f1, f2, f3, f4⟩ := free5 N3.out
  have D1 := Lib.hid d1
  have SF := Lib.hid (set5g (.int .i64 (cmd : Int)) (.bool false) (.bool false) (.bool false) (.slice none 0 0) N3.out G3.out (Nat.le_refl _))
  go_wp2_with fail
  clear c0 c1 c2 c3 c4 d0 d1 d2 d3 d4 f0 f1 f2 f3 f4
  generalize ((((w3.setCell ⟨w.heap.size, 0, none⟩ (.int .i64 (cmd : Int))).setCell ⟨w.heap.size, 1, none⟩ (.bool false)).setCell ⟨w.heap.size, 2, none⟩ (.bool false)).setCell ⟨w.heap.size, 3, none⟩ (.bool false)).setCell ⟨w.heap.size, 4, none⟩ (.slice none 0 0) = wz at *
  refine bodyPost_ret (v := .agg #[.int .i64 (cmd : Int), .bool false, .bool false, .bool false, .slice none 0 0]) (results_cell_row rfl _ _ w.heap.size 26 _ (0, 0) _ rfl SF.out.1 Tryd.underlying26 rfl (by kernel_rfl)) rfl ?_
  exact ⟨_, _, _, rfl, SF.out.2.2, ordsIn_nil _ _, _, (U3.out.other SF.out.2.1 (by have := HC.out; omega) (by have := HGL.out; omega))⟩
set_option maxRecDepth 100000 in
set_option maxHeartbeats 8000000 in
theorem command_more {C g : Nat} {xs : List Nat} (z : Nat) (w : World) (h : Cur w C g xs 0 .nilIface) (hx : xs.length < 1000000) (hl : 0 < xs.length) (hb8 : xs.getD 0 0 < 256) (cmd : Nat) (hcm : xs.getD 0 0 = cmd) (hk : known (cmd : Int) = true) (hw : writes (cmd : Int) = false) (h1 : 1 < xs.length) :
    Calls Tryd.prog 29 #[.pointer (some ⟨C, 0, none⟩), .int .i64 (z : Int)] w fun e w' => ∃ (c : Int) (a u r : Bool) (ad : Option Addr) (n cp : Nat), e = .returned (.agg #[.int .i64 c, .bool a, .bool u, .bool r, .slice ad n cp]) ∧ w.grownBy w' (some C) ∧ ∃ ev at_, Cur w' C g xs at_ ev ∧ Byt.Met w' ev 1 1 := by
  have HC := Lib.hid h.clt
  have HGL := Lib.hid h.glt
  have HX := Lib.hid hx
  have HA := al_any w (.cells #[.int .i64 0, .bool false, .bool false, .bool false, .slice none 0 0] 26)
  have HN := Lib.hid (heap_alloc_new w (.cells #[.int .i64 0, .bool false, .bool false, .bool false, .slice none 0 0] 26))
  have HW0 := Lib.hid (gbelow HA (some C))
  have HU := h.below HA
  rw [hcm] at hb8
  have HWR := Lib.hid fun W => writes_any (cmd : Int) W
  rw [hw] at HWR
  have HTC := takeCmd_ok _ HU (by omega) hl (by rw [hcm]; exact hb8) (by rw [hcm]; exact hk)
  rw [hcm] at HTC
  clear hk hw hcm hb8
  have HCMD := Lib.hid (HTC)
  clear h HU HA hx
  go_enter Tryd.func29, Tryd.ntmps29
  go_wp2_with fail
  generalize w.alloc (.cells #[.int .i64 0, .bool false, .bool false, .bool false, .slice none 0 0] 26) = wa at *
  with_reducible refine HCMD.out.mono ?_
  rintro e w1 ⟨rfl, hu, hg⟩
  have N1 := blk_g HN.out hg (by intro e; injection e with e; have := HC.out; omega)
  have HS := al_any w1 (.cells #[.int .i64 (cmd : Int), .bool false, .bool false, .bool false, .slice none 0 0] 26)
  have N2 := Lib.hid (blk N1 HS)
  have M2 := Lib.hid (heap_alloc_new w1 (.cells #[.int .i64 (cmd : Int), .bool false, .bool false, .bool false, .slice none 0 0] 26))
  have U2 := Lib.hid (hu.below HS)
  have G2 := Lib.hid (gtrans (gtrans HW0.out hg) (gbelow HS _))
  have HL := Lib.hid (show w.heap.size < w1.heap.size from there_lt N1)
  clear HCMD HTC N1 hu hg HS HN HW0
  go_wp2_with fail
  generalize w1.heap.size = L at *
  generalize w1.alloc (.cells #[.int .i64 (cmd : Int), .bool false, .bool false, .bool false, .slice none 0 0] 26) = w2 at *
  with_reducible refine (HWR.out w2).mono ?_
  rintro e w' ⟨rfl, rfl⟩
  have hq : 0 < xs.length - (0 + 1) := by omega
  go_wp2_with fail
  with_reducible refine (left_b w2 U2.out (by have := HX.out; omega)).mono ?_
  rintro e w3 ⟨rfl, hb⟩
  have N3 := Lib.hid (blk N2.out hb)
  have M3 := Lib.hid (blk M2.out hb)
  have U3 := Lib.hid (U2.out.below hb)
  have G3 := Lib.hid (gtrans G2.out (gbelow hb _))
  clear hb
  go_wp2_with fail
  have HF := Lib.hid (fail_new (d := 0) (.iface 55 (.int .i64 1)) 1 w3 U3.out rfl)
  with_reducible refine HF.out.mono ?_
  clear HF
  rintro e w4 ⟨rfl, ev, hu, hm, hg⟩
  have N4 := Lib.hid (blk_g N3.out hg (by intro e; injection e with e; have := HC.out; omega))
  have M4 := Lib.hid (blk_g M3.out hg (by intro e; injection e with e; have := HC.out; have := HL.out; omega))
  have U4 := Lib.hid hu
  have G4 := Lib.hid (gtrans G3.out hg)
  have E4 := Lib.hid hm
  clear hu hm hg
  obtain ⟨c0, c1, c2, c3, c4⟩ := cells5 M4.out
  obtain ⟨d0, d1, d2, d3, d4⟩ := cells5 N4.out
  obtain ⟨f0, f1, f2, f3, f4⟩ := free5 N4.out
  have D1 := Lib.hid d1
  have SF := Lib.hid (set5g (.int .i64 (cmd : Int)) (.bool false) (.bool false) (.bool false) (.slice none 0 0) N4.out G4.out (Nat.le_refl _))
  go_wp2_with fail
  clear c0 c1 c2 c3 c4 d0 d1 d2 d3 d4 f0 f1 f2 f3 f4
  generalize ((((w4.setCell ⟨w.heap.size, 0, none⟩ (.int .i64 (cmd : Int))).setCell ⟨w.heap.size, 1, none⟩ (.bool false)).setCell ⟨w.heap.size, 2, none⟩ (.bool false)).setCell ⟨w.heap.size, 3, none⟩ (.bool false)).setCell ⟨w.heap.size, 4, none⟩ (.slice none 0 0) = wz at *
  refine bodyPost_ret (v := .agg #[.int .i64 (cmd : Int), .bool false, .bool false, .bool false, .slice none 0 0]) (results_cell_row rfl _ _ w.heap.size 26 _ (0, 0) _ rfl SF.out.1 Tryd.underlying26 rfl (by kernel_rfl)) rfl ?_
  exact ⟨_, _, _, _, _, _, _, rfl, SF.out.2.2, _, _, (U4.out.other SF.out.2.1 (by have := HC.out; omega) (by have := HGL.out; omega)), E4.out.other SF.out.2.1 (fun t x h => by rw [D1.out] at h; cases h)⟩
set_option maxRecDepth 100000 in
set_option maxHeartbeats 8000000 in
theorem command_cut {C g : Nat} {xs : List Nat} (z : Nat) (w : World) (h : Cur w C g xs 0 .nilIface) (hx : xs.length < 1000000) (hl : 0 < xs.length) (hb8 : xs.getD 0 0 < 256) (cmd : Nat) (hcm : xs.getD 0 0 = cmd) (hk : known (cmd : Int) = true) (hw : writes (cmd : Int) = true) (h1 : xs.length = 1) :
    Calls Tryd.prog 29 #[.pointer (some ⟨C, 0, none⟩), .int .i64 (z : Int)] w fun e w' => ∃ (c : Int) (a u r : Bool) (ad : Option Addr) (n cp : Nat), e = .returned (.agg #[.int .i64 c, .bool a, .bool u, .bool r, .slice ad n cp]) ∧ w.grownBy w' (some C) ∧ ∃ ev at_, Cur w' C g xs at_ ev ∧ Byt.Met w' ev 2 1 := by
  have HC := Lib.hid h.clt
  have HGL := Lib.hid h.glt
  have HX := Lib.hid hx
  have HA := al_any w (.cells #[.int .i64 0, .bool false, .bool false, .bool false, .slice none 0 0] 26)
  have HN := Lib.hid (heap_alloc_new w (.cells #[.int .i64 0, .bool false, .bool false, .bool false, .slice none 0 0] 26))
  have HW0 := Lib.hid (gbelow HA (some C))
  have HU := h.below HA
  rw [hcm] at hb8
  have HWR := Lib.hid fun W => writes_any (cmd : Int) W
  rw [hw] at HWR
  have HTC := takeCmd_ok _ HU (by omega) hl (by rw [hcm]; exact hb8) (by rw [hcm]; exact hk)
  rw [hcm] at HTC
  clear hk hw hcm hb8
  have HCMD := Lib.hid (HTC)
  clear h HU HA hx
  go_enter Tryd.func29, Tryd.ntmps29
  go_wp2_with fail
  generalize w.alloc (.cells #[.int .i64 0, .bool false, .bool false, .bool false, .slice none 0 0] 26) = wa at *
  with_reducible refine HCMD.out.mono ?_
  rintro e w1 ⟨rfl, hu, hg⟩
  have N1 := blk_g HN.out hg (by intro e; injection e with e; have := HC.out; omega)
  have HS := al_any w1 (.cells #[.int .i64 (cmd : Int), .bool false, .bool false, .bool false, .slice none 0 0] 26)
  have N2 := Lib.hid (blk N1 HS)
  have M2 := Lib.hid (heap_alloc_new w1 (.cells #[.int .i64 (cmd : Int), .bool false, .bool false, .bool false, .slice none 0 0] 26))
  have U2 := Lib.hid (hu.below HS)
  have G2 := Lib.hid (gtrans (gtrans HW0.out hg) (gbelow HS _))
  have HL := Lib.hid (show w.heap.size < w1.heap.size from there_lt N1)
  clear HCMD HTC N1 hu hg HS HN HW0
  go_wp2_with fail
  generalize w1.heap.size = L at *
  generalize w1.alloc (.cells #[.int .i64 (cmd : Int), .bool false, .bool false, .bool false, .slice none 0 0] 26) = w2 at *
  with_reducible refine (HWR.out w2).mono ?_
  rintro e w' ⟨rfl, rfl⟩
  go_wp2_with fail
  with_reducible refine (takeWcc_none w2 U2.out (by omega)).mono ?_
  rintro e w3 ⟨rfl, ev, hu, hm, hg⟩
  have N3 := Lib.hid (blk_g N2.out hg (by intro e; injection e with e; have := HC.out; omega))
  have M3 := Lib.hid (blk_g M2.out hg (by intro e; injection e with e; have := HC.out; have := HL.out; omega))
  have U3 := Lib.hid hu
  have G3 := Lib.hid (gtrans G2.out hg)
  have E3 := Lib.hid hm
  clear hu hg hm N2 M2 U2 G2
  obtain ⟨c0, c1, c2, c3, c4⟩ := cells5 M3.out
  obtain ⟨f0, f1, f2, f3, f4⟩ := free5 M3.out
  have C1 := Lib.hid c1
  have SF := Lib.hid (set13g (.bool false) (.bool false) (.bool false) M3.out G3.out (Nat.le_of_lt HL.out))
  go_wp2_with fail
  clear c0 c1 c2 c3 c4 f0 f1 f2 f3 f4
  generalize ((w3.setCell ⟨L, 1, none⟩ (.bool false)).setCell ⟨L, 2, none⟩ (.bool false)).setCell ⟨L, 3, none⟩ (.bool false) = w4 at *
  have M4 := Lib.hid SF.out.1
  have N4 := Lib.hid (blk_g N3.out SF.out.2.1 (by intro e; injection e with e; have := HL.out; omega))
  have U4 := Lib.hid (U3.out.other SF.out.2.1 (by have := HC.out; have := HL.out; omega) (by have := HGL.out; have := HL.out; omega))
  have G4 := Lib.hid SF.out.2.2
  have E4 := Lib.hid (E3.out.other SF.out.2.1 (fun t x h => by rw [C1.out] at h; cases h))
  clear SF N3 M3 U3 G3 C1 E3
  have E4b := E4.out
  obtain ⟨b, rfl, _⟩ := E4b
  with_reducible refine (takeOrders_met (z : Int) w4 U4.out E4.out HX.out).mono ?_
  rintro e w5 ⟨rfl, hu, hm, hg⟩
  have N5 := Lib.hid (blk_g N4.out hg (by intro e; injection e with e; have := HC.out; omega))
  have M5 := Lib.hid (blk_g M4.out hg (by intro e; injection e with e; have := HC.out; have := HL.out; omega))
  have U5 := Lib.hid hu
  have G5 := Lib.hid (gtrans G4.out hg)
  have E5 := Lib.hid hm
  clear hu hg hm N4 M4 U4 G4
  obtain ⟨c0, c1, c2, c3, c4⟩ := cells5 M5.out
  obtain ⟨f0, f1, f2, f3, f4⟩ := free5 M5.out
  have C1 := Lib.hid c1
  have SF := Lib.hid (set4w (.slice none 0 0) M5.out G5.out (Nat.le_of_lt HL.out))
  go_upto_region 7 with (fail)
  clear c0 c1 c2 c3 c4 f0 f1 f2 f3 f4
  generalize w5.setCell ⟨L, 4, none⟩ (.slice none 0 0) = w6 at *
  have M6 := Lib.hid SF.out.1
  have N6 := Lib.hid (blk_g N5.out SF.out.2.1 (by intro e; injection e with e; have := HL.out; omega))
  have U6 := Lib.hid (U5.out.other SF.out.2.1 (by have := HC.out; have := HL.out; omega) (by have := HGL.out; have := HL.out; omega))
  have G6 := Lib.hid SF.out.2.2
  have E6 := Lib.hid (E5.out.other SF.out.2.1 (fun t x h => by rw [C1.out] at h; cases h))
  clear SF N5 M5 U5 G5 C1 E5
  obtain ⟨c0, c1, c2, c3, c4⟩ := cells5 M6.out
  obtain ⟨d0, d1, d2, d3, d4⟩ := cells5 N6.out
  obtain ⟨f0, f1, f2, f3, f4⟩ := free5 N6.out
  have D1 := Lib.hid d1
  have SF := Lib.hid (set5g (.int .i64 (cmd : Int)) (.bool false) (.bool false) (.bool false) (.slice none 0 0) N6.out G6.out (Nat.le_refl _))
  go_wp2_with fail
  clear c0 c1 c2 c3 c4 d0 d1 d2 d3 d4 f0 f1 f2 f3 f4
  generalize ((((w6.setCell ⟨w.heap.size, 0, none⟩ (.int .i64 (cmd : Int))).setCell ⟨w.heap.size, 1, none⟩ (.bool false)).setCell ⟨w.heap.size, 2, none⟩ (.bool false)).setCell ⟨w.heap.size, 3, none⟩ (.bool false)).setCell ⟨w.heap.size, 4, none⟩ (.slice none 0 0) = wz at *
  refine bodyPost_ret (v := .agg #[.int .i64 (cmd : Int), .bool false, .bool false, .bool false, .slice none 0 0]) (results_cell_row rfl _ _ w.heap.size 26 _ (0, 0) _ rfl SF.out.1 Tryd.underlying26 rfl (by kernel_rfl)) rfl ?_
  exact ⟨_, _, _, _, _, _, _, rfl, SF.out.2.2, _, _, (U6.out.other SF.out.2.1 (by have := HC.out; omega) (by have := HGL.out; omega)), E6.out.other SF.out.2.1 (fun t x h => by rw [D1.out] at h; cases h)⟩
set_option maxRecDepth 100000 in
set_option maxHeartbeats 8000000 in
theorem command_wcc {C g : Nat} {xs : List Nat} (z : Nat) (w : World) (h : Cur w C g xs 0 .nilIface) (hx : xs.length < 1000000) (hl : 0 < xs.length) (hb8 : xs.getD 0 0 < 256) (cmd : Nat) (hcm : xs.getD 0 0 = cmd) (hk : known (cmd : Int) = true) (hw : writes (cmd : Int) = true) (h1 : 1 < xs.length) (hy8 : xs.getD 1 0 < 256) (hn : noWrite (xs.getD 1 0) = true) :
    Calls Tryd.prog 29 #[.pointer (some ⟨C, 0, none⟩), .int .i64 (z : Int)] w fun e w' => ∃ (c : Int) (a u r : Bool) (ad : Option Addr) (n cp : Nat), e = .returned (.agg #[.int .i64 c, .bool a, .bool u, .bool r, .slice ad n cp]) ∧ w.grownBy w' (some C) ∧ ∃ ev at_, Cur w' C g xs at_ ev ∧ Byt.Met w' ev 3 1 := by
  have HC := Lib.hid h.clt
  have HGL := Lib.hid h.glt
  have HX := Lib.hid hx
  have HA := al_any w (.cells #[.int .i64 0, .bool false, .bool false, .bool false, .slice none 0 0] 26)
  have HN := Lib.hid (heap_alloc_new w (.cells #[.int .i64 0, .bool false, .bool false, .bool false, .slice none 0 0] 26))
  have HW0 := Lib.hid (gbelow HA (some C))
  have HU := h.below HA
  rw [hcm] at hb8
  have HWR := Lib.hid fun W => writes_any (cmd : Int) W
  rw [hw] at HWR
  have HTC := takeCmd_ok _ HU (by omega) hl (by rw [hcm]; exact hb8) (by rw [hcm]; exact hk)
  rw [hcm] at HTC
  clear hk hw hcm hb8
  have HCMD := Lib.hid (HTC)
  clear h HU HA hx
  go_enter Tryd.func29, Tryd.ntmps29
  go_wp2_with fail
  generalize w.alloc (.cells #[.int .i64 0, .bool false, .bool false, .bool false, .slice none 0 0] 26) = wa at *
  with_reducible refine HCMD.out.mono ?_
  rintro e w1 ⟨rfl, hu, hg⟩
  have N1 := blk_g HN.out hg (by intro e; injection e with e; have := HC.out; omega)
  have HS := al_any w1 (.cells #[.int .i64 (cmd : Int), .bool false, .bool false, .bool false, .slice none 0 0] 26)
  have N2 := Lib.hid (blk N1 HS)
  have M2 := Lib.hid (heap_alloc_new w1 (.cells #[.int .i64 (cmd : Int), .bool false, .bool false, .bool false, .slice none 0 0] 26))
  have U2 := Lib.hid (hu.below HS)
  have G2 := Lib.hid (gtrans (gtrans HW0.out hg) (gbelow HS _))
  have HL := Lib.hid (show w.heap.size < w1.heap.size from there_lt N1)
  clear HCMD HTC N1 hu hg HS HN HW0
  go_wp2_with fail
  generalize w1.heap.size = L at *
  generalize w1.alloc (.cells #[.int .i64 (cmd : Int), .bool false, .bool false, .bool false, .slice none 0 0] 26) = w2 at *
  with_reducible refine (HWR.out w2).mono ?_
  rintro e w' ⟨rfl, rfl⟩
  go_wp2_with fail
  with_reducible refine (takeWcc_bad w2 U2.out (by omega) hy8 hn).mono ?_
  rintro e w3 ⟨rfl, ev, hu, hm, hg⟩
  have N3 := Lib.hid (blk_g N2.out hg (by intro e; injection e with e; have := HC.out; omega))
  have M3 := Lib.hid (blk_g M2.out hg (by intro e; injection e with e; have := HC.out; have := HL.out; omega))
  have U3 := Lib.hid hu
  have G3 := Lib.hid (gtrans G2.out hg)
  have E3 := Lib.hid hm
  clear hu hg hm N2 M2 U2 G2
  obtain ⟨c0, c1, c2, c3, c4⟩ := cells5 M3.out
  obtain ⟨f0, f1, f2, f3, f4⟩ := free5 M3.out
  have C1 := Lib.hid c1
  have SF := Lib.hid (set13g (.bool false) (.bool false) (.bool false) M3.out G3.out (Nat.le_of_lt HL.out))
  go_wp2_with fail
  clear c0 c1 c2 c3 c4 f0 f1 f2 f3 f4
  generalize ((w3.setCell ⟨L, 1, none⟩ (.bool false)).setCell ⟨L, 2, none⟩ (.bool false)).setCell ⟨L, 3, none⟩ (.bool false) = w4 at *
  have M4 := Lib.hid SF.out.1
  have N4 := Lib.hid (blk_g N3.out SF.out.2.1 (by intro e; injection e with e; have := HL.out; omega))
  have U4 := Lib.hid (U3.out.other SF.out.2.1 (by have := HC.out; have := HL.out; omega) (by have := HGL.out; have := HL.out; omega))
  have G4 := Lib.hid SF.out.2.2
  have E4 := Lib.hid (E3.out.other SF.out.2.1 (fun t x h => by rw [C1.out] at h; cases h))
  clear SF N3 M3 U3 G3 C1 E3
  have E4b := E4.out
  obtain ⟨b, rfl, _⟩ := E4b
  with_reducible refine (takeOrders_met (z : Int) w4 U4.out E4.out HX.out).mono ?_
  rintro e w5 ⟨rfl, hu, hm, hg⟩
  have N5 := Lib.hid (blk_g N4.out hg (by intro e; injection e with e; have := HC.out; omega))
  have M5 := Lib.hid (blk_g M4.out hg (by intro e; injection e with e; have := HC.out; have := HL.out; omega))
  have U5 := Lib.hid hu
  have G5 := Lib.hid (gtrans G4.out hg)
  have E5 := Lib.hid hm
  clear hu hg hm N4 M4 U4 G4
  obtain ⟨c0, c1, c2, c3, c4⟩ := cells5 M5.out
  obtain ⟨f0, f1, f2, f3, f4⟩ := free5 M5.out
  have C1 := Lib.hid c1
  have SF := Lib.hid (set4w (.slice none 0 0) M5.out G5.out (Nat.le_of_lt HL.out))
  go_upto_region 7 with (fail)
  clear c0 c1 c2 c3 c4 f0 f1 f2 f3 f4
  generalize w5.setCell ⟨L, 4, none⟩ (.slice none 0 0) = w6 at *
  have M6 := Lib.hid SF.out.1
  have N6 := Lib.hid (blk_g N5.out SF.out.2.1 (by intro e; injection e with e; have := HL.out; omega))
  have U6 := Lib.hid (U5.out.other SF.out.2.1 (by have := HC.out; have := HL.out; omega) (by have := HGL.out; have := HL.out; omega))
  have G6 := Lib.hid SF.out.2.2
  have E6 := Lib.hid (E5.out.other SF.out.2.1 (fun t x h => by rw [C1.out] at h; cases h))
  clear SF N5 M5 U5 G5 C1 E5
  obtain ⟨c0, c1, c2, c3, c4⟩ := cells5 M6.out
  obtain ⟨d0, d1, d2, d3, d4⟩ := cells5 N6.out
  obtain ⟨f0, f1, f2, f3, f4⟩ := free5 N6.out
  have D1 := Lib.hid d1
  have SF := Lib.hid (set5g (.int .i64 (cmd : Int)) (.bool false) (.bool false) (.bool false) (.slice none 0 0) N6.out G6.out (Nat.le_refl _))
  go_wp2_with fail
  clear c0 c1 c2 c3 c4 d0 d1 d2 d3 d4 f0 f1 f2 f3 f4
  generalize ((((w6.setCell ⟨w.heap.size, 0, none⟩ (.int .i64 (cmd : Int))).setCell ⟨w.heap.size, 1, none⟩ (.bool false)).setCell ⟨w.heap.size, 2, none⟩ (.bool false)).setCell ⟨w.heap.size, 3, none⟩ (.bool false)).setCell ⟨w.heap.size, 4, none⟩ (.slice none 0 0) = wz at *
  refine bodyPost_ret (v := .agg #[.int .i64 (cmd : Int), .bool false, .bool false, .bool false, .slice none 0 0]) (results_cell_row rfl _ _ w.heap.size 26 _ (0, 0) _ rfl SF.out.1 Tryd.underlying26 rfl (by kernel_rfl)) rfl ?_
  exact ⟨_, _, _, _, _, _, _, rfl, SF.out.2.2, _, _, (U6.out.other SF.out.2.1 (by have := HC.out; omega) (by have := HGL.out; omega)), E6.out.other SF.out.2.1 (fun t x h => by rw [D1.out] at h; cases h)⟩
set_option maxRecDepth 100000 in
set_option maxHeartbeats 8000000 in
theorem command_orders {C g : Nat} {xs : List Nat} (z : Nat) (w : World) (h : Cur w C g xs 0 .nilIface) (hx : xs.length < 1000000) (hl : 0 < xs.length) (hb8 : xs.getD 0 0 < 256) (cmd : Nat) (hcm : xs.getD 0 0 = cmd) (hk : known (cmd : Int) = true) (hw : writes (cmd : Int) = true) (h1 : 1 < xs.length) (h8 : ∀ x ∈ xs, x < 256) (p n m : Bool) (hb : xs.getD 1 0 = put (wnum p n m)) (R : List O × Nat × Nat) (hR : R = ords z (xs.length - 2) 2 (xs.drop 2)) (hE : R.2.1 = 0) :
    Calls Tryd.prog 29 #[.pointer (some ⟨C, 0, none⟩), .int .i64 (z : Int)] w fun e w' => ∃ ad k cp, e = .returned (.agg #[.int .i64 (cmd : Int), .bool p, .bool n, .bool m, .slice ad k cp]) ∧ w.grownBy w' (some C) ∧ OrdsIn w' w.heap.size (.slice ad k cp) R.1 ∧ ∃ at_, Cur w' C g xs at_ .nilIface := by
  have HC := Lib.hid h.clt
  have HGL := Lib.hid h.glt
  have HX := Lib.hid hx
  have HA := al_any w (.cells #[.int .i64 0, .bool false, .bool false, .bool false, .slice none 0 0] 26)
  have HN := Lib.hid (heap_alloc_new w (.cells #[.int .i64 0, .bool false, .bool false, .bool false, .slice none 0 0] 26))
  have HW0 := Lib.hid (gbelow HA (some C))
  have HU := h.below HA
  rw [hcm] at hb8
  have HWR := Lib.hid fun W => writes_any (cmd : Int) W
  rw [hw] at HWR
  have HTC := takeCmd_ok _ HU (by omega) hl (by rw [hcm]; exact hb8) (by rw [hcm]; exact hk)
  rw [hcm] at HTC
  clear hk hw hcm hb8
  have HCMD := Lib.hid (HTC)
  clear h HU HA hx
  go_enter Tryd.func29, Tryd.ntmps29
  go_wp2_with fail
  generalize w.alloc (.cells #[.int .i64 0, .bool false, .bool false, .bool false, .slice none 0 0] 26) = wa at *
  with_reducible refine HCMD.out.mono ?_
  rintro e w1 ⟨rfl, hu, hg⟩
  have N1 := blk_g HN.out hg (by intro e; injection e with e; have := HC.out; omega)
  have HS := al_any w1 (.cells #[.int .i64 (cmd : Int), .bool false, .bool false, .bool false, .slice none 0 0] 26)
  have N2 := Lib.hid (blk N1 HS)
  have M2 := Lib.hid (heap_alloc_new w1 (.cells #[.int .i64 (cmd : Int), .bool false, .bool false, .bool false, .slice none 0 0] 26))
  have U2 := Lib.hid (hu.below HS)
  have G2 := Lib.hid (gtrans (gtrans HW0.out hg) (gbelow HS _))
  have HL := Lib.hid (show w.heap.size < w1.heap.size from there_lt N1)
  clear HCMD HTC N1 hu hg HS HN HW0
  go_wp2_with fail
  generalize w1.heap.size = L at *
  generalize w1.alloc (.cells #[.int .i64 (cmd : Int), .bool false, .bool false, .bool false, .slice none 0 0] 26) = w2 at *
  with_reducible refine (HWR.out w2).mono ?_
  rintro e w' ⟨rfl, rfl⟩
  go_wp2_with fail
  with_reducible refine (takeWcc_ok w2 U2.out (by have := HX.out; omega) (by omega) p n m hb).mono ?_
  rintro e w3 ⟨rfl, hu, hg⟩
  have N3 := Lib.hid (blk_g N2.out hg (by intro e; injection e with e; have := HC.out; omega))
  have M3 := Lib.hid (blk_g M2.out hg (by intro e; injection e with e; have := HC.out; have := HL.out; omega))
  have U3 := Lib.hid hu
  have G3 := Lib.hid (gtrans G2.out hg)
  clear hu hg N2 M2 U2 G2
  obtain ⟨c0, c1, c2, c3, c4⟩ := cells5 M3.out
  obtain ⟨f0, f1, f2, f3, f4⟩ := free5 M3.out
  have C1 := Lib.hid c1
  have SF := Lib.hid (set13g (.bool p) (.bool n) (.bool m) M3.out G3.out (Nat.le_of_lt HL.out))
  go_wp2_with fail
  clear c0 c1 c2 c3 c4 f0 f1 f2 f3 f4
  generalize ((w3.setCell ⟨L, 1, none⟩ (.bool p)).setCell ⟨L, 2, none⟩ (.bool n)).setCell ⟨L, 3, none⟩ (.bool m) = w4 at *
  have M4 := Lib.hid SF.out.1
  have N4 := Lib.hid (blk_g N3.out SF.out.2.1 (by intro e; injection e with e; have := HL.out; omega))
  have U4 := Lib.hid (U3.out.other SF.out.2.1 (by have := HC.out; have := HL.out; omega) (by have := HGL.out; have := HL.out; omega))
  have G4 := Lib.hid SF.out.2.2
  clear SF N3 M3 U3 G3 C1
  with_reducible refine (takeOrders_any z w4 U4.out h8 HX.out R hR).mono ?_
  rintro e w5 ⟨va, vn, vc, rfl, hg, hc⟩
  rcases hc with ⟨_, ho, hu⟩ | ⟨h0, _⟩
  rotate_left
  · exact absurd hE h0
  have N5 := Lib.hid (blk_g N4.out hg (by intro e; injection e with e; have := HC.out; omega))
  have M5 := Lib.hid (blk_g M4.out hg (by intro e; injection e with e; have := HC.out; have := HL.out; omega))
  have U5 := Lib.hid hu
  have G5 := Lib.hid (gtrans G4.out hg)
  have O5 := Lib.hid ho.to
  have HS4 := Lib.hid (show L < w4.heap.size from there_lt M4.out)
  clear hu hg ho N4 M4 U4 G4
  obtain ⟨c0, c1, c2, c3, c4⟩ := cells5 M5.out
  obtain ⟨f0, f1, f2, f3, f4⟩ := free5 M5.out
  have C1 := Lib.hid c1
  have SF := Lib.hid (set4w (.slice va vn vc) M5.out G5.out (Nat.le_of_lt HL.out))
  go_upto_region 7 with (fail)
  clear c0 c1 c2 c3 c4 f0 f1 f2 f3 f4
  generalize w5.setCell ⟨L, 4, none⟩ (.slice va vn vc) = w6 at *
  have M6 := Lib.hid SF.out.1
  have N6 := Lib.hid (blk_g N5.out SF.out.2.1 (by intro e; injection e with e; have := HL.out; omega))
  have U6 := Lib.hid (U5.out.other SF.out.2.1 (by have := HC.out; have := HL.out; omega) (by have := HGL.out; have := HL.out; omega))
  have G6 := Lib.hid SF.out.2.2
  have O6 := Lib.hid (O5.out.grown SF.out.2.1 HS4.out)
  clear SF N5 M5 U5 G5 C1 O5
  obtain ⟨c0, c1, c2, c3, c4⟩ := cells5 M6.out
  obtain ⟨d0, d1, d2, d3, d4⟩ := cells5 N6.out
  obtain ⟨f0, f1, f2, f3, f4⟩ := free5 N6.out
  have D1 := Lib.hid d1
  have SF := Lib.hid (set5g (.int .i64 (cmd : Int)) (.bool p) (.bool n) (.bool m) (.slice va vn vc) N6.out G6.out (Nat.le_refl _))
  go_wp2_with fail
  clear c0 c1 c2 c3 c4 d0 d1 d2 d3 d4 f0 f1 f2 f3 f4
  generalize ((((w6.setCell ⟨w.heap.size, 0, none⟩ (.int .i64 (cmd : Int))).setCell ⟨w.heap.size, 1, none⟩ (.bool p)).setCell ⟨w.heap.size, 2, none⟩ (.bool n)).setCell ⟨w.heap.size, 3, none⟩ (.bool m)).setCell ⟨w.heap.size, 4, none⟩ (.slice va vn vc) = wz at *
  refine bodyPost_ret (v := .agg #[.int .i64 (cmd : Int), .bool p, .bool n, .bool m, .slice va vn vc]) (results_cell_row rfl _ _ w.heap.size 26 _ (0, 0) _ rfl SF.out.1 Tryd.underlying26 rfl (by kernel_rfl)) rfl ?_
  exact ⟨_, _, _, rfl, SF.out.2.2, ((O6.out.grown SF.out.2.1 (Nat.lt_trans HL.out HS4.out)).mono (by have := HL.out; have := HS4.out; omega)), _, (U6.out.other SF.out.2.1 (by have := HC.out; omega) (by have := HGL.out; omega))⟩
set_option maxRecDepth 100000 in
set_option maxHeartbeats 8000000 in
theorem command_wrong {C g : Nat} {xs : List Nat} (z : Nat) (w : World) (h : Cur w C g xs 0 .nilIface) (hx : xs.length < 1000000) (hl : 0 < xs.length) (hb8 : xs.getD 0 0 < 256) (cmd : Nat) (hcm : xs.getD 0 0 = cmd) (hk : known (cmd : Int) = true) (hw : writes (cmd : Int) = true) (h1 : 1 < xs.length) (h8 : ∀ x ∈ xs, x < 256) (p n m : Bool) (hb : xs.getD 1 0 = put (wnum p n m)) (R : List O × Nat × Nat) (hR : R = ords z (xs.length - 2) 2 (xs.drop 2)) (hE : R.2.1 ≠ 0) :
    Calls Tryd.prog 29 #[.pointer (some ⟨C, 0, none⟩), .int .i64 (z : Int)] w fun e w' => ∃ (c : Int) (a u r : Bool) (ad : Option Addr) (n cp : Nat), e = .returned (.agg #[.int .i64 c, .bool a, .bool u, .bool r, .slice ad n cp]) ∧ w.grownBy w' (some C) ∧ ∃ ev at_, Cur w' C g xs at_ ev ∧ Byt.Met w' ev (R.2.1 : Int) R.2.2 := by
  have HC := Lib.hid h.clt
  have HGL := Lib.hid h.glt
  have HX := Lib.hid hx
  have HA := al_any w (.cells #[.int .i64 0, .bool false, .bool false, .bool false, .slice none 0 0] 26)
  have HN := Lib.hid (heap_alloc_new w (.cells #[.int .i64 0, .bool false, .bool false, .bool false, .slice none 0 0] 26))
  have HW0 := Lib.hid (gbelow HA (some C))
  have HU := h.below HA
  rw [hcm] at hb8
  have HWR := Lib.hid fun W => writes_any (cmd : Int) W
  rw [hw] at HWR
  have HTC := takeCmd_ok _ HU (by omega) hl (by rw [hcm]; exact hb8) (by rw [hcm]; exact hk)
  rw [hcm] at HTC
  clear hk hw hcm hb8
  have HCMD := Lib.hid (HTC)
  clear h HU HA hx
  go_enter Tryd.func29, Tryd.ntmps29
  go_wp2_with fail
  generalize w.alloc (.cells #[.int .i64 0, .bool false, .bool false, .bool false, .slice none 0 0] 26) = wa at *
  with_reducible refine HCMD.out.mono ?_
  rintro e w1 ⟨rfl, hu, hg⟩
  have N1 := blk_g HN.out hg (by intro e; injection e with e; have := HC.out; omega)
  have HS := al_any w1 (.cells #[.int .i64 (cmd : Int), .bool false, .bool false, .bool false, .slice none 0 0] 26)
  have N2 := Lib.hid (blk N1 HS)
  have M2 := Lib.hid (heap_alloc_new w1 (.cells #[.int .i64 (cmd : Int), .bool false, .bool false, .bool false, .slice none 0 0] 26))
  have U2 := Lib.hid (hu.below HS)
  have G2 := Lib.hid (gtrans (gtrans HW0.out hg) (gbelow HS _))
  have HL := Lib.hid (show w.heap.size < w1.heap.size from there_lt N1)
  clear HCMD HTC N1 hu hg HS HN HW0
  go_wp2_with fail
  generalize w1.heap.size = L at *
  generalize w1.alloc (.cells #[.int .i64 (cmd : Int), .bool false, .bool false, .bool false, .slice none 0 0] 26) = w2 at *
  with_reducible refine (HWR.out w2).mono ?_
  rintro e w' ⟨rfl, rfl⟩
  go_wp2_with fail
  with_reducible refine (takeWcc_ok w2 U2.out (by have := HX.out; omega) (by omega) p n m hb).mono ?_
  rintro e w3 ⟨rfl, hu, hg⟩
  have N3 := Lib.hid (blk_g N2.out hg (by intro e; injection e with e; have := HC.out; omega))
  have M3 := Lib.hid (blk_g M2.out hg (by intro e; injection e with e; have := HC.out; have := HL.out; omega))
  have U3 := Lib.hid hu
  have G3 := Lib.hid (gtrans G2.out hg)
  clear hu hg N2 M2 U2 G2
  obtain ⟨c0, c1, c2, c3, c4⟩ := cells5 M3.out
  obtain ⟨f0, f1, f2, f3, f4⟩ := free5 M3.out
  have C1 := Lib.hid c1
  have SF := Lib.hid (set13g (.bool p) (.bool n) (.bool m) M3.out G3.out (Nat.le_of_lt HL.out))
  go_wp2_with fail
  clear c0 c1 c2 c3 c4 f0 f1 f2 f3 f4
  generalize ((w3.setCell ⟨L, 1, none⟩ (.bool p)).setCell ⟨L, 2, none⟩ (.bool n)).setCell ⟨L, 3, none⟩ (.bool m) = w4 at *
  have M4 := Lib.hid SF.out.1
  have N4 := Lib.hid (blk_g N3.out SF.out.2.1 (by intro e; injection e with e; have := HL.out; omega))
  have U4 := Lib.hid (U3.out.other SF.out.2.1 (by have := HC.out; have := HL.out; omega) (by have := HGL.out; have := HL.out; omega))
  have G4 := Lib.hid SF.out.2.2
  clear SF N3 M3 U3 G3 C1
  with_reducible refine (takeOrders_any z w4 U4.out h8 HX.out R hR).mono ?_
  rintro e w5 ⟨va, vn, vc, rfl, hg, hc⟩
  rcases hc with ⟨h0, _⟩ | ⟨_, ev, at_, hu, hm⟩
  · exact absurd h0 hE
  have N5 := Lib.hid (blk_g N4.out hg (by intro e; injection e with e; have := HC.out; omega))
  have M5 := Lib.hid (blk_g M4.out hg (by intro e; injection e with e; have := HC.out; have := HL.out; omega))
  have U5 := Lib.hid hu
  have G5 := Lib.hid (gtrans G4.out hg)
  have E5 := Lib.hid hm
  clear hu hg hm N4 M4 U4 G4
  obtain ⟨c0, c1, c2, c3, c4⟩ := cells5 M5.out
  obtain ⟨f0, f1, f2, f3, f4⟩ := free5 M5.out
  have C1 := Lib.hid c1
  have SF := Lib.hid (set4w (.slice va vn vc) M5.out G5.out (Nat.le_of_lt HL.out))
  go_upto_region 7 with (fail)
  clear c0 c1 c2 c3 c4 f0 f1 f2 f3 f4
  generalize w5.setCell ⟨L, 4, none⟩ (.slice va vn vc) = w6 at *
  have M6 := Lib.hid SF.out.1
  have N6 := Lib.hid (blk_g N5.out SF.out.2.1 (by intro e; injection e with e; have := HL.out; omega))
  have U6 := Lib.hid (U5.out.other SF.out.2.1 (by have := HC.out; have := HL.out; omega) (by have := HGL.out; have := HL.out; omega))
  have G6 := Lib.hid SF.out.2.2
  have E6 := Lib.hid (E5.out.other SF.out.2.1 (fun t x h => by rw [C1.out] at h; cases h))
  clear SF N5 M5 U5 G5 C1 E5
  obtain ⟨c0, c1, c2, c3, c4⟩ := cells5 M6.out
  obtain ⟨d0, d1, d2, d3, d4⟩ := cells5 N6.out
  obtain ⟨f0, f1, f2, f3, f4⟩ := free5 N6.out
  have D1 := Lib.hid d1
  have SF := Lib.hid (set5g (.int .i64 (cmd : Int)) (.bool p) (.bool n) (.bool m) (.slice va vn vc) N6.out G6.out (Nat.le_refl _))
  go_wp2_with fail
  clear c0 c1 c2 c3 c4 d0 d1 d2 d3 d4 f0 f1 f2 f3 f4
  generalize ((((w6.setCell ⟨w.heap.size, 0, none⟩ (.int .i64 (cmd : Int))).setCell ⟨w.heap.size, 1, none⟩ (.bool p)).setCell ⟨w.heap.size, 2, none⟩ (.bool n)).setCell ⟨w.heap.size, 3, none⟩ (.bool m)).setCell ⟨w.heap.size, 4, none⟩ (.slice va vn vc) = wz at *
  refine bodyPost_ret (v := .agg #[.int .i64 (cmd : Int), .bool p, .bool n, .bool m, .slice va vn vc]) (results_cell_row rfl _ _ w.heap.size 26 _ (0, 0) _ rfl SF.out.1 Tryd.underlying26 rfl (by kernel_rfl)) rfl ?_
  exact ⟨_, _, _, _, _, _, _, rfl, SF.out.2.2, _, _, (U6.out.other SF.out.2.1 (by have := HC.out; omega) (by have := HGL.out; omega)), E6.out.other SF.out.2.1 (fun t x h => by rw [D1.out] at h; cases h)⟩
end Str
end Go.Proofs.YtmllmmamdkjndaaDoor
