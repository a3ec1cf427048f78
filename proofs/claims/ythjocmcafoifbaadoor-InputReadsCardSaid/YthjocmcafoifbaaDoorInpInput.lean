/- takeInput of package input. Written by tools/gen_inp_input.py. -/
import Derived.Test.YthjocmcafoifbaaDoorInpFields
import Derived.Deep.Cut
namespace Go.Proofs.YthjocmcafoifbaaDoor
open Go.RowKit Sha Cut Err Six Att Byt Apd
namespace Inp
theorem set3g {w a : World} {B : Nat} {r : Option Nat} {t : TypeId} {a0 a1 a2 : Value} (u0 u1 u2 : Value) (h : a.heap[B]? = some (.cells #[a0, a1, a2] t (0, 0))) (hg : w.grownBy a r) (hB : w.heap.size ≤ B) :
    (((a.setCell ⟨B, 0, none⟩ u0).setCell ⟨B, 1, none⟩ u1).setCell ⟨B, 2, none⟩ u2).heap[B]? = some (.cells #[u0, u1, u2] t (0, 0)) ∧
    a.grownBy (((a.setCell ⟨B, 0, none⟩ u0).setCell ⟨B, 1, none⟩ u1).setCell ⟨B, 2, none⟩ u2) (some B) ∧
    w.grownBy (((a.setCell ⟨B, 0, none⟩ u0).setCell ⟨B, 1, none⟩ u1).setCell ⟨B, 2, none⟩ u2) r := by
  have h := heap_setCell_same _ B 0 _ t u0 h
  have h := heap_setCell_same _ B 1 _ t u1 h
  have h := heap_setCell_same _ B 2 _ t u2 h
  have hs : a.grownBy (((a.setCell ⟨B, 0, none⟩ u0).setCell ⟨B, 1, none⟩ u1).setCell ⟨B, 2, none⟩ u2) (some B) :=
    gtrans (gsetCell _ _ _ _) (gtrans (gsetCell _ _ _ _) (gsetCell _ _ _ _))
  exact ⟨h, hs, gnew hg hs hB⟩
/-- What takeInput answers where something is wrong. -/
def Wrong (w w' : World) (C g : Nat) (xs : List Nat) (e : Ending) (k : Nat) (wh : Nat) : Prop :=
  ∃ (c : Nat) (a : Int) (ad : Option Addr) (n cp : Nat), e = .returned (.agg #[.int .u8 (c : Int), .int .i64 a, .slice ad n cp]) ∧ w.grownBy w' (some C) ∧ ∃ ev at_, Cur w' C g xs at_ ev ∧ Byt.Met w' ev (k : Int) wh
/-- What takeInput answers of a submission. -/
def Gives (w w' : World) (C g : Nat) (xs : List Nat) (e : Ending) (x : I) : Prop :=
  ∃ (ad : Option Addr) (n cp : Nat), e = .returned (.agg #[.int .u8 (x.aid : Int), .int .i64 x.cur, .slice ad n cp]) ∧ w.grownBy w' (some C) ∧ FldsIn w' w.heap.size (.slice ad n cp) x.fs ∧ ∃ at_, Cur w' C g xs at_ .nilIface
set_option maxRecDepth 100000 in
set_option maxHeartbeats 8000000 in
theorem input_noaid {C g : Nat} {xs : List Nat} (z : Nat) (w : World) (h : Cur w C g xs 0 .nilIface) (hx : xs.length < 1000000) (k : Nat) (hT : ∀ W, Cur W C g xs 0 .nilIface → Calls Tryd.prog 38 #[.pointer (some ⟨C, 0, none⟩)] W fun e w' => e = .returned (.int .u8 0) ∧ ∃ ev, Cur w' C g xs 0 ev ∧ Byt.Met w' ev (k : Int) 0 ∧ W.grownBy w' (some C)) :
    Calls Tryd.prog 21 #[.pointer (some ⟨C, 0, none⟩), .int .i64 (z : Int)] w fun e w' => Wrong w w' C g xs e k 0 := by
  have HC := Lib.hid h.clt
  have HGL := Lib.hid h.glt
  have HX := Lib.hid hx
  have HA := al_any w (.cells #[.int .u8 0, .int .i64 0, .slice none 0 0] 27)
  have HN := Lib.hid (heap_alloc_new w (.cells #[.int .u8 0, .int .i64 0, .slice none 0 0] 27))
  have HW0 := Lib.hid (gbelow HA (some C))
  have HU := h.below HA
  have HTA := Lib.hid (hT _ HU)
  have HBR := Lib.hid fun W => bare_any 0 W (by decide)
  rw [show bare 0 = false by decide, show ((0 : Nat) : Int) = 0 from rfl] at HBR
  clear hT
  clear h HU HA hx
  go_enter Tryd.func21, Tryd.ntmps21
  go_upto_region 1 with (fail)
  generalize w.alloc (.cells #[.int .u8 0, .int .i64 0, .slice none 0 0] 27) = wa at *
  go_wp2_with fail
  with_reducible refine HTA.out.mono ?_
  rintro e w1 ⟨rfl, ev, hu, hm, hg⟩
  have N1 := blk_g HN.out hg (by intro e; injection e with e; have := HC.out; omega)
  have HS := al_any w1 (.cells #[.int .u8 0, .int .i64 0, .slice none 0 0] 27)
  have N2 := Lib.hid (blk N1 HS)
  have M2 := Lib.hid (heap_alloc_new w1 (.cells #[.int .u8 0, .int .i64 0, .slice none 0 0] 27))
  have U2 := Lib.hid (hu.below HS)
  have E2 := Lib.hid (hm.below HS)
  have G2 := Lib.hid (gtrans (gtrans HW0.out hg) (gbelow HS _))
  have HL := Lib.hid (show w.heap.size < w1.heap.size from there_lt N1)
  have HLS := Lib.hid (there_lt M2.out)
  clear HTA N1 hu hg HS HN HW0 hm
  go_wp2_with fail
  generalize w1.heap.size = L at *
  generalize w1.alloc (.cells #[.int .u8 0, .int .i64 0, .slice none 0 0] 27) = w2 at *
  with_reducible refine (HBR.out w2).mono ?_
  rintro e w' ⟨rfl, rfl⟩
  have EE := E2.out
  obtain ⟨b, rfl, _⟩ := EE
  go_wp2_with fail
  with_reducible refine (addr_met (z : Int) w2 U2.out).mono ?_
  rintro e w3 ⟨rfl, hb⟩
  have N3 := Lib.hid (blk N2.out hb)
  have M3 := Lib.hid (blk M2.out hb)
  have G3 := Lib.hid (gtrans G2.out (gbelow hb _))
  have U3 := Lib.hid (U2.out.below hb)
  have E3 := Lib.hid (E2.out.below hb)
  clear hb N2 M2 U2 E2 G2
  obtain ⟨c0, c1, c2⟩ := cells3 M3.out
  obtain ⟨f0, f1, f2⟩ := free3 M3.out
  have D3 := Lib.hid c1
  have N4 := Lib.hid (blk_g N3.out (gsetCell w3 L 1 (.int .i64 0)) (by intro e; injection e with e; have := HL.out; omega))
  have M4 := Lib.hid (heap_setCell_same w3 L 1 _ 27 (.int .i64 0) M3.out)
  have U4 := Lib.hid (U3.out.other (gsetCell w3 L 1 (.int .i64 0)) (by have := HL.out; have := HC.out; omega) (by have := HL.out; have := HGL.out; omega))
  have G4 := Lib.hid (gnew G3.out (gsetCell w3 L 1 (.int .i64 0)) (Nat.le_of_lt HL.out))
  have E4 := Lib.hid (E3.out.other (gsetCell w3 L 1 (.int .i64 0)) (fun t x h => by rw [D3.out] at h; cases h))
  have S4 := Lib.hid (gsetCell w3 L 1 (.int .i64 0)).size
  go_wp2_with fail
  clear c0 c1 c2 f0 f1 f2
  generalize w3.setCell ⟨L, 1, none⟩ (.int .i64 0) = w4 at *
  with_reducible refine (takeFields_met z w4 U4.out HX.out).mono ?_
  rintro e w5 ⟨rfl, hb⟩
  have N5 := Lib.hid (blk N4.out hb)
  have M5 := Lib.hid (blk M4.out hb)
  have G5 := Lib.hid (gtrans G4.out (gbelow hb _))
  have U5 := Lib.hid (U4.out.below hb)
  have E5 := Lib.hid (E4.out.below hb)
  clear hb
  obtain ⟨c0, c1, c2⟩ := cells3 M5.out
  obtain ⟨f0, f1, f2⟩ := free3 M5.out
  have D5 := Lib.hid c1
  have N6 := Lib.hid (blk_g N5.out (gsetCell w5 L 2 (.slice none 0 0)) (by intro e; injection e with e; have := HL.out; omega))
  have M6 := Lib.hid (heap_setCell_same w5 L 2 _ 27 (.slice none 0 0) M5.out)
  have U6 := Lib.hid (U5.out.other (gsetCell w5 L 2 (.slice none 0 0)) (by have := HL.out; have := HC.out; omega) (by have := HL.out; have := HGL.out; omega))
  have G6 := Lib.hid (gnew G5.out (gsetCell w5 L 2 (.slice none 0 0)) (Nat.le_of_lt HL.out))
  have E6 := Lib.hid (E5.out.other (gsetCell w5 L 2 (.slice none 0 0)) (fun t x h => by rw [D5.out] at h; cases h))
  have S6 := Lib.hid (gsetCell w5 L 2 (.slice none 0 0)).size
  go_upto_region 7 with (fail)
  clear c0 c1 c2 f0 f1 f2
  generalize w5.setCell ⟨L, 2, none⟩ (.slice none 0 0) = w6 at *
  obtain ⟨c0, c1, c2⟩ := cells3 M6.out
  obtain ⟨d0, d1, d2⟩ := cells3 N6.out
  obtain ⟨f0, f1, f2⟩ := free3 N6.out
  have D1 := Lib.hid d1
  have HNZ := Lib.hid (show w.heap.size ≠ L from Nat.ne_of_lt HL.out)
  have SF := Lib.hid (set3g (.int .u8 0) (.int .i64 0) (.slice none 0 0) N6.out G6.out (Nat.le_refl _))
  go_wp2_with fail
  clear c0 c1 c2 d0 d1 d2 f0 f1 f2
  generalize ((w6.setCell ⟨w.heap.size, 0, none⟩ (.int .u8 0)).setCell ⟨w.heap.size, 1, none⟩ (.int .i64 0)).setCell ⟨w.heap.size, 2, none⟩ (.slice none 0 0) = wz at *
  refine bodyPost_ret (v := .agg #[.int .u8 0, .int .i64 0, .slice none 0 0]) (results_cell_row rfl _ _ w.heap.size 27 _ (0, 0) _ rfl SF.out.1 Tryd.underlying27 rfl (by kernel_rfl)) rfl ?_
  exact ⟨0, _, _, _, _, rfl, SF.out.2.2, _, _, (U6.out.other SF.out.2.1 (by have := HC.out; omega) (by have := HGL.out; omega)), E6.out.other SF.out.2.1 (fun t x h => by rw [D1.out] at h; cases h)⟩
set_option maxRecDepth 100000 in
set_option maxHeartbeats 8000000 in
theorem input_bare {C g : Nat} {xs : List Nat} (z : Nat) (w : World) (h : Cur w C g xs 0 .nilIface) (hx : xs.length < 1000000) (hl : 0 < xs.length) (hb8 : xs.getD 0 0 < 256) (c : Nat) (hcm : xs.getD 0 0 = c) (hk : aid c = true) (hw : bare c = true) (h1 : xs.length = 1) :
    Calls Tryd.prog 21 #[.pointer (some ⟨C, 0, none⟩), .int .i64 (z : Int)] w fun e w' => Gives w w' C g xs e ⟨c, 0, []⟩ := by
  have HC := Lib.hid h.clt
  have HGL := Lib.hid h.glt
  have HX := Lib.hid hx
  have HA := al_any w (.cells #[.int .u8 0, .int .i64 0, .slice none 0 0] 27)
  have HN := Lib.hid (heap_alloc_new w (.cells #[.int .u8 0, .int .i64 0, .slice none 0 0] 27))
  have HW0 := Lib.hid (gbelow HA (some C))
  have HU := h.below HA
  rw [hcm] at hb8
  have HBR := Lib.hid fun W => bare_any c W hb8
  rw [hw] at HBR
  have HTC := takeAid_ok _ HU (by omega) hl (by rw [hcm]; exact hb8) (by rw [hcm]; exact hk)
  rw [hcm] at HTC
  have HTA := Lib.hid HTC
  clear HTC hk hw hcm hb8
  clear h HU HA hx
  go_enter Tryd.func21, Tryd.ntmps21
  go_upto_region 1 with (fail)
  generalize w.alloc (.cells #[.int .u8 0, .int .i64 0, .slice none 0 0] 27) = wa at *
  go_wp2_with fail
  with_reducible refine HTA.out.mono ?_
  rintro e w1 ⟨rfl, hu, hg⟩
  have N1 := blk_g HN.out hg (by intro e; injection e with e; have := HC.out; omega)
  have HS := al_any w1 (.cells #[.int .u8 (c : Int), .int .i64 0, .slice none 0 0] 27)
  have N2 := Lib.hid (blk N1 HS)
  have M2 := Lib.hid (heap_alloc_new w1 (.cells #[.int .u8 (c : Int), .int .i64 0, .slice none 0 0] 27))
  have U2 := Lib.hid (hu.below HS)
  have G2 := Lib.hid (gtrans (gtrans HW0.out hg) (gbelow HS _))
  have HL := Lib.hid (show w.heap.size < w1.heap.size from there_lt N1)
  have HLS := Lib.hid (there_lt M2.out)
  clear HTA N1 hu hg HS HN HW0
  go_wp2_with fail
  generalize w1.heap.size = L at *
  generalize w1.alloc (.cells #[.int .u8 (c : Int), .int .i64 0, .slice none 0 0] 27) = w2 at *
  with_reducible refine (HBR.out w2).mono ?_
  rintro e w' ⟨rfl, rfl⟩
  have hq : ¬ 0 < xs.length - (0 + 1) := by omega
  go_wp2_with fail
  with_reducible refine (left_b w2 U2.out (by have := HX.out; omega)).mono ?_
  rintro e w3 ⟨rfl, hb⟩
  have N3 := Lib.hid (blk N2.out hb)
  have M3 := Lib.hid (blk M2.out hb)
  have G3 := Lib.hid (gtrans G2.out (gbelow hb _))
  have U3 := Lib.hid (U2.out.below hb)
  clear hb
  obtain ⟨c0, c1, c2⟩ := cells3 M3.out
  obtain ⟨d0, d1, d2⟩ := cells3 N3.out
  obtain ⟨f0, f1, f2⟩ := free3 N3.out
  have D1 := Lib.hid d1
  have HNZ := Lib.hid (show w.heap.size ≠ L from Nat.ne_of_lt HL.out)
  have SF := Lib.hid (set3g (.int .u8 (c : Int)) (.int .i64 0) (.slice none 0 0) N3.out G3.out (Nat.le_refl _))
  go_wp2_with fail
  clear c0 c1 c2 d0 d1 d2 f0 f1 f2
  generalize ((w3.setCell ⟨w.heap.size, 0, none⟩ (.int .u8 (c : Int))).setCell ⟨w.heap.size, 1, none⟩ (.int .i64 0)).setCell ⟨w.heap.size, 2, none⟩ (.slice none 0 0) = wz at *
  refine bodyPost_ret (v := .agg #[.int .u8 (c : Int), .int .i64 0, .slice none 0 0]) (results_cell_row rfl _ _ w.heap.size 27 _ (0, 0) _ rfl SF.out.1 Tryd.underlying27 rfl (by kernel_rfl)) rfl ?_
  exact ⟨_, _, _, rfl, SF.out.2.2, fldsIn_nil _ _, _, (U3.out.other SF.out.2.1 (by have := HC.out; omega) (by have := HGL.out; omega))⟩
set_option maxRecDepth 100000 in
set_option maxHeartbeats 8000000 in
theorem input_more {C g : Nat} {xs : List Nat} (z : Nat) (w : World) (h : Cur w C g xs 0 .nilIface) (hx : xs.length < 1000000) (hl : 0 < xs.length) (hb8 : xs.getD 0 0 < 256) (c : Nat) (hcm : xs.getD 0 0 = c) (hk : aid c = true) (hw : bare c = true) (h1 : 1 < xs.length) :
    Calls Tryd.prog 21 #[.pointer (some ⟨C, 0, none⟩), .int .i64 (z : Int)] w fun e w' => Wrong w w' C g xs e 1 1 := by
  have HC := Lib.hid h.clt
  have HGL := Lib.hid h.glt
  have HX := Lib.hid hx
  have HA := al_any w (.cells #[.int .u8 0, .int .i64 0, .slice none 0 0] 27)
  have HN := Lib.hid (heap_alloc_new w (.cells #[.int .u8 0, .int .i64 0, .slice none 0 0] 27))
  have HW0 := Lib.hid (gbelow HA (some C))
  have HU := h.below HA
  rw [hcm] at hb8
  have HBR := Lib.hid fun W => bare_any c W hb8
  rw [hw] at HBR
  have HTC := takeAid_ok _ HU (by omega) hl (by rw [hcm]; exact hb8) (by rw [hcm]; exact hk)
  rw [hcm] at HTC
  have HTA := Lib.hid HTC
  clear HTC hk hw hcm hb8
  clear h HU HA hx
  go_enter Tryd.func21, Tryd.ntmps21
  go_upto_region 1 with (fail)
  generalize w.alloc (.cells #[.int .u8 0, .int .i64 0, .slice none 0 0] 27) = wa at *
  go_wp2_with fail
  with_reducible refine HTA.out.mono ?_
  rintro e w1 ⟨rfl, hu, hg⟩
  have N1 := blk_g HN.out hg (by intro e; injection e with e; have := HC.out; omega)
  have HS := al_any w1 (.cells #[.int .u8 (c : Int), .int .i64 0, .slice none 0 0] 27)
  have N2 := Lib.hid (blk N1 HS)
  have M2 := Lib.hid (heap_alloc_new w1 (.cells #[.int .u8 (c : Int), .int .i64 0, .slice none 0 0] 27))
  have U2 := Lib.hid (hu.below HS)
  have G2 := Lib.hid (gtrans (gtrans HW0.out hg) (gbelow HS _))
  have HL := Lib.hid (show w.heap.size < w1.heap.size from there_lt N1)
  have HLS := Lib.hid (there_lt M2.out)
  clear HTA N1 hu hg HS HN HW0
  go_wp2_with fail
  generalize w1.heap.size = L at *
  generalize w1.alloc (.cells #[.int .u8 (c : Int), .int .i64 0, .slice none 0 0] 27) = w2 at *
  with_reducible refine (HBR.out w2).mono ?_
  rintro e w' ⟨rfl, rfl⟩
  have hq : 0 < xs.length - (0 + 1) := by omega
  have hqi : (0 : Int) < ((xs.length - (0 + 1) : Nat) : Int) := by omega
  go_wp2_with fail
  with_reducible refine (left_b w2 U2.out (by have := HX.out; omega)).mono ?_
  rintro e w3 ⟨rfl, hb⟩
  have N3 := Lib.hid (blk N2.out hb)
  have M3 := Lib.hid (blk M2.out hb)
  have G3 := Lib.hid (gtrans G2.out (gbelow hb _))
  have U3 := Lib.hid (U2.out.below hb)
  clear hb
  have HF := Lib.hid (fail_new (d := 0) (.iface 50 (.int .i64 1)) 1 w3 U3.out rfl)
  go_wp2_with fail
  with_reducible refine HF.out.mono ?_
  rintro e w4 ⟨rfl, ev, hu, hm, hg⟩
  have N4 := Lib.hid (blk_g N3.out hg (by intro e; injection e with e; have := HC.out; omega))
  have M4 := Lib.hid (blk_g M3.out hg (by intro e; injection e with e; have := HC.out; have := HL.out; omega))
  have G4 := Lib.hid (gtrans G3.out hg)
  have U4 := Lib.hid hu
  have E4 := Lib.hid hm
  clear hu hm hg HF
  obtain ⟨c0, c1, c2⟩ := cells3 M4.out
  obtain ⟨d0, d1, d2⟩ := cells3 N4.out
  obtain ⟨f0, f1, f2⟩ := free3 N4.out
  have D1 := Lib.hid d1
  have HNZ := Lib.hid (show w.heap.size ≠ L from Nat.ne_of_lt HL.out)
  have SF := Lib.hid (set3g (.int .u8 (c : Int)) (.int .i64 0) (.slice none 0 0) N4.out G4.out (Nat.le_refl _))
  go_wp2_with fail
  clear c0 c1 c2 d0 d1 d2 f0 f1 f2
  generalize ((w4.setCell ⟨w.heap.size, 0, none⟩ (.int .u8 (c : Int))).setCell ⟨w.heap.size, 1, none⟩ (.int .i64 0)).setCell ⟨w.heap.size, 2, none⟩ (.slice none 0 0) = wz at *
  refine bodyPost_ret (v := .agg #[.int .u8 (c : Int), .int .i64 0, .slice none 0 0]) (results_cell_row rfl _ _ w.heap.size 27 _ (0, 0) _ rfl SF.out.1 Tryd.underlying27 rfl (by kernel_rfl)) rfl ?_
  exact ⟨_, _, _, _, _, rfl, SF.out.2.2, _, _, (U4.out.other SF.out.2.1 (by have := HC.out; omega) (by have := HGL.out; omega)), E4.out.other SF.out.2.1 (fun t x h => by rw [D1.out] at h; cases h)⟩
set_option maxRecDepth 100000 in
set_option maxHeartbeats 8000000 in
theorem input_addr {C g : Nat} {xs : List Nat} (z : Nat) (w : World) (h : Cur w C g xs 0 .nilIface) (hx : xs.length < 1000000) (hl : 0 < xs.length) (hb8 : xs.getD 0 0 < 256) (c : Nat) (hcm : xs.getD 0 0 = c) (hk : aid c = true) (hw : bare c = false) (h8 : ∀ x ∈ xs, x < 256) (k : Nat) (hkk : (Adr.aspec (xs.drop 1) z).2.1 = k) (hk0 : k ≠ 0) :
    Calls Tryd.prog 21 #[.pointer (some ⟨C, 0, none⟩), .int .i64 (z : Int)] w fun e w' => Wrong w w' C g xs e k 1 := by
  have HC := Lib.hid h.clt
  have HGL := Lib.hid h.glt
  have HX := Lib.hid hx
  have HA := al_any w (.cells #[.int .u8 0, .int .i64 0, .slice none 0 0] 27)
  have HN := Lib.hid (heap_alloc_new w (.cells #[.int .u8 0, .int .i64 0, .slice none 0 0] 27))
  have HW0 := Lib.hid (gbelow HA (some C))
  have HU := h.below HA
  have HAD := Lib.hid fun W (hu : Cur W C g xs (0 + 1) .nilIface) => addr_bad (z : Int) W hu h8 (by rw [show 0 + 1 = 1 from rfl, hkk]; exact hk0)
  rw [show 0 + 1 = 1 from rfl, hkk] at HAD
  clear hkk hk0
  rw [hcm] at hb8
  have HBR := Lib.hid fun W => bare_any c W hb8
  rw [hw] at HBR
  have HTC := takeAid_ok _ HU (by omega) hl (by rw [hcm]; exact hb8) (by rw [hcm]; exact hk)
  rw [hcm] at HTC
  have HTA := Lib.hid HTC
  clear HTC hk hw hcm hb8
  clear h HU HA hx
  go_enter Tryd.func21, Tryd.ntmps21
  go_upto_region 1 with (fail)
  generalize w.alloc (.cells #[.int .u8 0, .int .i64 0, .slice none 0 0] 27) = wa at *
  go_wp2_with fail
  with_reducible refine HTA.out.mono ?_
  rintro e w1 ⟨rfl, hu, hg⟩
  have N1 := blk_g HN.out hg (by intro e; injection e with e; have := HC.out; omega)
  have HS := al_any w1 (.cells #[.int .u8 (c : Int), .int .i64 0, .slice none 0 0] 27)
  have N2 := Lib.hid (blk N1 HS)
  have M2 := Lib.hid (heap_alloc_new w1 (.cells #[.int .u8 (c : Int), .int .i64 0, .slice none 0 0] 27))
  have U2 := Lib.hid (hu.below HS)
  have G2 := Lib.hid (gtrans (gtrans HW0.out hg) (gbelow HS _))
  have HL := Lib.hid (show w.heap.size < w1.heap.size from there_lt N1)
  have HLS := Lib.hid (there_lt M2.out)
  clear HTA N1 hu hg HS HN HW0
  go_wp2_with fail
  generalize w1.heap.size = L at *
  generalize w1.alloc (.cells #[.int .u8 (c : Int), .int .i64 0, .slice none 0 0] 27) = w2 at *
  with_reducible refine (HBR.out w2).mono ?_
  rintro e w' ⟨rfl, rfl⟩
  go_wp2_with fail
  with_reducible refine (HAD.out w2 U2.out).mono ?_
  rintro e w3 ⟨rfl, ev, hu, hm, hg⟩
  obtain ⟨b, rfl, hm⟩ := hm
  have N3 := Lib.hid (blk_g N2.out hg (by intro e; injection e with e; have := HC.out; omega))
  have M3 := Lib.hid (blk_g M2.out hg (by intro e; injection e with e; have := HC.out; have := HL.out; omega))
  have G3 := Lib.hid (gtrans G2.out hg)
  have U3 := Lib.hid hu
  have E3 : Hid (Byt.Met w3 _ (k : Int) 1) := Lib.hid ⟨b, rfl, hm⟩
  clear hu hm hg HAD N2 M2 U2 G2
  obtain ⟨c0, c1, c2⟩ := cells3 M3.out
  obtain ⟨f0, f1, f2⟩ := free3 M3.out
  have D3 := Lib.hid c1
  have N4 := Lib.hid (blk_g N3.out (gsetCell w3 L 1 (.int .i64 0)) (by intro e; injection e with e; have := HL.out; omega))
  have M4 := Lib.hid (heap_setCell_same w3 L 1 _ 27 (.int .i64 0) M3.out)
  have U4 := Lib.hid (U3.out.other (gsetCell w3 L 1 (.int .i64 0)) (by have := HL.out; have := HC.out; omega) (by have := HL.out; have := HGL.out; omega))
  have G4 := Lib.hid (gnew G3.out (gsetCell w3 L 1 (.int .i64 0)) (Nat.le_of_lt HL.out))
  have E4 := Lib.hid (E3.out.other (gsetCell w3 L 1 (.int .i64 0)) (fun t x h => by rw [D3.out] at h; cases h))
  have S4 := Lib.hid (gsetCell w3 L 1 (.int .i64 0)).size
  go_wp2_with fail
  clear c0 c1 c2 f0 f1 f2
  generalize w3.setCell ⟨L, 1, none⟩ (.int .i64 0) = w4 at *
  with_reducible refine (takeFields_met z w4 U4.out HX.out).mono ?_
  rintro e w5 ⟨rfl, hb⟩
  have N5 := Lib.hid (blk N4.out hb)
  have M5 := Lib.hid (blk M4.out hb)
  have G5 := Lib.hid (gtrans G4.out (gbelow hb _))
  have U5 := Lib.hid (U4.out.below hb)
  have E5 := Lib.hid (E4.out.below hb)
  clear hb
  obtain ⟨c0, c1, c2⟩ := cells3 M5.out
  obtain ⟨f0, f1, f2⟩ := free3 M5.out
  have D5 := Lib.hid c1
  have N6 := Lib.hid (blk_g N5.out (gsetCell w5 L 2 (.slice none 0 0)) (by intro e; injection e with e; have := HL.out; omega))
  have M6 := Lib.hid (heap_setCell_same w5 L 2 _ 27 (.slice none 0 0) M5.out)
  have U6 := Lib.hid (U5.out.other (gsetCell w5 L 2 (.slice none 0 0)) (by have := HL.out; have := HC.out; omega) (by have := HL.out; have := HGL.out; omega))
  have G6 := Lib.hid (gnew G5.out (gsetCell w5 L 2 (.slice none 0 0)) (Nat.le_of_lt HL.out))
  have E6 := Lib.hid (E5.out.other (gsetCell w5 L 2 (.slice none 0 0)) (fun t x h => by rw [D5.out] at h; cases h))
  have S6 := Lib.hid (gsetCell w5 L 2 (.slice none 0 0)).size
  go_upto_region 7 with (fail)
  clear c0 c1 c2 f0 f1 f2
  generalize w5.setCell ⟨L, 2, none⟩ (.slice none 0 0) = w6 at *
  obtain ⟨c0, c1, c2⟩ := cells3 M6.out
  obtain ⟨d0, d1, d2⟩ := cells3 N6.out
  obtain ⟨f0, f1, f2⟩ := free3 N6.out
  have D1 := Lib.hid d1
  have HNZ := Lib.hid (show w.heap.size ≠ L from Nat.ne_of_lt HL.out)
  have SF := Lib.hid (set3g (.int .u8 (c : Int)) (.int .i64 0) (.slice none 0 0) N6.out G6.out (Nat.le_refl _))
  go_wp2_with fail
  clear c0 c1 c2 d0 d1 d2 f0 f1 f2
  generalize ((w6.setCell ⟨w.heap.size, 0, none⟩ (.int .u8 (c : Int))).setCell ⟨w.heap.size, 1, none⟩ (.int .i64 0)).setCell ⟨w.heap.size, 2, none⟩ (.slice none 0 0) = wz at *
  refine bodyPost_ret (v := .agg #[.int .u8 (c : Int), .int .i64 0, .slice none 0 0]) (results_cell_row rfl _ _ w.heap.size 27 _ (0, 0) _ rfl SF.out.1 Tryd.underlying27 rfl (by kernel_rfl)) rfl ?_
  exact ⟨_, _, _, _, _, rfl, SF.out.2.2, _, _, (U6.out.other SF.out.2.1 (by have := HC.out; omega) (by have := HGL.out; omega)), E6.out.other SF.out.2.1 (fun t x h => by rw [D1.out] at h; cases h)⟩
set_option maxRecDepth 100000 in
set_option maxHeartbeats 8000000 in
theorem input_flds {C g : Nat} {xs : List Nat} (z : Nat) (w : World) (h : Cur w C g xs 0 .nilIface) (hx : xs.length < 1000000) (hl : 0 < xs.length) (hb8 : xs.getD 0 0 < 256) (c : Nat) (hcm : xs.getD 0 0 = c) (hk : aid c = true) (hw : bare c = false) (h8 : ∀ x ∈ xs, x < 256) (a : Nat) (haa : Adr.aspec (xs.drop 1) z = (a, 0, -1)) (k wh : Nat) (os : List F)
    (hF : ∀ W, Cur W C g xs 3 .nilIface → Calls Tryd.prog 40 #[.pointer (some ⟨C, 0, none⟩), .int .i64 (z : Int)] W fun e w' => ∃ va vn vc, e = .returned (.slice va vn vc) ∧ W.grownBy w' (some C) ∧ ((k = 0 ∧ OwnFlds w' W.heap.size (.slice va vn vc) os ∧ ∃ at', Cur w' C g xs at' .nilIface) ∨ (k ≠ 0 ∧ ∃ ev at', Cur w' C g xs at' ev ∧ Byt.Met w' ev (k : Int) wh))) :
    Calls Tryd.prog 21 #[.pointer (some ⟨C, 0, none⟩), .int .i64 (z : Int)] w fun e w' => (k = 0 ∧ Gives w w' C g xs e ⟨c, a, os⟩) ∨ (k ≠ 0 ∧ Wrong w w' C g xs e k wh) := by
  have HC := Lib.hid h.clt
  have HGL := Lib.hid h.glt
  have HX := Lib.hid hx
  have HA := al_any w (.cells #[.int .u8 0, .int .i64 0, .slice none 0 0] 27)
  have HN := Lib.hid (heap_alloc_new w (.cells #[.int .u8 0, .int .i64 0, .slice none 0 0] 27))
  have HW0 := Lib.hid (gbelow HA (some C))
  have HU := h.below HA
  have HAD := Lib.hid fun W (hu : Cur W C g xs (0 + 1) .nilIface) => addr_ok (z : Int) W hu h8 (by omega) (by rw [show 0 + 1 = 1 from rfl, haa])
  rw [show 0 + 1 = 1 from rfl, haa] at HAD
  have HFF := Lib.hid hF
  clear haa hF
  rw [hcm] at hb8
  have HBR := Lib.hid fun W => bare_any c W hb8
  rw [hw] at HBR
  have HTC := takeAid_ok _ HU (by omega) hl (by rw [hcm]; exact hb8) (by rw [hcm]; exact hk)
  rw [hcm] at HTC
  have HTA := Lib.hid HTC
  clear HTC hk hw hcm hb8
  clear h HU HA hx
  go_enter Tryd.func21, Tryd.ntmps21
  go_upto_region 1 with (fail)
  generalize w.alloc (.cells #[.int .u8 0, .int .i64 0, .slice none 0 0] 27) = wa at *
  go_wp2_with fail
  with_reducible refine HTA.out.mono ?_
  rintro e w1 ⟨rfl, hu, hg⟩
  have N1 := blk_g HN.out hg (by intro e; injection e with e; have := HC.out; omega)
  have HS := al_any w1 (.cells #[.int .u8 (c : Int), .int .i64 0, .slice none 0 0] 27)
  have N2 := Lib.hid (blk N1 HS)
  have M2 := Lib.hid (heap_alloc_new w1 (.cells #[.int .u8 (c : Int), .int .i64 0, .slice none 0 0] 27))
  have U2 := Lib.hid (hu.below HS)
  have G2 := Lib.hid (gtrans (gtrans HW0.out hg) (gbelow HS _))
  have HL := Lib.hid (show w.heap.size < w1.heap.size from there_lt N1)
  have HLS := Lib.hid (there_lt M2.out)
  clear HTA N1 hu hg HS HN HW0
  go_wp2_with fail
  generalize w1.heap.size = L at *
  generalize w1.alloc (.cells #[.int .u8 (c : Int), .int .i64 0, .slice none 0 0] 27) = w2 at *
  with_reducible refine (HBR.out w2).mono ?_
  rintro e w' ⟨rfl, rfl⟩
  go_wp2_with fail
  with_reducible refine (HAD.out w2 U2.out).mono ?_
  rintro e w3 ⟨rfl, hu, hg⟩
  have N3 := Lib.hid (blk_g N2.out hg (by intro e; injection e with e; have := HC.out; omega))
  have M3 := Lib.hid (blk_g M2.out hg (by intro e; injection e with e; have := HC.out; have := HL.out; omega))
  have G3 := Lib.hid (gtrans G2.out hg)
  have U3 := Lib.hid hu
  have HL3 := Lib.hid (Nat.le_trans HLS.out hg.size)
  clear hu hg HAD N2 M2 U2 G2
  obtain ⟨c0, c1, c2⟩ := cells3 M3.out
  obtain ⟨f0, f1, f2⟩ := free3 M3.out
  have N4 := Lib.hid (blk_g N3.out (gsetCell w3 L 1 (.int .i64 (a : Int))) (by intro e; injection e with e; have := HL.out; omega))
  have M4 := Lib.hid (heap_setCell_same w3 L 1 _ 27 (.int .i64 (a : Int)) M3.out)
  have U4 := Lib.hid (U3.out.other (gsetCell w3 L 1 (.int .i64 (a : Int))) (by have := HL.out; have := HC.out; omega) (by have := HL.out; have := HGL.out; omega))
  have G4 := Lib.hid (gnew G3.out (gsetCell w3 L 1 (.int .i64 (a : Int))) (Nat.le_of_lt HL.out))
  have S4 := Lib.hid (gsetCell w3 L 1 (.int .i64 (a : Int))).size
  have HLB := Lib.hid (Nat.lt_of_lt_of_le HL3.out S4.out)
  go_wp2_with fail
  clear c0 c1 c2 f0 f1 f2
  generalize w3.setCell ⟨L, 1, none⟩ (.int .i64 (a : Int)) = w4 at *
  with_reducible refine (HFF.out w4 U4.out).mono ?_
  rintro e w5 ⟨va, vn, vc, rfl, hg, hcase⟩
  have N5 := Lib.hid (blk_g N4.out hg (by intro e; injection e with e; have := HC.out; omega))
  have M5 := Lib.hid (blk_g M4.out hg (by intro e; injection e with e; have := HC.out; have := HL.out; omega))
  have G5 := Lib.hid (gtrans G4.out hg)
  clear hg HFF
  rcases hcase with ⟨rfl, ho, at5, hu⟩ | ⟨hk0, ev, at5, hu, hm⟩
  · have U5 := Lib.hid hu
    have O5 := Lib.hid ho
    clear hu ho
    obtain ⟨c0, c1, c2⟩ := cells3 M5.out
    obtain ⟨f0, f1, f2⟩ := free3 M5.out
    have N6 := Lib.hid (blk_g N5.out (gsetCell w5 L 2 (.slice va vn vc)) (by intro e; injection e with e; have := HL.out; omega))
    have M6 := Lib.hid (heap_setCell_same w5 L 2 _ 27 (.slice va vn vc) M5.out)
    have U6 := Lib.hid (U5.out.other (gsetCell w5 L 2 (.slice va vn vc)) (by have := HL.out; have := HC.out; omega) (by have := HL.out; have := HGL.out; omega))
    have G6 := Lib.hid (gnew G5.out (gsetCell w5 L 2 (.slice va vn vc)) (Nat.le_of_lt HL.out))
    have O6 := Lib.hid (O5.out.other (gsetCell w5 L 2 (.slice va vn vc)) HLB.out)
    have S6 := Lib.hid (gsetCell w5 L 2 (.slice va vn vc)).size
    go_upto_region 7 with (fail)
    clear c0 c1 c2 f0 f1 f2
    generalize w5.setCell ⟨L, 2, none⟩ (.slice va vn vc) = w6 at *
    obtain ⟨c0, c1, c2⟩ := cells3 M6.out
    obtain ⟨d0, d1, d2⟩ := cells3 N6.out
    obtain ⟨f0, f1, f2⟩ := free3 N6.out
    have D1 := Lib.hid d1
    have HNZ := Lib.hid (show w.heap.size ≠ L from Nat.ne_of_lt HL.out)
    have SF := Lib.hid (set3g (.int .u8 (c : Int)) (.int .i64 (a : Int)) (.slice va vn vc) N6.out G6.out (Nat.le_refl _))
    go_wp2_with fail
    clear c0 c1 c2 d0 d1 d2 f0 f1 f2
    generalize ((w6.setCell ⟨w.heap.size, 0, none⟩ (.int .u8 (c : Int))).setCell ⟨w.heap.size, 1, none⟩ (.int .i64 (a : Int))).setCell ⟨w.heap.size, 2, none⟩ (.slice va vn vc) = wz at *
    refine bodyPost_ret (v := .agg #[.int .u8 (c : Int), .int .i64 (a : Int), .slice va vn vc]) (results_cell_row rfl _ _ w.heap.size 27 _ (0, 0) _ rfl SF.out.1 Tryd.underlying27 rfl (by kernel_rfl)) rfl ?_
    exact ⟨_, _, _, rfl, SF.out.2.2, (O6.out.other SF.out.2.1 (Nat.lt_trans HL.out HLB.out)).to.mono (Nat.le_of_lt (Nat.lt_trans HL.out HLB.out)), _, (U6.out.other SF.out.2.1 (by have := HC.out; omega) (by have := HGL.out; omega))⟩
  · have U5 := Lib.hid hu
    have E5 := Lib.hid hm
    have HK0 := Lib.hid hk0
    clear hu hm hk0
    obtain ⟨c0, c1, c2⟩ := cells3 M5.out
    obtain ⟨f0, f1, f2⟩ := free3 M5.out
    have D5 := Lib.hid c1
    have N6 := Lib.hid (blk_g N5.out (gsetCell w5 L 2 (.slice va vn vc)) (by intro e; injection e with e; have := HL.out; omega))
    have M6 := Lib.hid (heap_setCell_same w5 L 2 _ 27 (.slice va vn vc) M5.out)
    have U6 := Lib.hid (U5.out.other (gsetCell w5 L 2 (.slice va vn vc)) (by have := HL.out; have := HC.out; omega) (by have := HL.out; have := HGL.out; omega))
    have G6 := Lib.hid (gnew G5.out (gsetCell w5 L 2 (.slice va vn vc)) (Nat.le_of_lt HL.out))
    have E6 := Lib.hid (E5.out.other (gsetCell w5 L 2 (.slice va vn vc)) (fun t x h => by rw [D5.out] at h; cases h))
    have S6 := Lib.hid (gsetCell w5 L 2 (.slice va vn vc)).size
    go_upto_region 7 with (fail)
    clear c0 c1 c2 f0 f1 f2
    generalize w5.setCell ⟨L, 2, none⟩ (.slice va vn vc) = w6 at *
    obtain ⟨c0, c1, c2⟩ := cells3 M6.out
    obtain ⟨d0, d1, d2⟩ := cells3 N6.out
    obtain ⟨f0, f1, f2⟩ := free3 N6.out
    have D1 := Lib.hid d1
    have HNZ := Lib.hid (show w.heap.size ≠ L from Nat.ne_of_lt HL.out)
    have SF := Lib.hid (set3g (.int .u8 (c : Int)) (.int .i64 (a : Int)) (.slice va vn vc) N6.out G6.out (Nat.le_refl _))
    go_wp2_with fail
    clear c0 c1 c2 d0 d1 d2 f0 f1 f2
    generalize ((w6.setCell ⟨w.heap.size, 0, none⟩ (.int .u8 (c : Int))).setCell ⟨w.heap.size, 1, none⟩ (.int .i64 (a : Int))).setCell ⟨w.heap.size, 2, none⟩ (.slice va vn vc) = wz at *
    refine bodyPost_ret (v := .agg #[.int .u8 (c : Int), .int .i64 (a : Int), .slice va vn vc]) (results_cell_row rfl _ _ w.heap.size 27 _ (0, 0) _ rfl SF.out.1 Tryd.underlying27 rfl (by kernel_rfl)) rfl ?_
    exact .inr ⟨HK0.out, ⟨_, _, _, _, _, rfl, SF.out.2.2, _, _, (U6.out.other SF.out.2.1 (by have := HC.out; omega) (by have := HGL.out; omega)), E6.out.other SF.out.2.1 (fun t x h => by rw [D1.out] at h; cases h)⟩⟩
end Inp
end Go.Proofs.YthjocmcafoifbaaDoor
