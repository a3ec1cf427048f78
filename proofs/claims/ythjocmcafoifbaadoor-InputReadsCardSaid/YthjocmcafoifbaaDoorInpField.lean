/- takeField of package input. -/
import Derived.Test.YthjocmcafoifbaaDoorInpText
import Derived.Deep.Cut
namespace Go.Proofs.YthjocmcafoifbaaDoor
open Go.RowKit Sha Cut Err Six Att Byt Apd
namespace Inp
theorem set2g {w a : World} {B : Nat} {r : Option Nat} {t : TypeId} {a0 a1 : Value} (u0 u1 : Value) (h : a.heap[B]? = some (.cells #[a0, a1] t (0, 0))) (hg : w.grownBy a r) (hB : w.heap.size ≤ B) :
    ((a.setCell ⟨B, 0, none⟩ u0).setCell ⟨B, 1, none⟩ u1).heap[B]? = some (.cells #[u0, u1] t (0, 0)) ∧
    a.grownBy ((a.setCell ⟨B, 0, none⟩ u0).setCell ⟨B, 1, none⟩ u1) (some B) ∧
    w.grownBy ((a.setCell ⟨B, 0, none⟩ u0).setCell ⟨B, 1, none⟩ u1) r := by
  have h := heap_setCell_same _ B 0 _ t u0 h
  have h := heap_setCell_same _ B 1 _ t u1 h
  have hs : a.grownBy ((a.setCell ⟨B, 0, none⟩ u0).setCell ⟨B, 1, none⟩ u1) (some B) := gtrans (gsetCell _ _ _ _) (gsetCell _ _ _ _)
  exact ⟨h, hs, gnew hg hs hB⟩
theorem cells2 {w : World} {B : Nat} {t : TypeId} {a0 a1 : Value} (h : w.heap[B]? = some (.cells #[a0, a1] t (0, 0))) : w.cell? ⟨B, 0, none⟩ = some a0 ∧ w.cell? ⟨B, 1, none⟩ = some a1 :=
  ⟨cell_of_row _ _ 0 _ _ _ h, cell_of_row _ _ 1 _ _ _ h⟩
theorem free2 {w : World} {B : Nat} {t : TypeId} {a0 a1 : Value} (h : w.heap[B]? = some (.cells #[a0, a1] t (0, 0))) : w.frozen? ⟨B, 0, none⟩ = false ∧ w.frozen? ⟨B, 1, none⟩ = false := by
  obtain ⟨h0, h1⟩ := cells2 h
  constructor <;> simp [World.frozen?, h]
set_option maxRecDepth 100000 in
set_option maxHeartbeats 8000000 in
/-- A field that stands there. -/
theorem takeField_ok {C g at_ : Nat} {xs : List Nat} (z : Nat) (w : World) (h : Cur w C g xs at_ .nilIface) (h8 : ∀ x ∈ xs, x < 256) (hx : xs.length < 1000000) (hl : at_ < xs.length) (h17 : xs.getD at_ 0 = 17) (ha : (Adr.aspec (xs.drop (at_ + 1)) z).2.1 = 0) (a : Nat) (haa : (Adr.aspec (xs.drop (at_ + 1)) z).1 = a) (T : List Nat) (hT : T = lets (xs.drop (at_ + 3))) :
    Calls Tryd.prog 61 #[.pointer (some ⟨C, 0, none⟩), .int .i64 (z : Int)] w fun e w' => ∃ ta tc, e = .returned (.agg #[.int .i64 (a : Int), .slice ta T.length tc]) ∧ w'.ownsRow w.heap.size 5 1 (.slice ta T.length tc) T.length (u8s T) ∧ Cur w' C g xs (at_ + 3 + T.length) .nilIface ∧ w.grownBy w' (some C) := by
  have HC := Lib.hid h.clt
  have HGL := Lib.hid h.glt
  have HX := Lib.hid hx
  have H8 := Lib.hid h8
  have HL := Lib.hid hl
  have HA0 := al_any w (.cells #[.int .i64 0, .slice none 0 0] 47)
  have HN := Lib.hid (heap_alloc_new w (.cells #[.int .i64 0, .slice none 0 0] 47))
  have HW0 := Lib.hid (gbelow HA0 (some C))
  have HU := Lib.hid (h.below HA0)
  have HP := Lib.hid (peek_ok _ (h.below HA0) hl)
  rw [h17] at HP
  have HBY := Lib.hid fun m => byte_ok _ ((h.below HA0).drewN m) hl (by omega)
  have HAD := Lib.hid fun W (hu : Cur W C g xs (at_ + 1) .nilIface) => addr_ok (z : Int) W hu h8 (by omega) ha
  rw [haa] at HAD
  have HTX := Lib.hid fun W (hu : Cur W C g xs (at_ + 1 + 2) .nilIface) => takeText_any W hu h8 hx
  rw [show at_ + 1 + 2 = at_ + 3 by omega, ← hT] at HTX
  have hA : w.heap.size ≤ (w.alloc (.cells #[.int .i64 0, .slice none 0 0] 47)).heap.size := HA0.size
  have HSZ := Lib.hid hA
  clear h h8 hx hl ha haa hT HA0 hA
  go_enter Tryd.func61, Tryd.ntmps61
  go_upto_region 1 with (fail)
  generalize w.alloc (.cells #[.int .i64 0, .slice none 0 0] 47) = w1 at *
  go_wp2_with fail
  with_reducible refine HP.out.mono ?_
  rintro e w2 ⟨rfl, m, rfl⟩
  go_wp2_with fail
  with_reducible refine (HBY.out m).mono ?_
  rintro e w2 ⟨rfl, hu, hg⟩
  have U2 := Lib.hid hu
  have hg2 := gtrans (gdrewN w1 m (some C)) hg
  have W2 := Lib.hid (gtrans HW0.out hg2)
  have N2 := Lib.hid (blk_g HN.out hg2 (by intro e; injection e with e; have := HC.out; omega))
  have S2 := Lib.hid (Nat.le_trans HSZ.out hg2.size)
  clear hu hg hg2 HP HBY HU HW0 HN
  go_wp2_with fail
  with_reducible refine (HAD.out _ U2.out).mono ?_
  rintro e w3 ⟨rfl, hu, hg⟩
  have U3 := Lib.hid hu
  have W3 := Lib.hid (gtrans W2.out hg)
  have N3 := Lib.hid (blk_g N2.out hg (by intro e; injection e with e; have := HC.out; omega))
  have S3 := Lib.hid (Nat.le_trans S2.out hg.size)
  clear hu hg HAD U2 W2 N2 S2
  go_wp2_with fail
  with_reducible refine (HTX.out _ U3.out).mono ?_
  rintro e w4 ⟨ta, tc, rfl, ho, hu, hg⟩
  have U4 := Lib.hid hu
  have W4 := Lib.hid (gtrans W3.out hg)
  have N4 := Lib.hid (blk_g N3.out hg (by intro e; injection e with e; have := HC.out; omega))
  have HLT := Lib.hid (there_lt N3.out)
  have O4 := Lib.hid ho
  clear hu hg HTX U3 W3 N3 ho
  obtain ⟨c0, c1⟩ := cells2 N4.out
  obtain ⟨f0, f1⟩ := free2 N4.out
  go_wp2_with fail
  clear c0 c1 f0 f1
  have SF := Lib.hid (set2g (.int .i64 (a : Int)) (.slice ta T.length tc) N4.out W4.out (Nat.le_refl _))
  generalize (w4.setCell ⟨w.heap.size, 0, none⟩ (.int .i64 (a : Int))).setCell ⟨w.heap.size, 1, none⟩ (.slice ta T.length tc) = wz at *
  refine bodyPost_ret (v := .agg #[.int .i64 (a : Int), .slice ta T.length tc]) (results_cell_row rfl _ _ w.heap.size 47 _ (0, 0) _ rfl SF.out.1 Tryd.underlying47 rfl (by kernel_rfl)) rfl ?_
  exact ⟨_, _, rfl, own_mono (own_other O4.out SF.out.2.1 HLT.out) S3.out, U4.out.other SF.out.2.1 (by have := HC.out; omega) (by have := HGL.out; omega), SF.out.2.2⟩
set_option maxRecDepth 100000 in
set_option maxHeartbeats 8000000 in
/-- A field whose address is wrong. -/
theorem takeField_addr {C g at_ : Nat} {xs : List Nat} (z : Nat) (w : World) (h : Cur w C g xs at_ .nilIface) (h8 : ∀ x ∈ xs, x < 256) (hx : xs.length < 1000000) (hl : at_ < xs.length) (h17 : xs.getD at_ 0 = 17) (k : Nat) (hk : (Adr.aspec (xs.drop (at_ + 1)) z).2.1 = k) (hk0 : k ≠ 0) :
    Calls Tryd.prog 61 #[.pointer (some ⟨C, 0, none⟩), .int .i64 (z : Int)] w fun e w' => e = .returned (.agg #[.int .i64 0, .slice none 0 0]) ∧ ∃ ev at', Cur w' C g xs at' ev ∧ Byt.Met w' ev (k : Int) (at_ + 1) ∧ w.grownBy w' (some C) := by
  have HC := Lib.hid h.clt
  have HGL := Lib.hid h.glt
  have HL := Lib.hid hl
  have HA0 := al_any w (.cells #[.int .i64 0, .slice none 0 0] 47)
  have HN := Lib.hid (heap_alloc_new w (.cells #[.int .i64 0, .slice none 0 0] 47))
  have HW0 := Lib.hid (gbelow HA0 (some C))
  have HP := Lib.hid (peek_ok _ (h.below HA0) hl)
  rw [h17] at HP
  have HBY := Lib.hid fun m => byte_ok _ ((h.below HA0).drewN m) hl (by omega)
  have HAD := Lib.hid fun W (hu : Cur W C g xs (at_ + 1) .nilIface) => addr_bad (z : Int) W hu h8 (by rw [hk]; exact hk0)
  rw [hk] at HAD
  clear h h8 hx hl hk hk0 HA0
  go_enter Tryd.func61, Tryd.ntmps61
  go_upto_region 1 with (fail)
  generalize w.alloc (.cells #[.int .i64 0, .slice none 0 0] 47) = w1 at *
  go_wp2_with fail
  with_reducible refine HP.out.mono ?_
  rintro e w2 ⟨rfl, m, rfl⟩
  go_wp2_with fail
  with_reducible refine (HBY.out m).mono ?_
  rintro e w2 ⟨rfl, hu, hg⟩
  have U2 := Lib.hid hu
  have hg2 := gtrans (gdrewN w1 m (some C)) hg
  have W2 := Lib.hid (gtrans HW0.out hg2)
  have N2 := Lib.hid (blk_g HN.out hg2 (by intro e; injection e with e; have := HC.out; omega))
  clear hu hg hg2 HP HBY HW0 HN
  go_wp2_with fail
  with_reducible refine (HAD.out _ U2.out).mono ?_
  rintro e w3 ⟨rfl, ev, hu, hm, hg⟩
  obtain ⟨b, rfl, hm⟩ := hm
  have U4 := Lib.hid hu
  have M4 : Hid (Byt.Met w3 _ (k : Int) (at_ + 1)) := Lib.hid ⟨b, rfl, hm⟩
  have W4 := Lib.hid (gtrans W2.out hg)
  have N4 := Lib.hid (blk_g N2.out hg (by intro e; injection e with e; have := HC.out; omega))
  clear hu hg HAD U2 W2 N2 hm
  go_wp2_with fail
  with_reducible refine (takeText_met w3 U4.out).mono ?_
  rintro e w4 ⟨rfl, rfl⟩
  obtain ⟨c0, c1⟩ := cells2 N4.out
  obtain ⟨f0, f1⟩ := free2 N4.out
  have D1 := Lib.hid c1
  go_wp2_with fail
  clear c0 c1 f0 f1
  have SF := Lib.hid (set2g (.int .i64 0) (.slice none 0 0) N4.out W4.out (Nat.le_refl _))
  generalize (w3.setCell ⟨w.heap.size, 0, none⟩ (.int .i64 0)).setCell ⟨w.heap.size, 1, none⟩ (.slice none 0 0) = wz at *
  refine bodyPost_ret (v := .agg #[.int .i64 0, .slice none 0 0]) (results_cell_row rfl _ _ w.heap.size 47 _ (0, 0) _ rfl SF.out.1 Tryd.underlying47 rfl (by kernel_rfl)) rfl ?_
  exact ⟨rfl, _, _, U4.out.other SF.out.2.1 (by have := HC.out; omega) (by have := HGL.out; omega), M4.out.other SF.out.2.1 (fun t x h => by rw [D1.out] at h; cases h), SF.out.2.2⟩
set_option maxRecDepth 100000 in
set_option maxHeartbeats 8000000 in
/-- No field stands there. -/
theorem takeField_bad {C g at_ : Nat} {xs : List Nat} (z : Nat) (w : World) (h : Cur w C g xs at_ .nilIface) (hl : at_ < xs.length) (h17 : xs.getD at_ 0 ≠ 17) :
    Calls Tryd.prog 61 #[.pointer (some ⟨C, 0, none⟩), .int .i64 (z : Int)] w fun e w' => e = .returned (.agg #[.int .i64 0, .slice none 0 0]) ∧ ∃ ev at', Cur w' C g xs at' ev ∧ Byt.Met w' ev 3 at_ ∧ w.grownBy w' (some C) := by
  have HC := Lib.hid h.clt
  have HGL := Lib.hid h.glt
  have HL := Lib.hid hl
  have HA0 := al_any w (.cells #[.int .i64 0, .slice none 0 0] 47)
  have HN := Lib.hid (heap_alloc_new w (.cells #[.int .i64 0, .slice none 0 0] 47))
  have HW0 := Lib.hid (gbelow HA0 (some C))
  have HP := Lib.hid (peek_ok _ (h.below HA0) hl)
  have HF := Lib.hid (fun m => fail_new (d := 0) (.iface 50 (.int .i64 3)) 3 _ ((h.below HA0).drewN m) rfl)
  clear h hl HA0
  generalize xs.getD at_ 0 = x at *
  have e17 : ((x : Int) != 17) = true := by simp; omega
  clear h17
  go_enter Tryd.func61, Tryd.ntmps61
  go_upto_region 1 with (fail)
  generalize w.alloc (.cells #[.int .i64 0, .slice none 0 0] 47) = w1 at *
  go_wp2_with fail
  with_reducible refine HP.out.mono ?_
  rintro e w2 ⟨rfl, m, rfl⟩
  go_wp2_with fail
  with_reducible refine (HF.out m).mono ?_
  rintro e w2 ⟨rfl, ev, hu, hm, hg⟩
  obtain ⟨b, rfl, hm⟩ := hm
  have U2 := Lib.hid hu
  have M2 : Hid (Byt.Met w2 _ 3 at_) := Lib.hid ⟨b, rfl, hm⟩
  have hg2 := gtrans (gdrewN w1 m (some C)) hg
  have W2 := Lib.hid (gtrans HW0.out hg2)
  have N2 := Lib.hid (blk_g HN.out hg2 (by intro e; injection e with e; have := HC.out; omega))
  clear hu hg hg2 HP HF HW0 HN hm
  go_wp2_with fail
  with_reducible refine (byte_met _ U2.out).mono ?_
  rintro e w3 ⟨rfl, rfl⟩
  go_wp2_with fail
  with_reducible refine (addr_met (z : Int) _ U2.out).mono ?_
  rintro e w3 ⟨rfl, hb⟩
  have U4 := Lib.hid (U2.out.below hb)
  have M4 := Lib.hid (M2.out.below hb)
  have W4 := Lib.hid (gtrans W2.out (gbelow hb _))
  have N4 := Lib.hid (blk N2.out hb)
  clear hb U2 W2 N2 M2
  go_wp2_with fail
  with_reducible refine (takeText_met w3 U4.out).mono ?_
  rintro e w4 ⟨rfl, rfl⟩
  obtain ⟨c0, c1⟩ := cells2 N4.out
  obtain ⟨f0, f1⟩ := free2 N4.out
  have D1 := Lib.hid c1
  go_wp2_with fail
  clear c0 c1 f0 f1
  have SF := Lib.hid (set2g (.int .i64 0) (.slice none 0 0) N4.out W4.out (Nat.le_refl _))
  generalize (w3.setCell ⟨w.heap.size, 0, none⟩ (.int .i64 0)).setCell ⟨w.heap.size, 1, none⟩ (.slice none 0 0) = wz at *
  refine bodyPost_ret (v := .agg #[.int .i64 0, .slice none 0 0]) (results_cell_row rfl _ _ w.heap.size 47 _ (0, 0) _ rfl SF.out.1 Tryd.underlying47 rfl (by kernel_rfl)) rfl ?_
  exact ⟨rfl, _, _, U4.out.other SF.out.2.1 (by have := HC.out; omega) (by have := HGL.out; omega), M4.out.other SF.out.2.1 (fun t x h => by rw [D1.out] at h; cases h), SF.out.2.2⟩
end Inp
end Go.Proofs.YthjocmcafoifbaaDoor
