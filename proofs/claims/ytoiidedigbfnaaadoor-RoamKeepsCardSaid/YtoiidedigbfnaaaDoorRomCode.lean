/- Come and Known of package roam. Written by tools/gen_rom.py. -/
import Derived.Test.YtoiidedigbfnaaaDoorRomArg
import Derived.Test.YtoiidedigbfnaaaDoorRomClone
import Derived.Test.YtoiidedigbfnaaaDoorBunFrc
import Derived.Test.YtoiidedigbfnaaaDoorWinCode
import Derived.Deep.QuietTactic
import Derived.BigQuiet
import Derived.Deep.Cut
import Derived.Deep.LoopGhost
import Derived.Deep.RegionLaw
import Derived.Deep.RegionHeld3
import Derived.IntWalk
import Derived.Lib.SmallJoins
namespace Go.Proofs.YtoiidedigbfnaaaDoor
open Go.RowKit Sha Six Apd Cut Err Frm
set_option linter.unusedVariables false
set_option linter.unusedSimpArgs false
namespace Rom
set_option maxRecDepth 100000 in
set_option maxHeartbeats 8000000 in
theorem known_any (g : G) (ka : Option Addr) (kc : Nat) (w : World) : Calls Tryd.prog 10 #[.agg #[.slice ka g.k.length kc, .int .i64 g.d, .int .i64 g.s.top, .int .u64 (g.s.bits : Int), .string g.pa, .int .i64 g.pq]] w fun e w' => e = .returned (.bool (decide (0 < g.pq))) ∧ Below w.heap.size w w' := by
  obtain ⟨k, d, ⟨t, b⟩, pa, pq⟩ := g
  simp only
  have HB := Lib.hid (al_any w (.cells #[.slice ka k.length kc, .int .i64 d, .int .i64 t, .int .u64 (b : Int), .string pa, .int .i64 pq] 31))
  have HX := Lib.hid (heap_alloc_new w (.cells #[.slice ka k.length kc, .int .i64 d, .int .i64 t, .int .u64 (b : Int), .string pa, .int .i64 pq] 31))
  generalize hp : decide (0 < pq) = r
  go_enter Tryd.func10, Tryd.ntmps10
  go_upto_region 1 with (fail)
  generalize w.alloc _ = w1 at *
  obtain ⟨c0, c1, c2, c3, c4, c5⟩ := cells6 HX.out
  go_wp2_with fail
  go_ret
  exact ⟨by first | rfl | (rw [← hp]; rfl) | (rw [hp]; rfl), HB.out⟩
set_option maxRecDepth 100000 in
set_option maxHeartbeats 8000000 in
theorem come_bad (g : G) (src : ByteArray) (bs : List Nat) (ka : Option Addr) (kc : Nat) (ba : Option Addr) (bc : Nat) (w : World) (hk : Byts w ka kc g.k) (hb : Byts w ba bc bs) (hkl : g.k.length < 1000000) (hbl : bs.length < 1000000) (hr : Win.right g.s = true) (hf : Win.Fit g.s) (hd : IntKind.i64.wrap g.d = g.d) (h : (open_ g.k g.d bs).2 ≠ 0) :
    Calls Tryd.prog 8 #[.agg #[.slice ka g.k.length kc, .int .i64 g.d, .int .i64 g.s.top, .int .u64 (g.s.bits : Int), .string g.pa, .int .i64 g.pq], .string src, .slice ba bs.length bc] w fun e w' => GaveR w w' g [] (open_ g.k g.d bs).2 e := by
  have HCL := Lib.hid fun W (hb1 : Below w.heap.size w W) => clone_any ka g.k.length kc g.k W (hk.below hb1).at_ hk.nil (by omega)
  have HO := Lib.hid fun ka kc W (hk : Byts W ka kc g.k) (hb1 : Below w.heap.size w W) => fopen_any g.k bs g.d ka kc ba bc W hk (hb.below hb1) hkl hbl hd
  have HSM := Lib.hid hk.small
  simp only [GaveF] at HO
  rw [errn_pos h] at HO
  have HPQ := Lib.hid (errn_pos h)
  generalize open_ g.k g.d bs = o at *
  obtain ⟨⟨fd, fq, fb⟩, oc⟩ := o
  simp only at *
  clear hk hb hkl hbl hr hf hd h
  have HB := Lib.hid (kept_trans (al_any w (.cells #[.slice ka g.k.length kc, .int .i64 g.d, .int .i64 g.s.top, .int .u64 (g.s.bits : Int), .string g.pa, .int .i64 g.pq] 31)) (al_any _ (.cells #[.slice none 0 0, .int .i64 0, .int .i64 0, .int .u64 0, .string ⟨#[]⟩, .int .i64 0] 31)))
  have HX := Lib.hid (heap_alloc2_old w (.cells #[.slice ka g.k.length kc, .int .i64 g.d, .int .i64 g.s.top, .int .u64 (g.s.bits : Int), .string g.pa, .int .i64 g.pq] 31) (.cells #[.slice none 0 0, .int .i64 0, .int .i64 0, .int .u64 0, .string ⟨#[]⟩, .int .i64 0] 31))
  have HY := Lib.hid (heap_alloc2_new w (.cells #[.slice ka g.k.length kc, .int .i64 g.d, .int .i64 g.s.top, .int .u64 (g.s.bits : Int), .string g.pa, .int .i64 g.pq] 31) (.cells #[.slice none 0 0, .int .i64 0, .int .i64 0, .int .u64 0, .string ⟨#[]⟩, .int .i64 0] 31))
  have HSZ := Lib.hid (show w.heap.size + 2 ≤ ((w.alloc (.cells #[.slice ka g.k.length kc, .int .i64 g.d, .int .i64 g.s.top, .int .u64 (g.s.bits : Int), .string g.pa, .int .i64 g.pq] 31)).alloc (.cells #[.slice none 0 0, .int .i64 0, .int .i64 0, .int .u64 0, .string ⟨#[]⟩, .int .i64 0] 31)).heap.size from by simp)
  go_enter Tryd.func8, Tryd.ntmps8
  go_upto_region 1 with (fail)
  generalize (w.alloc _).alloc _ = w1 at *
  obtain ⟨c0, c1, c2, c3, c4, c5⟩ := cells6 HX.out
  go_wp2_with fail
  with_reducible refine (HCL.out _ HB.out).mono ?_
  rintro e w2 ⟨v, rfl, ho, hb⟩
  obtain ⟨ja, jc, rfl⟩ := own_form ho
  replace HX := Lib.hid (blk HX.out hb)
  replace HY := Lib.hid (blk HY.out hb)
  replace HB := kept_hid HB hb
  have HQ := Lib.hid (own_mono ho HSZ.out)
  replace HSZ := Lib.hid (Nat.le_trans HSZ.out hb.size)
  clear ho hb HCL c0 c1 c2 c3 c4 c5
  obtain ⟨c0, c1, c2, c3, c4, c5⟩ := cells6 HX.out
  obtain ⟨g0, g1, g2, g3, g4, g5⟩ := free6 HX.out
  go_upto_region 2 with (fail)
  have s1 := heap_setCell_same _ w.heap.size 0 _ 31 (.slice ja g.k.length jc) HX.out
  have GR : w2.grownBy (w2.setCell ⟨w.heap.size, 0, none⟩ (.slice ja g.k.length jc)) (some w.heap.size) := gsetCell _ _ _ _
  replace HX : Hid ((w2.setCell ⟨w.heap.size, 0, none⟩ (.slice ja g.k.length jc)).heap[w.heap.size]? = some (.cells #[.slice ja g.k.length jc, .int .i64 g.d, .int .i64 g.s.top, .int .u64 (g.s.bits : Int), .string g.pa, .int .i64 g.pq] 31 (0, 0))) := Lib.hid s1
  replace HY := Lib.hid ((GR.block _ (there_lt HY.out) (by intro h; injection h with h; omega)).trans HY.out)
  replace HB := Lib.hid (HB.out.grown GR HB.out.size (by intro g hg; injection hg with hg; omega))
  replace HQ := Lib.hid (own_other HQ.out GR (by omega))
  replace HSZ := Lib.hid (Nat.le_trans HSZ.out GR.size)
  clear s1 GR g0 g1 g2 g3 g4 g5 c0 c1 c2 c3 c4 c5
  generalize w2.setCell _ _ = w1 at *
  have HKN := Lib.hid (byts_own HQ.out HSM.out)
  obtain ⟨c0, c1, c2, c3, c4, c5⟩ := cells6 HX.out
  go_wp2_with fail
  with_reducible refine (HO.out _ _ _ HKN.out HB.out).mono ?_
  rintro e w2 ⟨va, vc, rfl, ho, hb⟩
  have HA := al_any w2 (.cells #[.int .i64 fd, .int .i64 fq, .slice va fb.length vc] 38)
  have F3 := Lib.hid (heap_alloc_new w2 (.cells #[.int .i64 fd, .int .i64 fq, .slice va fb.length vc] 38))
  have hk2 := kept_trans hb HA
  have X3 := Lib.hid (blk HX.out hk2)
  have Y3 := Lib.hid (blk HY.out hk2)
  have K3 := kept_hid HB hk2
  have O3 := Lib.hid (own_mono (own_below ho HA) HSZ.out)
  have Q3 := Lib.hid (own_below HQ.out hk2)
  have HGF := Lib.hid (Nat.le_trans HSZ.out hb.size)
  clear hb ho HA hk2 HX HY HB HO HSZ HQ HKN c0 c1 c2 c3 c4 c5
  go_upto_region 3 with (fail)
  generalize w2.heap.size = GF at *
  generalize w2.alloc _ = w3 at *
  obtain ⟨c0, c1, c2, c3, c4, c5⟩ := cells6 X3.out
  have SF := Lib.hid (over6 w3 (w.heap.size + 1) 31 _ _ _ _ _ _ (.slice ja g.k.length jc) (.int .i64 g.d) (.int .i64 g.s.top) (.int .u64 (g.s.bits : Int)) (.string g.pa) (.int .i64 g.pq) Y3.out)
  obtain ⟨y0, y1, y2, y3, y4, y5⟩ := cells6 Y3.out
  obtain ⟨f0, f1, f2, f3, f4, f5⟩ := free6 Y3.out
  go_wp2_with fail
  clear y0 y1 y2 y3 y4 y5 f0 f1 f2 f3 f4 f5
  have KZ := Lib.hid (K3.out.grown SF.out.2 K3.out.size (by intro g hg; injection hg with hg; omega))
  have SZ := Lib.hid SF.out.1
  have GZ := Lib.hid SF.out.2
  have QZ := Lib.hid (own_other Q3.out SF.out.2 (Nat.lt_succ_self _))
  clear SF
  generalize ((((((w3.setCell _ _).setCell _ _).setCell _ _).setCell _ _).setCell _ _).setCell _ _) = w9 at *
  exact bodyPost_ret (v := .tuple #[.agg #[.slice ja g.k.length jc, .int .i64 g.d, .int .i64 g.s.top, .int .u64 (g.s.bits : Int), .string g.pa, .int .i64 g.pq], .slice none 0 0, .iface 56 (.int .i64 (oc : Int))]) (results_cell_2 rfl _ _ _ (w.heap.size + 1) _ rfl (run_loadVar_row _ (w.heap.size + 1) 31 31 _ (0, 0) _ SZ.out Tryd.underlying31 rfl (by kernel_rfl)) (.slice none 0 0) (.iface 56 (.int .i64 (oc : Int))) rfl rfl) rfl ⟨ja, jc, none, 0, by rw [HPQ.out]; rfl, byts_own QZ.out HSM.out, World.ownsRow_nil _ _ _ _, KZ.out⟩
set_option maxRecDepth 100000 in
set_option maxHeartbeats 8000000 in
theorem come_old (g : G) (src : ByteArray) (bs : List Nat) (ka : Option Addr) (kc : Nat) (ba : Option Addr) (bc : Nat) (w : World) (hk : Byts w ka kc g.k) (hb : Byts w ba bc bs) (hkl : g.k.length < 1000000) (hbl : bs.length < 1000000) (hr : Win.right g.s = true) (hf : Win.Fit g.s) (hd : IntKind.i64.wrap g.d = g.d) (h : (open_ g.k g.d bs).2 = 0) (h2 : (Win.lets g.s (open_ g.k g.d bs).1.q).2 ≠ 0) :
    Calls Tryd.prog 8 #[.agg #[.slice ka g.k.length kc, .int .i64 g.d, .int .i64 g.s.top, .int .u64 (g.s.bits : Int), .string g.pa, .int .i64 g.pq], .string src, .slice ba bs.length bc] w fun e w' => GaveR w w' g [] (Win.lets g.s (open_ g.k g.d bs).1.q).2 e := by
  have HCL := Lib.hid fun W (hb1 : Below w.heap.size w W) => clone_any ka g.k.length kc g.k W (hk.below hb1).at_ hk.nil (by omega)
  have HO := Lib.hid fun ka kc W (hk : Byts W ka kc g.k) (hb1 : Below w.heap.size w W) => fopen_any g.k bs g.d ka kc ba bc W hk (hb.below hb1) hkl hbl hd
  have HSM := Lib.hid hk.small
  simp only [GaveF] at HO
  have HOQ := (show 1 ≤ (open_ g.k g.d bs).1.q ∧ (open_ g.k g.d bs).1.q ≤ 4611686018427387904 from by
    have := (seal_open (f := (open_ g.k g.d bs).1) hb.small (by rw [← h])).1
    have := wrong_ok this
    omega)
  have HL := Lib.hid fun W => Win.let_any g.s (open_ g.k g.d bs).1.q W hr hf (by rw [IntWalk.i64_in] <;> omega)
  rw [h, errn_0] at HO
  have HPQ := Lib.hid (errn_pos h2)
  simp only [Win.GaveL, errn_win] at HL
  rw [errn_pos h2] at HL
  generalize Win.lets g.s (open_ g.k g.d bs).1.q = l at *
  generalize open_ g.k g.d bs = o at *
  obtain ⟨⟨fd, fq, fb⟩, oc⟩ := o
  obtain ⟨⟨lt, lb⟩, lc⟩ := l
  simp only at *
  clear hk hb hkl hbl hr hf hd h h2 HOQ
  have HB := Lib.hid (kept_trans (al_any w (.cells #[.slice ka g.k.length kc, .int .i64 g.d, .int .i64 g.s.top, .int .u64 (g.s.bits : Int), .string g.pa, .int .i64 g.pq] 31)) (al_any _ (.cells #[.slice none 0 0, .int .i64 0, .int .i64 0, .int .u64 0, .string ⟨#[]⟩, .int .i64 0] 31)))
  have HX := Lib.hid (heap_alloc2_old w (.cells #[.slice ka g.k.length kc, .int .i64 g.d, .int .i64 g.s.top, .int .u64 (g.s.bits : Int), .string g.pa, .int .i64 g.pq] 31) (.cells #[.slice none 0 0, .int .i64 0, .int .i64 0, .int .u64 0, .string ⟨#[]⟩, .int .i64 0] 31))
  have HY := Lib.hid (heap_alloc2_new w (.cells #[.slice ka g.k.length kc, .int .i64 g.d, .int .i64 g.s.top, .int .u64 (g.s.bits : Int), .string g.pa, .int .i64 g.pq] 31) (.cells #[.slice none 0 0, .int .i64 0, .int .i64 0, .int .u64 0, .string ⟨#[]⟩, .int .i64 0] 31))
  have HSZ := Lib.hid (show w.heap.size + 2 ≤ ((w.alloc (.cells #[.slice ka g.k.length kc, .int .i64 g.d, .int .i64 g.s.top, .int .u64 (g.s.bits : Int), .string g.pa, .int .i64 g.pq] 31)).alloc (.cells #[.slice none 0 0, .int .i64 0, .int .i64 0, .int .u64 0, .string ⟨#[]⟩, .int .i64 0] 31)).heap.size from by simp)
  go_enter Tryd.func8, Tryd.ntmps8
  go_upto_region 1 with (fail)
  generalize (w.alloc _).alloc _ = w1 at *
  obtain ⟨c0, c1, c2, c3, c4, c5⟩ := cells6 HX.out
  go_wp2_with fail
  with_reducible refine (HCL.out _ HB.out).mono ?_
  rintro e w2 ⟨v, rfl, ho, hb⟩
  obtain ⟨ja, jc, rfl⟩ := own_form ho
  replace HX := Lib.hid (blk HX.out hb)
  replace HY := Lib.hid (blk HY.out hb)
  replace HB := kept_hid HB hb
  have HQ := Lib.hid (own_mono ho HSZ.out)
  replace HSZ := Lib.hid (Nat.le_trans HSZ.out hb.size)
  clear ho hb HCL c0 c1 c2 c3 c4 c5
  obtain ⟨c0, c1, c2, c3, c4, c5⟩ := cells6 HX.out
  obtain ⟨g0, g1, g2, g3, g4, g5⟩ := free6 HX.out
  go_upto_region 2 with (fail)
  have s1 := heap_setCell_same _ w.heap.size 0 _ 31 (.slice ja g.k.length jc) HX.out
  have GR : w2.grownBy (w2.setCell ⟨w.heap.size, 0, none⟩ (.slice ja g.k.length jc)) (some w.heap.size) := gsetCell _ _ _ _
  replace HX : Hid ((w2.setCell ⟨w.heap.size, 0, none⟩ (.slice ja g.k.length jc)).heap[w.heap.size]? = some (.cells #[.slice ja g.k.length jc, .int .i64 g.d, .int .i64 g.s.top, .int .u64 (g.s.bits : Int), .string g.pa, .int .i64 g.pq] 31 (0, 0))) := Lib.hid s1
  replace HY := Lib.hid ((GR.block _ (there_lt HY.out) (by intro h; injection h with h; omega)).trans HY.out)
  replace HB := Lib.hid (HB.out.grown GR HB.out.size (by intro g hg; injection hg with hg; omega))
  replace HQ := Lib.hid (own_other HQ.out GR (by omega))
  replace HSZ := Lib.hid (Nat.le_trans HSZ.out GR.size)
  clear s1 GR g0 g1 g2 g3 g4 g5 c0 c1 c2 c3 c4 c5
  generalize w2.setCell _ _ = w1 at *
  have HKN := Lib.hid (byts_own HQ.out HSM.out)
  obtain ⟨c0, c1, c2, c3, c4, c5⟩ := cells6 HX.out
  go_wp2_with fail
  with_reducible refine (HO.out _ _ _ HKN.out HB.out).mono ?_
  rintro e w2 ⟨va, vc, rfl, ho, hb⟩
  have HA := al_any w2 (.cells #[.int .i64 fd, .int .i64 fq, .slice va fb.length vc] 38)
  have F3 := Lib.hid (heap_alloc_new w2 (.cells #[.int .i64 fd, .int .i64 fq, .slice va fb.length vc] 38))
  have hk2 := kept_trans hb HA
  have X3 := Lib.hid (blk HX.out hk2)
  have Y3 := Lib.hid (blk HY.out hk2)
  have K3 := kept_hid HB hk2
  have O3 := Lib.hid (own_mono (own_below ho HA) HSZ.out)
  have Q3 := Lib.hid (own_below HQ.out hk2)
  have HGF := Lib.hid (Nat.le_trans HSZ.out hb.size)
  clear hb ho HA hk2 HX HY HB HO HSZ HQ HKN c0 c1 c2 c3 c4 c5
  go_upto_region 3 with (fail)
  generalize w2.heap.size = GF at *
  generalize w2.alloc _ = w3 at *
  obtain ⟨c0, c1, c2, c3, c4, c5⟩ := cells6 X3.out
  obtain ⟨d0, d1, d2⟩ := cells3 F3.out
  go_wp2_with fail
  with_reducible refine (HL.out _).mono ?_
  rintro e w4 ⟨rfl, hb⟩
  have HA := al_any w4 (.cells #[.int .i64 lt, .int .u64 (lb : Int)] 27)
  have S5 := Lib.hid (heap_alloc_new w4 (.cells #[.int .i64 lt, .int .u64 (lb : Int)] 27))
  have hk2 := kept_trans hb HA
  have X5 := Lib.hid (blk X3.out hk2)
  have Y5 := Lib.hid (blk Y3.out hk2)
  have F5 := Lib.hid (blk F3.out hk2)
  have K5 := kept_hid K3 hk2
  have O5 := Lib.hid (own_below O3.out hk2)
  have Q5 := Lib.hid (own_below Q3.out hk2)
  have HGS := Lib.hid (Nat.le_trans (Nat.le_of_lt (there_lt F3.out)) hb.size)
  clear hb HA hk2 X3 Y3 F3 K3 O3 Q3 HL c0 c1 c2 c3 c4 c5 d0 d1 d2
  go_upto_region 6 with (fail)
  generalize w4.heap.size = GS at *
  generalize w4.alloc _ = w5 at *
  obtain ⟨c0, c1, c2, c3, c4, c5⟩ := cells6 X5.out
  have SF := Lib.hid (over6 w5 (w.heap.size + 1) 31 _ _ _ _ _ _ (.slice ja g.k.length jc) (.int .i64 g.d) (.int .i64 g.s.top) (.int .u64 (g.s.bits : Int)) (.string g.pa) (.int .i64 g.pq) Y5.out)
  obtain ⟨y0, y1, y2, y3, y4, y5⟩ := cells6 Y5.out
  obtain ⟨f0, f1, f2, f3, f4, f5⟩ := free6 Y5.out
  go_wp2_with fail
  clear y0 y1 y2 y3 y4 y5 f0 f1 f2 f3 f4 f5
  have KZ := Lib.hid (K5.out.grown SF.out.2 K5.out.size (by intro g hg; injection hg with hg; omega))
  have SZ := Lib.hid SF.out.1
  have GZ := Lib.hid SF.out.2
  have QZ := Lib.hid (own_other Q5.out SF.out.2 (Nat.lt_succ_self _))
  clear SF
  generalize ((((((w5.setCell _ _).setCell _ _).setCell _ _).setCell _ _).setCell _ _).setCell _ _) = w9 at *
  exact bodyPost_ret (v := .tuple #[.agg #[.slice ja g.k.length jc, .int .i64 g.d, .int .i64 g.s.top, .int .u64 (g.s.bits : Int), .string g.pa, .int .i64 g.pq], .slice none 0 0, .iface 56 (.int .i64 (lc : Int))]) (results_cell_2 rfl _ _ _ (w.heap.size + 1) _ rfl (run_loadVar_row _ (w.heap.size + 1) 31 31 _ (0, 0) _ SZ.out Tryd.underlying31 rfl (by kernel_rfl)) (.slice none 0 0) (.iface 56 (.int .i64 (lc : Int))) rfl rfl) rfl ⟨ja, jc, none, 0, by rw [HPQ.out]; rfl, byts_own QZ.out HSM.out, World.ownsRow_nil _ _ _ _, KZ.out⟩
set_option maxRecDepth 100000 in
set_option maxHeartbeats 8000000 in
theorem come_new (g : G) (src : ByteArray) (bs : List Nat) (ka : Option Addr) (kc : Nat) (ba : Option Addr) (bc : Nat) (w : World) (hk : Byts w ka kc g.k) (hb : Byts w ba bc bs) (hkl : g.k.length < 1000000) (hbl : bs.length < 1000000) (hr : Win.right g.s = true) (hf : Win.Fit g.s) (hd : IntKind.i64.wrap g.d = g.d) (h : (open_ g.k g.d bs).2 = 0) (h2 : (Win.lets g.s (open_ g.k g.d bs).1.q).2 = 0) :
    Calls Tryd.prog 8 #[.agg #[.slice ka g.k.length kc, .int .i64 g.d, .int .i64 g.s.top, .int .u64 (g.s.bits : Int), .string g.pa, .int .i64 g.pq], .string src, .slice ba bs.length bc] w fun e w' => GaveR w w' ⟨g.k, g.d, (Win.lets g.s (open_ g.k g.d bs).1.q).1, if g.pq < (open_ g.k g.d bs).1.q then src else g.pa, if g.pq < (open_ g.k g.d bs).1.q then (open_ g.k g.d bs).1.q else g.pq⟩ (open_ g.k g.d bs).1.b 0 e := by
  have HCL := Lib.hid fun W (hb1 : Below w.heap.size w W) => clone_any ka g.k.length kc g.k W (hk.below hb1).at_ hk.nil (by omega)
  have HO := Lib.hid fun ka kc W (hk : Byts W ka kc g.k) (hb1 : Below w.heap.size w W) => fopen_any g.k bs g.d ka kc ba bc W hk (hb.below hb1) hkl hbl hd
  have HSM := Lib.hid hk.small
  simp only [GaveF] at HO
  have HOQ := (show 1 ≤ (open_ g.k g.d bs).1.q ∧ (open_ g.k g.d bs).1.q ≤ 4611686018427387904 from by
    have := (seal_open (f := (open_ g.k g.d bs).1) hb.small (by rw [← h])).1
    have := wrong_ok this
    omega)
  have HL := Lib.hid fun W => Win.let_any g.s (open_ g.k g.d bs).1.q W hr hf (by rw [IntWalk.i64_in] <;> omega)
  rw [h, errn_0] at HO
  simp only [Win.GaveL, errn_win] at HL
  rw [h2, errn_0] at HL
  generalize (Win.lets g.s (open_ g.k g.d bs).1.q).1 = l at *
  generalize open_ g.k g.d bs = o at *
  obtain ⟨⟨fd, fq, fb⟩, oc⟩ := o
  obtain ⟨lt, lb⟩ := l
  obtain ⟨k, d, ⟨st, sb⟩, pa, pq⟩ := g
  simp only at *
  clear hk hb hkl hbl hr hf hd h h2 HOQ
  have HB := Lib.hid (kept_trans (al_any w (.cells #[.slice ka k.length kc, .int .i64 d, .int .i64 st, .int .u64 (sb : Int), .string pa, .int .i64 pq] 31)) (al_any _ (.cells #[.slice none 0 0, .int .i64 0, .int .i64 0, .int .u64 0, .string ⟨#[]⟩, .int .i64 0] 31)))
  have HX := Lib.hid (heap_alloc2_old w (.cells #[.slice ka k.length kc, .int .i64 d, .int .i64 st, .int .u64 (sb : Int), .string pa, .int .i64 pq] 31) (.cells #[.slice none 0 0, .int .i64 0, .int .i64 0, .int .u64 0, .string ⟨#[]⟩, .int .i64 0] 31))
  have HY := Lib.hid (heap_alloc2_new w (.cells #[.slice ka k.length kc, .int .i64 d, .int .i64 st, .int .u64 (sb : Int), .string pa, .int .i64 pq] 31) (.cells #[.slice none 0 0, .int .i64 0, .int .i64 0, .int .u64 0, .string ⟨#[]⟩, .int .i64 0] 31))
  have HSZ := Lib.hid (show w.heap.size + 2 ≤ ((w.alloc (.cells #[.slice ka k.length kc, .int .i64 d, .int .i64 st, .int .u64 (sb : Int), .string pa, .int .i64 pq] 31)).alloc (.cells #[.slice none 0 0, .int .i64 0, .int .i64 0, .int .u64 0, .string ⟨#[]⟩, .int .i64 0] 31)).heap.size from by simp)
  go_enter Tryd.func8, Tryd.ntmps8
  go_upto_region 1 with (fail)
  generalize (w.alloc _).alloc _ = w1 at *
  obtain ⟨c0, c1, c2, c3, c4, c5⟩ := cells6 HX.out
  go_wp2_with fail
  with_reducible refine (HCL.out _ HB.out).mono ?_
  rintro e w2 ⟨v, rfl, ho, hb⟩
  obtain ⟨ja, jc, rfl⟩ := own_form ho
  replace HX := Lib.hid (blk HX.out hb)
  replace HY := Lib.hid (blk HY.out hb)
  replace HB := kept_hid HB hb
  have HQ := Lib.hid (own_mono ho HSZ.out)
  replace HSZ := Lib.hid (Nat.le_trans HSZ.out hb.size)
  clear ho hb HCL c0 c1 c2 c3 c4 c5
  obtain ⟨c0, c1, c2, c3, c4, c5⟩ := cells6 HX.out
  obtain ⟨g0, g1, g2, g3, g4, g5⟩ := free6 HX.out
  go_upto_region 2 with (fail)
  have s1 := heap_setCell_same _ w.heap.size 0 _ 31 (.slice ja k.length jc) HX.out
  have GR : w2.grownBy (w2.setCell ⟨w.heap.size, 0, none⟩ (.slice ja k.length jc)) (some w.heap.size) := gsetCell _ _ _ _
  replace HX : Hid ((w2.setCell ⟨w.heap.size, 0, none⟩ (.slice ja k.length jc)).heap[w.heap.size]? = some (.cells #[.slice ja k.length jc, .int .i64 d, .int .i64 st, .int .u64 (sb : Int), .string pa, .int .i64 pq] 31 (0, 0))) := Lib.hid s1
  replace HY := Lib.hid ((GR.block _ (there_lt HY.out) (by intro h; injection h with h; omega)).trans HY.out)
  replace HB := Lib.hid (HB.out.grown GR HB.out.size (by intro g hg; injection hg with hg; omega))
  replace HQ := Lib.hid (own_other HQ.out GR (by omega))
  replace HSZ := Lib.hid (Nat.le_trans HSZ.out GR.size)
  clear s1 GR g0 g1 g2 g3 g4 g5 c0 c1 c2 c3 c4 c5
  generalize w2.setCell _ _ = w1 at *
  have HKN := Lib.hid (byts_own HQ.out HSM.out)
  obtain ⟨c0, c1, c2, c3, c4, c5⟩ := cells6 HX.out
  go_wp2_with fail
  with_reducible refine (HO.out _ _ _ HKN.out HB.out).mono ?_
  rintro e w2 ⟨va, vc, rfl, ho, hb⟩
  have HA := al_any w2 (.cells #[.int .i64 fd, .int .i64 fq, .slice va fb.length vc] 38)
  have F3 := Lib.hid (heap_alloc_new w2 (.cells #[.int .i64 fd, .int .i64 fq, .slice va fb.length vc] 38))
  have hk2 := kept_trans hb HA
  have X3 := Lib.hid (blk HX.out hk2)
  have Y3 := Lib.hid (blk HY.out hk2)
  have K3 := kept_hid HB hk2
  have O3 := Lib.hid (own_mono (own_below ho HA) HSZ.out)
  have Q3 := Lib.hid (own_below HQ.out hk2)
  have HGF := Lib.hid (Nat.le_trans HSZ.out hb.size)
  clear hb ho HA hk2 HX HY HB HO HSZ HQ HKN c0 c1 c2 c3 c4 c5
  go_upto_region 3 with (fail)
  generalize w2.heap.size = GF at *
  generalize w2.alloc _ = w3 at *
  obtain ⟨c0, c1, c2, c3, c4, c5⟩ := cells6 X3.out
  obtain ⟨d0, d1, d2⟩ := cells3 F3.out
  go_wp2_with fail
  with_reducible refine (HL.out _).mono ?_
  rintro e w4 ⟨rfl, hb⟩
  have HA := al_any w4 (.cells #[.int .i64 lt, .int .u64 (lb : Int)] 27)
  have S5 := Lib.hid (heap_alloc_new w4 (.cells #[.int .i64 lt, .int .u64 (lb : Int)] 27))
  have hk2 := kept_trans hb HA
  have X5 := Lib.hid (blk X3.out hk2)
  have Y5 := Lib.hid (blk Y3.out hk2)
  have F5 := Lib.hid (blk F3.out hk2)
  have K5 := kept_hid K3 hk2
  have O5 := Lib.hid (own_below O3.out hk2)
  have Q5 := Lib.hid (own_below Q3.out hk2)
  have HGS := Lib.hid (Nat.le_trans (Nat.le_of_lt (there_lt F3.out)) hb.size)
  clear hb HA hk2 X3 Y3 F3 K3 O3 Q3 HL c0 c1 c2 c3 c4 c5 d0 d1 d2
  go_upto_region 6 with (fail)
  generalize w4.heap.size = GS at *
  generalize w4.alloc _ = w5 at *
  obtain ⟨c0, c1, c2, c3, c4, c5⟩ := cells6 X5.out
  obtain ⟨g0, g1, g2, g3, g4, g5⟩ := free6 X5.out
  obtain ⟨e0, e1⟩ := Win.cells2 S5.out
  obtain ⟨d0, d1, d2⟩ := cells3 F5.out
  go_upto_region 9 with (fail)
  have s1 := heap_setCell_same _ w.heap.size 2 _ 31 (.int .i64 lt) X5.out
  have s2 := heap_setCell_same _ w.heap.size 3 _ 31 (.int .u64 (lb : Int)) s1
  have GR : w5.grownBy ((w5.setCell ⟨w.heap.size, 2, none⟩ (.int .i64 lt)).setCell ⟨w.heap.size, 3, none⟩ (.int .u64 (lb : Int))) (some w.heap.size) := gtrans (gsetCell _ _ _ _) (gsetCell _ _ _ _)
  have X6 : Hid (((w5.setCell ⟨w.heap.size, 2, none⟩ (.int .i64 lt)).setCell ⟨w.heap.size, 3, none⟩ (.int .u64 (lb : Int))).heap[w.heap.size]? = some (.cells #[.slice ja k.length jc, .int .i64 d, .int .i64 lt, .int .u64 (lb : Int), .string pa, .int .i64 pq] 31 (0, 0))) := Lib.hid s2
  have Y6 := Lib.hid ((GR.block _ (there_lt Y5.out) (by intro h; injection h with h; omega)).trans Y5.out)
  have F6 := Lib.hid ((GR.block _ (there_lt F5.out) (by intro h; injection h with h; have := HGF.out; omega)).trans F5.out)
  have K6 := Lib.hid (K5.out.grown GR K5.out.size (by intro g hg; injection hg with hg; omega))
  have O6 := Lib.hid (own_other O5.out GR (by omega))
  have Q6 := Lib.hid (own_other Q5.out GR (by omega))
  clear s1 s2 GR X5 Y5 F5 K5 O5 Q5 g0 g1 g2 g3 g4 g5 e0 e1 d0 d1 d2 c0 c1 c2 c3 c4 c5
  generalize (w5.setCell _ _).setCell _ _ = w6 at *
  obtain ⟨c0, c1, c2, c3, c4, c5⟩ := cells6 X6.out
  obtain ⟨d0, d1, d2⟩ := cells3 F6.out
  by_cases hup : pq < fq
  · have HUP := Lib.hid (show (if pq < fq then src else pa) = src ∧ (if pq < fq then fq else pq) = fq from ⟨if_pos hup, if_pos hup⟩)
    obtain ⟨g0, g1, g2, g3, g4, g5⟩ := free6 X6.out
    go_upto_region 11 with (fail)
    have s1 := heap_setCell_same _ w.heap.size 4 _ 31 (.string src) X6.out
    have s2 := heap_setCell_same _ w.heap.size 5 _ 31 (.int .i64 fq) s1
    have GR : w6.grownBy ((w6.setCell ⟨w.heap.size, 4, none⟩ (.string src)).setCell ⟨w.heap.size, 5, none⟩ (.int .i64 fq)) (some w.heap.size) := gtrans (gsetCell _ _ _ _) (gsetCell _ _ _ _)
    have X7 : Hid (((w6.setCell ⟨w.heap.size, 4, none⟩ (.string src)).setCell ⟨w.heap.size, 5, none⟩ (.int .i64 fq)).heap[w.heap.size]? = some (.cells #[.slice ja k.length jc, .int .i64 d, .int .i64 lt, .int .u64 (lb : Int), .string src, .int .i64 fq] 31 (0, 0))) := Lib.hid s2
    have Y7 := Lib.hid ((GR.block _ (there_lt Y6.out) (by intro h; injection h with h; omega)).trans Y6.out)
    have F7 := Lib.hid ((GR.block _ (there_lt F6.out) (by intro h; injection h with h; have := HGF.out; omega)).trans F6.out)
    have K7 := Lib.hid (K6.out.grown GR K6.out.size (by intro g hg; injection hg with hg; omega))
    have O7 := Lib.hid (own_other O6.out GR (by omega))
    have Q7 := Lib.hid (own_other Q6.out GR (by omega))
    clear s1 s2 GR X6 Y6 F6 K6 O6 Q6 g0 g1 g2 g3 g4 g5 d0 d1 d2 c0 c1 c2 c3 c4 c5
    generalize (w6.setCell _ _).setCell _ _ = w7 at *
    obtain ⟨c0, c1, c2, c3, c4, c5⟩ := cells6 X7.out
    obtain ⟨d0, d1, d2⟩ := cells3 F7.out
    obtain ⟨y0, y1, y2, y3, y4, y5⟩ := cells6 Y7.out
    obtain ⟨f0, f1, f2, f3, f4, f5⟩ := free6 Y7.out
    have hn1 : ¬ (GF = w.heap.size + 1) := by have := HGF.out; omega
    have hn2 : ¬ (w.heap.size + 1 = GF) := by have := HGF.out; omega
    go_region
    have SF := Lib.hid (over6 w7 (w.heap.size + 1) 31 _ _ _ _ _ _ (.slice ja k.length jc) (.int .i64 d) (.int .i64 lt) (.int .u64 (lb : Int)) (.string src) (.int .i64 fq) Y7.out)
    have KZ := Lib.hid ((K7.out.grown SF.out.2 K7.out.size (by intro g hg; injection hg with hg; omega)).drew)
    have SZ := Lib.hid SF.out.1
    have OZ := Lib.hid (own_other O7.out SF.out.2 (Nat.lt_succ_self _))
    have QZ := Lib.hid (own_other Q7.out SF.out.2 (Nat.lt_succ_self _))
    clear SF y0 y1 y2 y3 y4 y5 f0 f1 f2 f3 f4 f5 c0 c1 c2 c3 c4 c5 d0 d1 d2
    generalize ((((((w7.setCell _ _).setCell _ _).setCell _ _).setCell _ _).setCell _ _).setCell _ _) = w8 at *
    have SZ2 : w8.drew.heap[w.heap.size + 1]? = _ := SZ.out
    have OZ2 := Lib.hid (own_below OZ.out (Below.refl w8.heap.size w8).drew)
    have QZ2 := Lib.hid (own_below QZ.out (Below.refl w8.heap.size w8).drew)
    go_wp2_with fail
    exact bodyPost_ret (v := .tuple #[.agg #[.slice ja k.length jc, .int .i64 d, .int .i64 lt, .int .u64 (lb : Int), .string src, .int .i64 fq], .slice va fb.length vc, .nilIface]) (results_cell_2 rfl _ _ _ (w.heap.size + 1) _ rfl (run_loadVar_row _ (w.heap.size + 1) 31 31 _ (0, 0) _ SZ2 Tryd.underlying31 rfl (by kernel_rfl)) (.slice va fb.length vc) (.nilIface) rfl rfl) rfl ⟨ja, jc, va, vc, by first | rfl | (simp only; rw [HUP.out.1, HUP.out.2]; rfl), byts_own QZ2.out HSM.out, own_mono OZ2.out (by omega), KZ.out⟩
  · have HUP := Lib.hid (show (if pq < fq then src else pa) = pa ∧ (if pq < fq then fq else pq) = pq from ⟨if_neg hup, if_neg hup⟩)
    obtain ⟨y0, y1, y2, y3, y4, y5⟩ := cells6 Y6.out
    obtain ⟨f0, f1, f2, f3, f4, f5⟩ := free6 Y6.out
    have hn1 : ¬ (GF = w.heap.size + 1) := by have := HGF.out; omega
    have hn2 : ¬ (w.heap.size + 1 = GF) := by have := HGF.out; omega
    go_upto_region 11 with (fail)
    go_region
    have SF := Lib.hid (over6 w6 (w.heap.size + 1) 31 _ _ _ _ _ _ (.slice ja k.length jc) (.int .i64 d) (.int .i64 lt) (.int .u64 (lb : Int)) (.string pa) (.int .i64 pq) Y6.out)
    have KZ := Lib.hid ((K6.out.grown SF.out.2 K6.out.size (by intro g hg; injection hg with hg; omega)).drew)
    have SZ := Lib.hid SF.out.1
    have OZ := Lib.hid (own_other O6.out SF.out.2 (Nat.lt_succ_self _))
    have QZ := Lib.hid (own_other Q6.out SF.out.2 (Nat.lt_succ_self _))
    clear SF y0 y1 y2 y3 y4 y5 f0 f1 f2 f3 f4 f5 c0 c1 c2 c3 c4 c5 d0 d1 d2
    generalize ((((((w6.setCell _ _).setCell _ _).setCell _ _).setCell _ _).setCell _ _).setCell _ _) = w8 at *
    have SZ2 : w8.drew.heap[w.heap.size + 1]? = _ := SZ.out
    have OZ2 := Lib.hid (own_below OZ.out (Below.refl w8.heap.size w8).drew)
    have QZ2 := Lib.hid (own_below QZ.out (Below.refl w8.heap.size w8).drew)
    go_wp2_with fail
    exact bodyPost_ret (v := .tuple #[.agg #[.slice ja k.length jc, .int .i64 d, .int .i64 lt, .int .u64 (lb : Int), .string pa, .int .i64 pq], .slice va fb.length vc, .nilIface]) (results_cell_2 rfl _ _ _ (w.heap.size + 1) _ rfl (run_loadVar_row _ (w.heap.size + 1) 31 31 _ (0, 0) _ SZ2 Tryd.underlying31 rfl (by kernel_rfl)) (.slice va fb.length vc) (.nilIface) rfl rfl) rfl ⟨ja, jc, va, vc, by first | rfl | (simp only; rw [HUP.out.1, HUP.out.2]; rfl), byts_own QZ2.out HSM.out, own_mono OZ2.out (by omega), KZ.out⟩
theorem come_any (g : G) (src : ByteArray) (bs : List Nat) (ka : Option Addr) (kc : Nat) (ba : Option Addr) (bc : Nat) (w : World) (hk : Byts w ka kc g.k) (hb : Byts w ba bc bs) (hkl : g.k.length < 1000000) (hbl : bs.length < 1000000) (hr : Win.right g.s = true) (hf : Win.Fit g.s) (hd : IntKind.i64.wrap g.d = g.d) :
    Calls Tryd.prog 8 #[.agg #[.slice ka g.k.length kc, .int .i64 g.d, .int .i64 g.s.top, .int .u64 (g.s.bits : Int), .string g.pa, .int .i64 g.pq], .string src, .slice ba bs.length bc] w fun e w' => GaveR w w' (come g src bs).1 (come g src bs).2.1 (come g src bs).2.2 e := by
  unfold come
  by_cases h : (open_ g.k g.d bs).2 = 0
  · rw [if_neg (by simp [h])]
    by_cases h2 : (Win.lets g.s (open_ g.k g.d bs).1.q).2 = 0
    · rw [if_neg (by simp [h2])]
      exact come_new g src bs ka kc ba bc w hk hb hkl hbl hr hf hd h h2
    · rw [if_pos h2]
      exact come_old g src bs ka kc ba bc w hk hb hkl hbl hr hf hd h h2
  · rw [if_pos h]
    exact come_bad g src bs ka kc ba bc w hk hb hkl hbl hr hf hd h
end Rom
end Go.Proofs.YtoiidedigbfnaaaDoor
