/- OrdRget, OrdRtxt, OrdRgot in one text (by tools/bundle.py). -/
import Derived.Test.YtmllmmamdkjndaaGreatDoorBunPlain
import Derived.Test.YtmllmmamdkjndaaGreatDoorBunRlg
import Derived.Test.YtmllmmamdkjndaaGreatDoorBunRlp
import Derived.Test.YtmllmmamdkjndaaGreatDoorBunBase
import Derived.Test.YtmllmmamdkjndaaGreatDoorBunByt
import Derived.Deep.LoopGhost
import Derived.Deep.Cut
import Derived.Test.YtmllmmamdkjndaaGreatDoorBunOrd
/- The document's Get of orders, way by way. Written by tools/gen_ord_rget.py. -/
namespace Go.Proofs.YtmllmmamdkjndaaGreatDoor
open Go.RowKit Sha Cut Err Six Att Apd
namespace Ord
theorem results_cell_3 {fn : Func} {p u1 u2 u3 : Tmp} {ty : TypeId} (h : fn.results = #[.cell p ty, .tmp u1, .tmp u2, .tmp u3]) (tmps : Array Value) (P : Program) (w : World) (g : Nat) (cs : Array Value)
    (hp : tmps.getD p undef = .pointer (some ⟨g, 0, none⟩)) (hl : (loadVar ty ⟨g, 0, none⟩).run P w = .ok (.agg cs) w) (x1 x2 x3 : Value) (h1 : tmps.getD u1 undef = x1) (h2 : tmps.getD u2 undef = x2) (h3 : tmps.getD u3 undef = x3) :
    (results fn tmps).run P w = .ok (.tuple #[.agg cs, x1, x2, x3]) w := by
  subst h1 h2 h3
  have hp' : tmps[p]?.getD undef = .pointer (some ⟨g, 0, none⟩) := by simpa using hp
  simp only [results, h]
  simp [hp', asAddr, hl]
theorem over8e {w a : World} {B : Nat} {t : TypeId} {a0 a1 a2 a3 a4 a5 a6 a7 : Value} (u0 u1 u2 u3 u4 u5 u6 u7 : Value) (h : a.heap[B]? = some (.cells #[a0, a1, a2, a3, a4, a5, a6, a7] t (0, 0))) (hk : Below w.heap.size w a) (hB : w.heap.size ≤ B) :
    ∃ b, b = ((((((((a.setCell ⟨B, 0, none⟩ u0).setCell ⟨B, 1, none⟩ u1).setCell ⟨B, 2, none⟩ u2).setCell ⟨B, 3, none⟩ u3).setCell ⟨B, 4, none⟩ u4).setCell ⟨B, 5, none⟩ u5).setCell ⟨B, 6, none⟩ u6).setCell ⟨B, 7, none⟩ u7) ∧
    b.heap[B]? = some (.cells #[u0, u1, u2, u3, u4, u5, u6, u7] t (0, 0)) ∧ Below w.heap.size w b ∧ a.grownBy b (some B) := by
  obtain ⟨k, hg⟩ := over8 a B t _ _ _ _ _ _ _ _ u0 u1 u2 u3 u4 u5 u6 u7 h
  exact ⟨_, rfl, k, hk.grown hg hk.size (by intro j hj; injection hj with hj; omega), hg⟩
theorem cell_in {w : World} {ad : Option Addr} {cap k : Nat} {xs : List Nat} (h : BytesIn w (.slice ad xs.length cap) xs) (hk : k < xs.length) : ∃ g o, ad = some ⟨g, o, none⟩ ∧ ∀ j, j < xs.length → w.cell? ⟨g, o + j, none⟩ = some (.int .u8 ((xs.getD j 0 : Nat) : Int)) := by
  obtain ⟨ad', c, hv, _, hc⟩ := h
  injection hv with e1 _ _
  subst e1
  rcases hc with h0 | ⟨g, o, he, hc⟩
  · rw [h0] at hk; simp at hk
  · exact ⟨g, o, he, hc⟩
set_option maxRecDepth 100000 in
set_option maxHeartbeats 4000000 in
theorem rg_none {xs : List Nat} (ad : Option Addr) (cap at_ z : Nat) (w : World) (_hB : BytesIn w (.slice ad xs.length cap) xs) (_hl : xs.length < 1000000) (hat : at_ = xs.length) :
    Calls Tryz.prog 20 #[.slice ad xs.length cap, .int .i64 (at_ : Int), .int .i64 (z : Int)] w fun e w' => e = .returned (.tuple #[.agg #[.int .i64 0, .slice none 0 0, .bool false, .bool false, .int .i64 0, .bool false, .int .i64 0, .int .u8 0], .int .i64 ((at_ : Int)), .int .i64 (2), .int .i64 ((at_ : Int))]) ∧ Below w.heap.size w w' := by
  subst hat
  have HA := Lib.hid (al_any w (.cells #[.int .i64 0, .slice none 0 0, .bool false, .bool false, .int .i64 0, .bool false, .int .i64 0, .int .u8 0] 56))
  have HG := Lib.hid (heap_alloc_new w (.cells #[.int .i64 0, .slice none 0 0, .bool false, .bool false, .int .i64 0, .bool false, .int .i64 0, .int .u8 0] 56))
  go_enter Tryz.func20, Tryz.ntmps20
  go_upto_region 1 with (fail)
  generalize w.alloc (.cells #[.int .i64 0, .slice none 0 0, .bool false, .bool false, .int .i64 0, .bool false, .int .i64 0, .int .u8 0] 56) = w1 at HA HG ⊢
  obtain ⟨d0, d1, d2, d3, d4, d5, d6, d7⟩ := cells8 HG.out
  obtain ⟨f0, f1, f2, f3, f4, f5, f6, f7⟩ := free8 HG.out
  have SF := Lib.hid (over8e (.int .i64 0) (.slice none 0 0) (.bool false) (.bool false) (.int .i64 0) (.bool false) (.int .i64 0) (.int .u8 0) HG.out HA.out (Nat.le_refl _))
  go_wp2_with fail
  clear d0 d1 d2 d3 d4 d5 d6 d7 f0 f1 f2 f3 f4 f5 f6 f7
  obtain ⟨wz, hz, s1, s2, s3⟩ := SF.out
  rw [← hz]
  clear hz SF
  have S1 := Lib.hid s1
  clear s1
  refine bodyPost_ret (v := .tuple #[.agg #[.int .i64 0, .slice none 0 0, .bool false, .bool false, .int .i64 0, .bool false, .int .i64 0, .int .u8 0], .int .i64 ((xs.length : Int)), .int .i64 (2), .int .i64 ((xs.length : Int))]) (results_cell_3 rfl _ _ _ w.heap.size _ rfl (run_loadVar_row wz w.heap.size 56 56 _ (0, 0) _ S1.out Tryz.underlying56 rfl (by kernel_rfl)) (.int .i64 ((xs.length : Int))) (.int .i64 (2)) (.int .i64 ((xs.length : Int))) rfl rfl rfl) rfl ?_
  exact ⟨rfl, s2⟩
set_option maxRecDepth 100000 in
set_option maxHeartbeats 4000000 in
theorem rg_strange {xs : List Nat} (ad : Option Addr) (cap at_ z : Nat) (w : World) (hB : BytesIn w (.slice ad xs.length cap) xs) (hl : xs.length < 1000000) (hat : at_ < xs.length) (b : Nat) (hb : xs.getD at_ 0 = b) (hb8 : b < 256) (hch : char b = false) (h1 : b ≠ 19) (h2 : b ≠ 5) (h3 : b ≠ 29) (h4 : b ≠ 17) (h5 : b ≠ 18) (h6 : b ≠ 60) :
    Calls Tryz.prog 20 #[.slice ad xs.length cap, .int .i64 (at_ : Int), .int .i64 (z : Int)] w fun e w' => e = .returned (.tuple #[.agg #[.int .i64 0, .slice none 0 0, .bool false, .bool false, .int .i64 0, .bool false, .int .i64 0, .int .u8 0], .int .i64 ((at_ : Int)), .int .i64 (5), .int .i64 ((at_ : Int))]) ∧ Below w.heap.size w w' := by
  obtain ⟨g, o, rfl, hc⟩ := cell_in hB hat
  have CB := hc at_ hat
  rw [hb] at CB
  have CB := Lib.hid CB
  have HCC := Lib.hid hc
  have HB := Lib.hid hB
  have HCH := Lib.hid fun W => rchar_any b W (by omega)
  have hq0 : ((at_ : Int) == (xs.length : Int)) = false := by simp; omega
  have hq1 : (at_ : Int) < (xs.length : Int) := by omega
  have hq2 : (0 : Int) ≤ (at_ : Int) := by omega
  have hq3 : (xs.length : Int) < 1000000 := by omega
  rw [hch] at HCH
  have e19 : ((b : Int) == 19) = false := by simp; omega
  have e5 : ((b : Int) == 5) = false := by simp; omega
  have e29 : ((b : Int) == 29) = false := by simp; omega
  have e17 : ((b : Int) != 17) = true := by simp; omega
  have e18 : ((b : Int) != 18) = true := by simp; omega
  have e60 : ((b : Int) != 60) = true := by simp; omega
  clear hc hB hb hch h1 h2 h3 h4 h5 h6
  have HA := Lib.hid (al_any w (.cells #[.int .i64 0, .slice none 0 0, .bool false, .bool false, .int .i64 0, .bool false, .int .i64 0, .int .u8 0] 56))
  have HG := Lib.hid (heap_alloc_new w (.cells #[.int .i64 0, .slice none 0 0, .bool false, .bool false, .int .i64 0, .bool false, .int .i64 0, .int .u8 0] 56))
  go_enter Tryz.func20, Tryz.ntmps20
  go_upto_region 1 with (fail)
  generalize w.alloc (.cells #[.int .i64 0, .slice none 0 0, .bool false, .bool false, .int .i64 0, .bool false, .int .i64 0, .int .u8 0] 56) = w1 at HA HG ⊢
  have c0 := (HA.out.cell (p := ⟨g, o + at_, none⟩) (block_lt CB.out)).trans CB.out
  obtain ⟨d0, d1, d2, d3, d4, d5, d6, d7⟩ := cells8 HG.out
  obtain ⟨f0, f1, f2, f3, f4, f5, f6, f7⟩ := free8 HG.out
  go_wp2_with fail
  refine wp_loop_rounds 1 ?_
  rw [rounds_succ]
  go_wp2_with fail
  with_reducible refine (HCH.out _).mono ?_
  rintro e w' ⟨rfl, rfl⟩
  have SF := Lib.hid (over8e (.int .i64 0) (.slice none 0 0) (.bool false) (.bool false) (.int .i64 0) (.bool false) (.int .i64 0) (.int .u8 0) HG.out HA.out (Nat.le_refl _))
  go_wp2_with fail
  clear d0 d1 d2 d3 d4 d5 d6 d7 f0 f1 f2 f3 f4 f5 f6 f7
  obtain ⟨wz, hz, s1, s2, s3⟩ := SF.out
  rw [← hz]
  clear hz SF
  have S1 := Lib.hid s1
  clear s1
  refine bodyPost_ret (v := .tuple #[.agg #[.int .i64 0, .slice none 0 0, .bool false, .bool false, .int .i64 0, .bool false, .int .i64 0, .int .u8 0], .int .i64 ((at_ : Int)), .int .i64 (5), .int .i64 ((at_ : Int))]) (results_cell_3 rfl _ _ _ w.heap.size _ rfl (run_loadVar_row wz w.heap.size 56 56 _ (0, 0) _ S1.out Tryz.underlying56 rfl (by kernel_rfl)) (.int .i64 ((at_ : Int))) (.int .i64 (5)) (.int .i64 ((at_ : Int))) rfl rfl rfl) rfl ?_
  exact ⟨rfl, s2⟩
set_option maxRecDepth 100000 in
set_option maxHeartbeats 4000000 in
theorem rg_4 {xs : List Nat} (ad : Option Addr) (cap at_ z : Nat) (w : World) (hB : BytesIn w (.slice ad xs.length cap) xs) (hl : xs.length < 1000000) (hat : at_ < xs.length) (hb : xs.getD at_ 0 = 19) :
    Calls Tryz.prog 20 #[.slice ad xs.length cap, .int .i64 (at_ : Int), .int .i64 (z : Int)] w fun e w' => e = .returned (.tuple #[.agg #[.int .i64 4, .slice none 0 0, .bool false, .bool false, .int .i64 0, .bool false, .int .i64 0, .int .u8 0], .int .i64 ((at_ : Int) + 1), .int .i64 (0), .int .i64 (-1)]) ∧ Below w.heap.size w w' := by
  obtain ⟨g, o, rfl, hc⟩ := cell_in hB hat
  have CB := hc at_ hat
  rw [hb] at CB
  have CB := Lib.hid CB
  have HCC := Lib.hid hc
  have HB := Lib.hid hB
  have HCH := Lib.hid fun W => rchar_any 19 W (by decide)
  have hq0 : ((at_ : Int) == (xs.length : Int)) = false := by simp; omega
  have hq1 : (at_ : Int) < (xs.length : Int) := by omega
  have hq2 : (0 : Int) ≤ (at_ : Int) := by omega
  have hq3 : (xs.length : Int) < 1000000 := by omega
  simp only [show char 19 = false by decide, show ((19 : Nat) : Int) = 19 from rfl] at HCH CB
  clear hc hB hb
  have HA := Lib.hid (al_any w (.cells #[.int .i64 0, .slice none 0 0, .bool false, .bool false, .int .i64 0, .bool false, .int .i64 0, .int .u8 0] 56))
  have HG := Lib.hid (heap_alloc_new w (.cells #[.int .i64 0, .slice none 0 0, .bool false, .bool false, .int .i64 0, .bool false, .int .i64 0, .int .u8 0] 56))
  go_enter Tryz.func20, Tryz.ntmps20
  go_upto_region 1 with (fail)
  generalize w.alloc (.cells #[.int .i64 0, .slice none 0 0, .bool false, .bool false, .int .i64 0, .bool false, .int .i64 0, .int .u8 0] 56) = w1 at HA HG ⊢
  have c0 := (HA.out.cell (p := ⟨g, o + at_, none⟩) (block_lt CB.out)).trans CB.out
  obtain ⟨d0, d1, d2, d3, d4, d5, d6, d7⟩ := cells8 HG.out
  obtain ⟨f0, f1, f2, f3, f4, f5, f6, f7⟩ := free8 HG.out
  go_wp2_with fail
  refine wp_loop_rounds 1 ?_
  rw [rounds_succ]
  go_wp2_with fail
  with_reducible refine (HCH.out _).mono ?_
  rintro e w' ⟨rfl, rfl⟩
  have SF := Lib.hid (over8e (.int .i64 4) (.slice none 0 0) (.bool false) (.bool false) (.int .i64 0) (.bool false) (.int .i64 0) (.int .u8 0) HG.out HA.out (Nat.le_refl _))
  go_wp2_with fail
  clear d0 d1 d2 d3 d4 d5 d6 d7 f0 f1 f2 f3 f4 f5 f6 f7
  obtain ⟨wz, hz, s1, s2, s3⟩ := SF.out
  rw [← hz]
  clear hz SF
  have S1 := Lib.hid s1
  clear s1
  refine bodyPost_ret (v := .tuple #[.agg #[.int .i64 4, .slice none 0 0, .bool false, .bool false, .int .i64 0, .bool false, .int .i64 0, .int .u8 0], .int .i64 ((at_ : Int) + 1), .int .i64 (0), .int .i64 (-1)]) (results_cell_3 rfl _ _ _ w.heap.size _ rfl (run_loadVar_row wz w.heap.size 56 56 _ (0, 0) _ S1.out Tryz.underlying56 rfl (by kernel_rfl)) (.int .i64 ((at_ : Int) + 1)) (.int .i64 (0)) (.int .i64 (-1)) rfl rfl rfl) rfl ?_
  exact ⟨rfl, s2⟩
set_option maxRecDepth 100000 in
set_option maxHeartbeats 4000000 in
theorem rg_5 {xs : List Nat} (ad : Option Addr) (cap at_ z : Nat) (w : World) (hB : BytesIn w (.slice ad xs.length cap) xs) (hl : xs.length < 1000000) (hat : at_ < xs.length) (hb : xs.getD at_ 0 = 5) :
    Calls Tryz.prog 20 #[.slice ad xs.length cap, .int .i64 (at_ : Int), .int .i64 (z : Int)] w fun e w' => e = .returned (.tuple #[.agg #[.int .i64 5, .slice none 0 0, .bool false, .bool false, .int .i64 0, .bool false, .int .i64 0, .int .u8 0], .int .i64 ((at_ : Int) + 1), .int .i64 (0), .int .i64 (-1)]) ∧ Below w.heap.size w w' := by
  obtain ⟨g, o, rfl, hc⟩ := cell_in hB hat
  have CB := hc at_ hat
  rw [hb] at CB
  have CB := Lib.hid CB
  have HCC := Lib.hid hc
  have HB := Lib.hid hB
  have HCH := Lib.hid fun W => rchar_any 5 W (by decide)
  have hq0 : ((at_ : Int) == (xs.length : Int)) = false := by simp; omega
  have hq1 : (at_ : Int) < (xs.length : Int) := by omega
  have hq2 : (0 : Int) ≤ (at_ : Int) := by omega
  have hq3 : (xs.length : Int) < 1000000 := by omega
  simp only [show char 5 = false by decide, show ((5 : Nat) : Int) = 5 from rfl] at HCH CB
  clear hc hB hb
  have HA := Lib.hid (al_any w (.cells #[.int .i64 0, .slice none 0 0, .bool false, .bool false, .int .i64 0, .bool false, .int .i64 0, .int .u8 0] 56))
  have HG := Lib.hid (heap_alloc_new w (.cells #[.int .i64 0, .slice none 0 0, .bool false, .bool false, .int .i64 0, .bool false, .int .i64 0, .int .u8 0] 56))
  go_enter Tryz.func20, Tryz.ntmps20
  go_upto_region 1 with (fail)
  generalize w.alloc (.cells #[.int .i64 0, .slice none 0 0, .bool false, .bool false, .int .i64 0, .bool false, .int .i64 0, .int .u8 0] 56) = w1 at HA HG ⊢
  have c0 := (HA.out.cell (p := ⟨g, o + at_, none⟩) (block_lt CB.out)).trans CB.out
  obtain ⟨d0, d1, d2, d3, d4, d5, d6, d7⟩ := cells8 HG.out
  obtain ⟨f0, f1, f2, f3, f4, f5, f6, f7⟩ := free8 HG.out
  go_wp2_with fail
  refine wp_loop_rounds 1 ?_
  rw [rounds_succ]
  go_wp2_with fail
  with_reducible refine (HCH.out _).mono ?_
  rintro e w' ⟨rfl, rfl⟩
  have SF := Lib.hid (over8e (.int .i64 5) (.slice none 0 0) (.bool false) (.bool false) (.int .i64 0) (.bool false) (.int .i64 0) (.int .u8 0) HG.out HA.out (Nat.le_refl _))
  go_wp2_with fail
  clear d0 d1 d2 d3 d4 d5 d6 d7 f0 f1 f2 f3 f4 f5 f6 f7
  obtain ⟨wz, hz, s1, s2, s3⟩ := SF.out
  rw [← hz]
  clear hz SF
  have S1 := Lib.hid s1
  clear s1
  refine bodyPost_ret (v := .tuple #[.agg #[.int .i64 5, .slice none 0 0, .bool false, .bool false, .int .i64 0, .bool false, .int .i64 0, .int .u8 0], .int .i64 ((at_ : Int) + 1), .int .i64 (0), .int .i64 (-1)]) (results_cell_3 rfl _ _ _ w.heap.size _ rfl (run_loadVar_row wz w.heap.size 56 56 _ (0, 0) _ S1.out Tryz.underlying56 rfl (by kernel_rfl)) (.int .i64 ((at_ : Int) + 1)) (.int .i64 (0)) (.int .i64 (-1)) rfl rfl rfl) rfl ?_
  exact ⟨rfl, s2⟩
set_option maxRecDepth 100000 in
set_option maxHeartbeats 4000000 in
theorem rg_2_none {xs : List Nat} (ad : Option Addr) (cap at_ z : Nat) (w : World) (hB : BytesIn w (.slice ad xs.length cap) xs) (hl : xs.length < 1000000) (hat : at_ < xs.length) (hb : xs.getD at_ 0 = 29) (h2 : at_ + 1 = xs.length) :
    Calls Tryz.prog 20 #[.slice ad xs.length cap, .int .i64 (at_ : Int), .int .i64 (z : Int)] w fun e w' => e = .returned (.tuple #[.agg #[.int .i64 0, .slice none 0 0, .bool false, .bool false, .int .i64 0, .bool false, .int .i64 0, .int .u8 0], .int .i64 ((at_ : Int) + 1), .int .i64 (2), .int .i64 ((at_ : Int) + 1)]) ∧ Below w.heap.size w w' := by
  obtain ⟨g, o, rfl, hc⟩ := cell_in hB hat
  have CB := hc at_ hat
  rw [hb] at CB
  have CB := Lib.hid CB
  have HCC := Lib.hid hc
  have HB := Lib.hid hB
  have HCH := Lib.hid fun W => rchar_any 29 W (by decide)
  have hq0 : ((at_ : Int) == (xs.length : Int)) = false := by simp; omega
  have hq1 : (at_ : Int) < (xs.length : Int) := by omega
  have hq2 : (0 : Int) ≤ (at_ : Int) := by omega
  have hq3 : (xs.length : Int) < 1000000 := by omega
  simp only [show char 29 = false by decide, show ((29 : Nat) : Int) = 29 from rfl] at HCH CB
  have hq4 : ((at_ : Int) + 1 == (xs.length : Int)) = true := by simp; omega
  clear hc hB hb
  have HA := Lib.hid (al_any w (.cells #[.int .i64 0, .slice none 0 0, .bool false, .bool false, .int .i64 0, .bool false, .int .i64 0, .int .u8 0] 56))
  have HG := Lib.hid (heap_alloc_new w (.cells #[.int .i64 0, .slice none 0 0, .bool false, .bool false, .int .i64 0, .bool false, .int .i64 0, .int .u8 0] 56))
  go_enter Tryz.func20, Tryz.ntmps20
  go_upto_region 1 with (fail)
  generalize w.alloc (.cells #[.int .i64 0, .slice none 0 0, .bool false, .bool false, .int .i64 0, .bool false, .int .i64 0, .int .u8 0] 56) = w1 at HA HG ⊢
  have c0 := (HA.out.cell (p := ⟨g, o + at_, none⟩) (block_lt CB.out)).trans CB.out
  obtain ⟨d0, d1, d2, d3, d4, d5, d6, d7⟩ := cells8 HG.out
  obtain ⟨f0, f1, f2, f3, f4, f5, f6, f7⟩ := free8 HG.out
  go_wp2_with fail
  refine wp_loop_rounds 1 ?_
  rw [rounds_succ]
  go_wp2_with fail
  with_reducible refine (HCH.out _).mono ?_
  rintro e w' ⟨rfl, rfl⟩
  have SF := Lib.hid (over8e (.int .i64 0) (.slice none 0 0) (.bool false) (.bool false) (.int .i64 0) (.bool false) (.int .i64 0) (.int .u8 0) HG.out HA.out (Nat.le_refl _))
  go_wp2_with fail
  clear d0 d1 d2 d3 d4 d5 d6 d7 f0 f1 f2 f3 f4 f5 f6 f7
  obtain ⟨wz, hz, s1, s2, s3⟩ := SF.out
  rw [← hz]
  clear hz SF
  have S1 := Lib.hid s1
  clear s1
  refine bodyPost_ret (v := .tuple #[.agg #[.int .i64 0, .slice none 0 0, .bool false, .bool false, .int .i64 0, .bool false, .int .i64 0, .int .u8 0], .int .i64 ((at_ : Int) + 1), .int .i64 (2), .int .i64 ((at_ : Int) + 1)]) (results_cell_3 rfl _ _ _ w.heap.size _ rfl (run_loadVar_row wz w.heap.size 56 56 _ (0, 0) _ S1.out Tryz.underlying56 rfl (by kernel_rfl)) (.int .i64 ((at_ : Int) + 1)) (.int .i64 (2)) (.int .i64 ((at_ : Int) + 1)) rfl rfl rfl) rfl ?_
  exact ⟨rfl, s2⟩
set_option maxRecDepth 100000 in
set_option maxHeartbeats 4000000 in
theorem rg_2_bad {xs : List Nat} (ad : Option Addr) (cap at_ z : Nat) (w : World) (hB : BytesIn w (.slice ad xs.length cap) xs) (hl : xs.length < 1000000) (hat : at_ < xs.length) (hb : xs.getD at_ 0 = 29) (h2 : at_ + 1 < xs.length) (x : Nat) (hx : xs.getD (at_ + 1) 0 = x) (hx8 : x < 256) (hna : noAttr x = true) :
    Calls Tryz.prog 20 #[.slice ad xs.length cap, .int .i64 (at_ : Int), .int .i64 (z : Int)] w fun e w' => e = .returned (.tuple #[.agg #[.int .i64 0, .slice none 0 0, .bool false, .bool false, .int .i64 0, .bool false, .int .i64 0, .int .u8 0], .int .i64 ((at_ : Int) + 1), .int .i64 (3), .int .i64 ((at_ : Int) + 1)]) ∧ Below w.heap.size w w' := by
  obtain ⟨g, o, rfl, hc⟩ := cell_in hB hat
  have CB := hc at_ hat
  rw [hb] at CB
  have CB := Lib.hid CB
  have HCC := Lib.hid hc
  have HB := Lib.hid hB
  have HCH := Lib.hid fun W => rchar_any 29 W (by decide)
  have hq0 : ((at_ : Int) == (xs.length : Int)) = false := by simp; omega
  have hq1 : (at_ : Int) < (xs.length : Int) := by omega
  have hq2 : (0 : Int) ≤ (at_ : Int) := by omega
  have hq3 : (xs.length : Int) < 1000000 := by omega
  simp only [show char 29 = false by decide, show ((29 : Nat) : Int) = 29 from rfl] at HCH CB
  have CX := HCC.out (at_ + 1) h2
  rw [hx] at CX
  have CX := Lib.hid CX
  have hq4 : ((at_ : Int) + 1 == (xs.length : Int)) = false := by simp; omega
  have hq5 : (at_ : Int) + 1 < (xs.length : Int) := by omega
  have HGT := Lib.hid fun W => rget_bad x W hx8 hna
  clear hc hB hb hx hna
  have HA := Lib.hid (al_any w (.cells #[.int .i64 0, .slice none 0 0, .bool false, .bool false, .int .i64 0, .bool false, .int .i64 0, .int .u8 0] 56))
  have HG := Lib.hid (heap_alloc_new w (.cells #[.int .i64 0, .slice none 0 0, .bool false, .bool false, .int .i64 0, .bool false, .int .i64 0, .int .u8 0] 56))
  go_enter Tryz.func20, Tryz.ntmps20
  go_upto_region 1 with (fail)
  generalize w.alloc (.cells #[.int .i64 0, .slice none 0 0, .bool false, .bool false, .int .i64 0, .bool false, .int .i64 0, .int .u8 0] 56) = w1 at HA HG ⊢
  have c0 := (HA.out.cell (p := ⟨g, o + at_, none⟩) (block_lt CB.out)).trans CB.out
  obtain ⟨d0, d1, d2, d3, d4, d5, d6, d7⟩ := cells8 HG.out
  obtain ⟨f0, f1, f2, f3, f4, f5, f6, f7⟩ := free8 HG.out
  have cx := (HA.out.cell (p := ⟨g, o + (at_ + 1), none⟩) (block_lt CX.out)).trans CX.out
  go_wp2_with fail
  refine wp_loop_rounds 1 ?_
  rw [rounds_succ]
  go_wp2_with fail
  with_reducible refine (HCH.out _).mono ?_
  rintro e w' ⟨rfl, rfl⟩
  go_wp2_with fail
  with_reducible refine (HGT.out _).mono ?_
  rintro e w2 ⟨rfl, hb2⟩
  clear cx c0
  clear d0 d1 d2 d3 d4 d5 d6 d7 f0 f1 f2 f3 f4 f5 f6 f7
  have K2 := kept_hid (kept_hid HA hb2) (al_any w2 (.cells #[.bool false, .bool false, .int .i64 0, .bool false] 54))
  have N2 := Lib.hid (blk (blk HG.out hb2) (al_any w2 (.cells #[.bool false, .bool false, .int .i64 0, .bool false] 54)))
  have M2 := Lib.hid (heap_alloc_new w2 (.cells #[.bool false, .bool false, .int .i64 0, .bool false] 54))
  clear hb2 HG HA
  go_upto_region 17 with (fail)
  generalize w2.heap.size = L at *
  generalize w2.alloc (.cells #[.bool false, .bool false, .int .i64 0, .bool false] 54) = w3 at *
  obtain ⟨m0, m1, m2, m3⟩ := cells4 M2.out
  obtain ⟨d0, d1, d2, d3, d4, d5, d6, d7⟩ := cells8 N2.out
  obtain ⟨f0, f1, f2, f3, f4, f5, f6, f7⟩ := free8 N2.out
  have SF := Lib.hid (over8e (.int .i64 0) (.slice none 0 0) (.bool false) (.bool false) (.int .i64 0) (.bool false) (.int .i64 0) (.int .u8 0) N2.out K2.out (Nat.le_refl _))
  go_wp2_with fail
  clear d0 d1 d2 d3 d4 d5 d6 d7 f0 f1 f2 f3 f4 f5 f6 f7
  clear m0 m1 m2 m3
  obtain ⟨wz, hz, s1, s2, s3⟩ := SF.out
  rw [← hz]
  clear hz SF
  have S1 := Lib.hid s1
  clear s1
  refine bodyPost_ret (v := .tuple #[.agg #[.int .i64 0, .slice none 0 0, .bool false, .bool false, .int .i64 0, .bool false, .int .i64 0, .int .u8 0], .int .i64 ((at_ : Int) + 1), .int .i64 (3), .int .i64 ((at_ : Int) + 1)]) (results_cell_3 rfl _ _ _ w.heap.size _ rfl (run_loadVar_row wz w.heap.size 56 56 _ (0, 0) _ S1.out Tryz.underlying56 rfl (by kernel_rfl)) (.int .i64 ((at_ : Int) + 1)) (.int .i64 (3)) (.int .i64 ((at_ : Int) + 1)) rfl rfl rfl) rfl ?_
  exact ⟨rfl, s2⟩
set_option maxRecDepth 100000 in
set_option maxHeartbeats 4000000 in
theorem rg_2 {xs : List Nat} (ad : Option Addr) (cap at_ z : Nat) (w : World) (hB : BytesIn w (.slice ad xs.length cap) xs) (hl : xs.length < 1000000) (hat : at_ < xs.length) (hb : xs.getD at_ 0 = 29) (h2 : at_ + 1 < xs.length) (p n m : Bool) (s : Nat) (hs : s < 4) (hx : xs.getD (at_ + 1) 0 = put (num p n m s)) :
    Calls Tryz.prog 20 #[.slice ad xs.length cap, .int .i64 (at_ : Int), .int .i64 (z : Int)] w fun e w' => e = .returned (.tuple #[.agg #[.int .i64 2, .slice none 0 0, .bool p, .bool n, .int .i64 (s : Int), .bool m, .int .i64 0, .int .u8 0], .int .i64 ((at_ : Int) + 2), .int .i64 (0), .int .i64 (-1)]) ∧ Below w.heap.size w w' := by
  obtain ⟨g, o, rfl, hc⟩ := cell_in hB hat
  have CB := hc at_ hat
  rw [hb] at CB
  have CB := Lib.hid CB
  have HCC := Lib.hid hc
  have HB := Lib.hid hB
  have HCH := Lib.hid fun W => rchar_any 29 W (by decide)
  have hq0 : ((at_ : Int) == (xs.length : Int)) = false := by simp; omega
  have hq1 : (at_ : Int) < (xs.length : Int) := by omega
  have hq2 : (0 : Int) ≤ (at_ : Int) := by omega
  have hq3 : (xs.length : Int) < 1000000 := by omega
  simp only [show char 29 = false by decide, show ((29 : Nat) : Int) = 29 from rfl] at HCH CB
  have CX := HCC.out (at_ + 1) h2
  rw [hx] at CX
  have CX := Lib.hid CX
  have hq4 : ((at_ : Int) + 1 == (xs.length : Int)) = false := by simp; omega
  have hq5 : (at_ : Int) + 1 < (xs.length : Int) := by omega
  have HGT := Lib.hid fun W => rget_ok p n m s W hs
  clear hc hB hb hx
  have HA := Lib.hid (al_any w (.cells #[.int .i64 0, .slice none 0 0, .bool false, .bool false, .int .i64 0, .bool false, .int .i64 0, .int .u8 0] 56))
  have HG := Lib.hid (heap_alloc_new w (.cells #[.int .i64 0, .slice none 0 0, .bool false, .bool false, .int .i64 0, .bool false, .int .i64 0, .int .u8 0] 56))
  go_enter Tryz.func20, Tryz.ntmps20
  go_upto_region 1 with (fail)
  generalize w.alloc (.cells #[.int .i64 0, .slice none 0 0, .bool false, .bool false, .int .i64 0, .bool false, .int .i64 0, .int .u8 0] 56) = w1 at HA HG ⊢
  have c0 := (HA.out.cell (p := ⟨g, o + at_, none⟩) (block_lt CB.out)).trans CB.out
  obtain ⟨d0, d1, d2, d3, d4, d5, d6, d7⟩ := cells8 HG.out
  obtain ⟨f0, f1, f2, f3, f4, f5, f6, f7⟩ := free8 HG.out
  have cx := (HA.out.cell (p := ⟨g, o + (at_ + 1), none⟩) (block_lt CX.out)).trans CX.out
  go_wp2_with fail
  refine wp_loop_rounds 1 ?_
  rw [rounds_succ]
  go_wp2_with fail
  with_reducible refine (HCH.out _).mono ?_
  rintro e w' ⟨rfl, rfl⟩
  go_wp2_with fail
  with_reducible refine (HGT.out _).mono ?_
  rintro e w2 ⟨rfl, hb2⟩
  clear cx c0
  clear d0 d1 d2 d3 d4 d5 d6 d7 f0 f1 f2 f3 f4 f5 f6 f7
  have K2 := kept_hid (kept_hid HA hb2) (al_any w2 (.cells #[.bool p, .bool n, .int .i64 (s : Int), .bool m] 54))
  have N2 := Lib.hid (blk (blk HG.out hb2) (al_any w2 (.cells #[.bool p, .bool n, .int .i64 (s : Int), .bool m] 54)))
  have M2 := Lib.hid (heap_alloc_new w2 (.cells #[.bool p, .bool n, .int .i64 (s : Int), .bool m] 54))
  clear hb2 HG HA
  go_upto_region 17 with (fail)
  generalize w2.heap.size = L at *
  generalize w2.alloc (.cells #[.bool p, .bool n, .int .i64 (s : Int), .bool m] 54) = w3 at *
  obtain ⟨m0, m1, m2, m3⟩ := cells4 M2.out
  obtain ⟨d0, d1, d2, d3, d4, d5, d6, d7⟩ := cells8 N2.out
  obtain ⟨f0, f1, f2, f3, f4, f5, f6, f7⟩ := free8 N2.out
  have SF := Lib.hid (over8e (.int .i64 2) (.slice none 0 0) (.bool p) (.bool n) (.int .i64 (s : Int)) (.bool m) (.int .i64 0) (.int .u8 0) N2.out K2.out (Nat.le_refl _))
  go_wp2_with fail
  clear d0 d1 d2 d3 d4 d5 d6 d7 f0 f1 f2 f3 f4 f5 f6 f7
  clear m0 m1 m2 m3
  obtain ⟨wz, hz, s1, s2, s3⟩ := SF.out
  rw [← hz]
  clear hz SF
  have S1 := Lib.hid s1
  clear s1
  refine bodyPost_ret (v := .tuple #[.agg #[.int .i64 2, .slice none 0 0, .bool p, .bool n, .int .i64 (s : Int), .bool m, .int .i64 0, .int .u8 0], .int .i64 ((at_ : Int) + 2), .int .i64 (0), .int .i64 (-1)]) (results_cell_3 rfl _ _ _ w.heap.size _ rfl (run_loadVar_row wz w.heap.size 56 56 _ (0, 0) _ S1.out Tryz.underlying56 rfl (by kernel_rfl)) (.int .i64 ((at_ : Int) + 2)) (.int .i64 (0)) (.int .i64 (-1)) rfl rfl rfl) rfl ?_
  exact ⟨rfl, s2⟩
set_option maxRecDepth 100000 in
set_option maxHeartbeats 4000000 in
theorem rg_3_bad {xs : List Nat} (ad : Option Addr) (cap at_ z : Nat) (w : World) (hB : BytesIn w (.slice ad xs.length cap) xs) (hl : xs.length < 1000000) (hat : at_ < xs.length) (hb : xs.getD at_ 0 = 17) (h8 : ∀ x ∈ xs, x < 256) (hw : (Adr.aspec (xs.drop (at_ + 1)) (z : Int)).2.1 ≠ 0) :
    Calls Tryz.prog 20 #[.slice ad xs.length cap, .int .i64 (at_ : Int), .int .i64 (z : Int)] w fun e w' => e = .returned (.tuple #[.agg #[.int .i64 0, .slice none 0 0, .bool false, .bool false, .int .i64 0, .bool false, .int .i64 0, .int .u8 0], .int .i64 ((at_ : Int) + 1), .int .i64 (((Adr.aspec (xs.drop (at_ + 1)) (z : Int)).2.1 : Int)), .int .i64 ((at_ : Int) + 1)]) ∧ Below w.heap.size w w' := by
  obtain ⟨g, o, rfl, hc⟩ := cell_in hB hat
  have CB := hc at_ hat
  rw [hb] at CB
  have CB := Lib.hid CB
  have HCC := Lib.hid hc
  have HB := Lib.hid hB
  have HCH := Lib.hid fun W => rchar_any 17 W (by decide)
  have hq0 : ((at_ : Int) == (xs.length : Int)) = false := by simp; omega
  have hq1 : (at_ : Int) < (xs.length : Int) := by omega
  have hq2 : (0 : Int) ≤ (at_ : Int) := by omega
  have hq3 : (xs.length : Int) < 1000000 := by omega
  simp only [show char 17 = false by decide, show ((17 : Nat) : Int) = 17 from rfl] at HCH CB
  have hS : ∀ w, (Instr.slice 22 (.slice (some ⟨g, o, none⟩) xs.length cap) (some (.int .i64 ((at_ : Int) + 1))) none none).run Tryz.prog w = .ok (.slice (cutA (some ⟨g, o, none⟩) (at_ + 1) cap) (xs.length - (at_ + 1)) (cap - (at_ + 1))) w := fun w => run_l (some ⟨g, o, none⟩) xs.length cap (at_ + 1) (by omega) w
  have HAL := fun W hb => Adr.rget_all _ _ _ (xs.drop (at_ + 1)) (z : Int) W (bytes_below (bytes_l (k := at_ + 1) hB (by omega)) hb) (fun y hy => h8 y (List.mem_of_mem_drop hy))
  have hw0 : ((((Adr.aspec (xs.drop (at_ + 1)) (z : Int)).2.1 : Nat) : Int) != 0) = true := by simp; omega
  generalize (Adr.aspec (xs.drop (at_ + 1)) (z : Int)).2.2 = wh at HAL
  generalize (Adr.aspec (xs.drop (at_ + 1)) (z : Int)).1 = a at *
  generalize (Adr.aspec (xs.drop (at_ + 1)) (z : Int)).2.1 = why at *
  have HAL := Lib.hid HAL
  clear hc hB hb h8 hw
  have HA := Lib.hid (al_any w (.cells #[.int .i64 0, .slice none 0 0, .bool false, .bool false, .int .i64 0, .bool false, .int .i64 0, .int .u8 0] 56))
  have HG := Lib.hid (heap_alloc_new w (.cells #[.int .i64 0, .slice none 0 0, .bool false, .bool false, .int .i64 0, .bool false, .int .i64 0, .int .u8 0] 56))
  go_enter Tryz.func20, Tryz.ntmps20
  go_upto_region 1 with (fail)
  generalize w.alloc (.cells #[.int .i64 0, .slice none 0 0, .bool false, .bool false, .int .i64 0, .bool false, .int .i64 0, .int .u8 0] 56) = w1 at HA HG ⊢
  have c0 := (HA.out.cell (p := ⟨g, o + at_, none⟩) (block_lt CB.out)).trans CB.out
  obtain ⟨d0, d1, d2, d3, d4, d5, d6, d7⟩ := cells8 HG.out
  obtain ⟨f0, f1, f2, f3, f4, f5, f6, f7⟩ := free8 HG.out
  go_wp2_with fail
  refine wp_loop_rounds 1 ?_
  rw [rounds_succ]
  go_wp2_with fail
  with_reducible refine (HCH.out _).mono ?_
  rintro e w' ⟨rfl, rfl⟩
  go_wp2_with fail
  with_reducible refine (HAL.out _ HA.out).mono ?_
  rintro e w2 ⟨rfl, hb2⟩
  have K2 := kept_hid HA hb2
  have N2 := Lib.hid (blk HG.out hb2)
  clear d0 d1 d2 d3 d4 d5 d6 d7 f0 f1 f2 f3 f4 f5 f6 f7
  clear hb2 HA HG HAL hS c0
  obtain ⟨d0, d1, d2, d3, d4, d5, d6, d7⟩ := cells8 N2.out
  obtain ⟨f0, f1, f2, f3, f4, f5, f6, f7⟩ := free8 N2.out
  have SF := Lib.hid (over8e (.int .i64 0) (.slice none 0 0) (.bool false) (.bool false) (.int .i64 0) (.bool false) (.int .i64 0) (.int .u8 0) N2.out K2.out (Nat.le_refl _))
  go_wp2_with fail
  clear d0 d1 d2 d3 d4 d5 d6 d7 f0 f1 f2 f3 f4 f5 f6 f7
  obtain ⟨wz, hz, s1, s2, s3⟩ := SF.out
  rw [← hz]
  clear hz SF
  have S1 := Lib.hid s1
  clear s1
  refine bodyPost_ret (v := .tuple #[.agg #[.int .i64 0, .slice none 0 0, .bool false, .bool false, .int .i64 0, .bool false, .int .i64 0, .int .u8 0], .int .i64 ((at_ : Int) + 1), .int .i64 ((why : Int)), .int .i64 ((at_ : Int) + 1)]) (results_cell_3 rfl _ _ _ w.heap.size _ rfl (run_loadVar_row wz w.heap.size 56 56 _ (0, 0) _ S1.out Tryz.underlying56 rfl (by kernel_rfl)) (.int .i64 ((at_ : Int) + 1)) (.int .i64 ((why : Int))) (.int .i64 ((at_ : Int) + 1)) rfl rfl rfl) rfl ?_
  exact ⟨rfl, s2⟩
set_option maxRecDepth 100000 in
set_option maxHeartbeats 4000000 in
theorem rg_3 {xs : List Nat} (ad : Option Addr) (cap at_ z : Nat) (w : World) (hB : BytesIn w (.slice ad xs.length cap) xs) (hl : xs.length < 1000000) (hat : at_ < xs.length) (hb : xs.getD at_ 0 = 17) (h8 : ∀ x ∈ xs, x < 256) (hw : (Adr.aspec (xs.drop (at_ + 1)) (z : Int)).2.1 = 0) :
    Calls Tryz.prog 20 #[.slice ad xs.length cap, .int .i64 (at_ : Int), .int .i64 (z : Int)] w fun e w' => e = .returned (.tuple #[.agg #[.int .i64 3, .slice none 0 0, .bool false, .bool false, .int .i64 0, .bool false, .int .i64 ((Adr.aspec (xs.drop (at_ + 1)) (z : Int)).1 : Int), .int .u8 0], .int .i64 ((at_ : Int) + 3), .int .i64 (0), .int .i64 (-1)]) ∧ Below w.heap.size w w' := by
  obtain ⟨g, o, rfl, hc⟩ := cell_in hB hat
  have CB := hc at_ hat
  rw [hb] at CB
  have CB := Lib.hid CB
  have HCC := Lib.hid hc
  have HB := Lib.hid hB
  have HCH := Lib.hid fun W => rchar_any 17 W (by decide)
  have hq0 : ((at_ : Int) == (xs.length : Int)) = false := by simp; omega
  have hq1 : (at_ : Int) < (xs.length : Int) := by omega
  have hq2 : (0 : Int) ≤ (at_ : Int) := by omega
  have hq3 : (xs.length : Int) < 1000000 := by omega
  simp only [show char 17 = false by decide, show ((17 : Nat) : Int) = 17 from rfl] at HCH CB
  have hS : ∀ w, (Instr.slice 22 (.slice (some ⟨g, o, none⟩) xs.length cap) (some (.int .i64 ((at_ : Int) + 1))) none none).run Tryz.prog w = .ok (.slice (cutA (some ⟨g, o, none⟩) (at_ + 1) cap) (xs.length - (at_ + 1)) (cap - (at_ + 1))) w := fun w => run_l (some ⟨g, o, none⟩) xs.length cap (at_ + 1) (by omega) w
  have HAL := fun W hb => Adr.rget_all _ _ _ (xs.drop (at_ + 1)) (z : Int) W (bytes_below (bytes_l (k := at_ + 1) hB (by omega)) hb) (fun y hy => h8 y (List.mem_of_mem_drop hy))
  rw [hw] at HAL
  generalize (Adr.aspec (xs.drop (at_ + 1)) (z : Int)).2.2 = wh at HAL
  generalize (Adr.aspec (xs.drop (at_ + 1)) (z : Int)).1 = a at *
  have HAL := Lib.hid HAL
  clear hc hB hb h8 hw
  have HA := Lib.hid (al_any w (.cells #[.int .i64 0, .slice none 0 0, .bool false, .bool false, .int .i64 0, .bool false, .int .i64 0, .int .u8 0] 56))
  have HG := Lib.hid (heap_alloc_new w (.cells #[.int .i64 0, .slice none 0 0, .bool false, .bool false, .int .i64 0, .bool false, .int .i64 0, .int .u8 0] 56))
  go_enter Tryz.func20, Tryz.ntmps20
  go_upto_region 1 with (fail)
  generalize w.alloc (.cells #[.int .i64 0, .slice none 0 0, .bool false, .bool false, .int .i64 0, .bool false, .int .i64 0, .int .u8 0] 56) = w1 at HA HG ⊢
  have c0 := (HA.out.cell (p := ⟨g, o + at_, none⟩) (block_lt CB.out)).trans CB.out
  obtain ⟨d0, d1, d2, d3, d4, d5, d6, d7⟩ := cells8 HG.out
  obtain ⟨f0, f1, f2, f3, f4, f5, f6, f7⟩ := free8 HG.out
  go_wp2_with fail
  refine wp_loop_rounds 1 ?_
  rw [rounds_succ]
  go_wp2_with fail
  with_reducible refine (HCH.out _).mono ?_
  rintro e w' ⟨rfl, rfl⟩
  go_wp2_with fail
  with_reducible refine (HAL.out _ HA.out).mono ?_
  rintro e w2 ⟨rfl, hb2⟩
  have K2 := kept_hid HA hb2
  have N2 := Lib.hid (blk HG.out hb2)
  clear d0 d1 d2 d3 d4 d5 d6 d7 f0 f1 f2 f3 f4 f5 f6 f7
  clear hb2 HA HG HAL hS c0
  obtain ⟨d0, d1, d2, d3, d4, d5, d6, d7⟩ := cells8 N2.out
  obtain ⟨f0, f1, f2, f3, f4, f5, f6, f7⟩ := free8 N2.out
  have SF := Lib.hid (over8e (.int .i64 3) (.slice none 0 0) (.bool false) (.bool false) (.int .i64 0) (.bool false) (.int .i64 (a : Int)) (.int .u8 0) N2.out K2.out (Nat.le_refl _))
  go_wp2_with fail
  clear d0 d1 d2 d3 d4 d5 d6 d7 f0 f1 f2 f3 f4 f5 f6 f7
  obtain ⟨wz, hz, s1, s2, s3⟩ := SF.out
  rw [← hz]
  clear hz SF
  have S1 := Lib.hid s1
  clear s1
  refine bodyPost_ret (v := .tuple #[.agg #[.int .i64 3, .slice none 0 0, .bool false, .bool false, .int .i64 0, .bool false, .int .i64 (a : Int), .int .u8 0], .int .i64 ((at_ : Int) + 3), .int .i64 (0), .int .i64 (-1)]) (results_cell_3 rfl _ _ _ w.heap.size _ rfl (run_loadVar_row wz w.heap.size 56 56 _ (0, 0) _ S1.out Tryz.underlying56 rfl (by kernel_rfl)) (.int .i64 ((at_ : Int) + 3)) (.int .i64 (0)) (.int .i64 (-1)) rfl rfl rfl) rfl ?_
  exact ⟨rfl, s2⟩
set_option maxRecDepth 100000 in
set_option maxHeartbeats 4000000 in
theorem rg_7_bad {xs : List Nat} (ad : Option Addr) (cap at_ z : Nat) (w : World) (hB : BytesIn w (.slice ad xs.length cap) xs) (hl : xs.length < 1000000) (hat : at_ < xs.length) (hb : xs.getD at_ 0 = 18) (h8 : ∀ x ∈ xs, x < 256) (hw : (Adr.aspec (xs.drop (at_ + 1)) (z : Int)).2.1 ≠ 0) :
    Calls Tryz.prog 20 #[.slice ad xs.length cap, .int .i64 (at_ : Int), .int .i64 (z : Int)] w fun e w' => e = .returned (.tuple #[.agg #[.int .i64 0, .slice none 0 0, .bool false, .bool false, .int .i64 0, .bool false, .int .i64 0, .int .u8 0], .int .i64 ((at_ : Int) + 1), .int .i64 (((Adr.aspec (xs.drop (at_ + 1)) (z : Int)).2.1 : Int)), .int .i64 ((at_ : Int) + 1)]) ∧ Below w.heap.size w w' := by
  obtain ⟨g, o, rfl, hc⟩ := cell_in hB hat
  have CB := hc at_ hat
  rw [hb] at CB
  have CB := Lib.hid CB
  have HCC := Lib.hid hc
  have HB := Lib.hid hB
  have HCH := Lib.hid fun W => rchar_any 18 W (by decide)
  have hq0 : ((at_ : Int) == (xs.length : Int)) = false := by simp; omega
  have hq1 : (at_ : Int) < (xs.length : Int) := by omega
  have hq2 : (0 : Int) ≤ (at_ : Int) := by omega
  have hq3 : (xs.length : Int) < 1000000 := by omega
  simp only [show char 18 = false by decide, show ((18 : Nat) : Int) = 18 from rfl] at HCH CB
  have hS : ∀ w, (Instr.slice 22 (.slice (some ⟨g, o, none⟩) xs.length cap) (some (.int .i64 ((at_ : Int) + 1))) none none).run Tryz.prog w = .ok (.slice (cutA (some ⟨g, o, none⟩) (at_ + 1) cap) (xs.length - (at_ + 1)) (cap - (at_ + 1))) w := fun w => run_l (some ⟨g, o, none⟩) xs.length cap (at_ + 1) (by omega) w
  have HAL := fun W hb => Adr.rget_all _ _ _ (xs.drop (at_ + 1)) (z : Int) W (bytes_below (bytes_l (k := at_ + 1) hB (by omega)) hb) (fun y hy => h8 y (List.mem_of_mem_drop hy))
  have hw0 : ((((Adr.aspec (xs.drop (at_ + 1)) (z : Int)).2.1 : Nat) : Int) != 0) = true := by simp; omega
  generalize (Adr.aspec (xs.drop (at_ + 1)) (z : Int)).2.2 = wh at HAL
  generalize (Adr.aspec (xs.drop (at_ + 1)) (z : Int)).1 = a at *
  generalize (Adr.aspec (xs.drop (at_ + 1)) (z : Int)).2.1 = why at *
  have HAL := Lib.hid HAL
  clear hc hB hb h8 hw
  have HA := Lib.hid (al_any w (.cells #[.int .i64 0, .slice none 0 0, .bool false, .bool false, .int .i64 0, .bool false, .int .i64 0, .int .u8 0] 56))
  have HG := Lib.hid (heap_alloc_new w (.cells #[.int .i64 0, .slice none 0 0, .bool false, .bool false, .int .i64 0, .bool false, .int .i64 0, .int .u8 0] 56))
  go_enter Tryz.func20, Tryz.ntmps20
  go_upto_region 1 with (fail)
  generalize w.alloc (.cells #[.int .i64 0, .slice none 0 0, .bool false, .bool false, .int .i64 0, .bool false, .int .i64 0, .int .u8 0] 56) = w1 at HA HG ⊢
  have c0 := (HA.out.cell (p := ⟨g, o + at_, none⟩) (block_lt CB.out)).trans CB.out
  obtain ⟨d0, d1, d2, d3, d4, d5, d6, d7⟩ := cells8 HG.out
  obtain ⟨f0, f1, f2, f3, f4, f5, f6, f7⟩ := free8 HG.out
  go_wp2_with fail
  refine wp_loop_rounds 1 ?_
  rw [rounds_succ]
  go_wp2_with fail
  with_reducible refine (HCH.out _).mono ?_
  rintro e w' ⟨rfl, rfl⟩
  go_wp2_with fail
  with_reducible refine (HAL.out _ HA.out).mono ?_
  rintro e w2 ⟨rfl, hb2⟩
  have K2 := kept_hid HA hb2
  have N2 := Lib.hid (blk HG.out hb2)
  clear d0 d1 d2 d3 d4 d5 d6 d7 f0 f1 f2 f3 f4 f5 f6 f7
  clear hb2 HA HG HAL hS c0
  obtain ⟨d0, d1, d2, d3, d4, d5, d6, d7⟩ := cells8 N2.out
  obtain ⟨f0, f1, f2, f3, f4, f5, f6, f7⟩ := free8 N2.out
  have SF := Lib.hid (over8e (.int .i64 0) (.slice none 0 0) (.bool false) (.bool false) (.int .i64 0) (.bool false) (.int .i64 0) (.int .u8 0) N2.out K2.out (Nat.le_refl _))
  go_wp2_with fail
  clear d0 d1 d2 d3 d4 d5 d6 d7 f0 f1 f2 f3 f4 f5 f6 f7
  obtain ⟨wz, hz, s1, s2, s3⟩ := SF.out
  rw [← hz]
  clear hz SF
  have S1 := Lib.hid s1
  clear s1
  refine bodyPost_ret (v := .tuple #[.agg #[.int .i64 0, .slice none 0 0, .bool false, .bool false, .int .i64 0, .bool false, .int .i64 0, .int .u8 0], .int .i64 ((at_ : Int) + 1), .int .i64 ((why : Int)), .int .i64 ((at_ : Int) + 1)]) (results_cell_3 rfl _ _ _ w.heap.size _ rfl (run_loadVar_row wz w.heap.size 56 56 _ (0, 0) _ S1.out Tryz.underlying56 rfl (by kernel_rfl)) (.int .i64 ((at_ : Int) + 1)) (.int .i64 ((why : Int))) (.int .i64 ((at_ : Int) + 1)) rfl rfl rfl) rfl ?_
  exact ⟨rfl, s2⟩
set_option maxRecDepth 100000 in
set_option maxHeartbeats 4000000 in
theorem rg_7 {xs : List Nat} (ad : Option Addr) (cap at_ z : Nat) (w : World) (hB : BytesIn w (.slice ad xs.length cap) xs) (hl : xs.length < 1000000) (hat : at_ < xs.length) (hb : xs.getD at_ 0 = 18) (h8 : ∀ x ∈ xs, x < 256) (hw : (Adr.aspec (xs.drop (at_ + 1)) (z : Int)).2.1 = 0) :
    Calls Tryz.prog 20 #[.slice ad xs.length cap, .int .i64 (at_ : Int), .int .i64 (z : Int)] w fun e w' => e = .returned (.tuple #[.agg #[.int .i64 7, .slice none 0 0, .bool false, .bool false, .int .i64 0, .bool false, .int .i64 ((Adr.aspec (xs.drop (at_ + 1)) (z : Int)).1 : Int), .int .u8 0], .int .i64 ((at_ : Int) + 3), .int .i64 (0), .int .i64 (-1)]) ∧ Below w.heap.size w w' := by
  obtain ⟨g, o, rfl, hc⟩ := cell_in hB hat
  have CB := hc at_ hat
  rw [hb] at CB
  have CB := Lib.hid CB
  have HCC := Lib.hid hc
  have HB := Lib.hid hB
  have HCH := Lib.hid fun W => rchar_any 18 W (by decide)
  have hq0 : ((at_ : Int) == (xs.length : Int)) = false := by simp; omega
  have hq1 : (at_ : Int) < (xs.length : Int) := by omega
  have hq2 : (0 : Int) ≤ (at_ : Int) := by omega
  have hq3 : (xs.length : Int) < 1000000 := by omega
  simp only [show char 18 = false by decide, show ((18 : Nat) : Int) = 18 from rfl] at HCH CB
  have hS : ∀ w, (Instr.slice 22 (.slice (some ⟨g, o, none⟩) xs.length cap) (some (.int .i64 ((at_ : Int) + 1))) none none).run Tryz.prog w = .ok (.slice (cutA (some ⟨g, o, none⟩) (at_ + 1) cap) (xs.length - (at_ + 1)) (cap - (at_ + 1))) w := fun w => run_l (some ⟨g, o, none⟩) xs.length cap (at_ + 1) (by omega) w
  have HAL := fun W hb => Adr.rget_all _ _ _ (xs.drop (at_ + 1)) (z : Int) W (bytes_below (bytes_l (k := at_ + 1) hB (by omega)) hb) (fun y hy => h8 y (List.mem_of_mem_drop hy))
  rw [hw] at HAL
  generalize (Adr.aspec (xs.drop (at_ + 1)) (z : Int)).2.2 = wh at HAL
  generalize (Adr.aspec (xs.drop (at_ + 1)) (z : Int)).1 = a at *
  have HAL := Lib.hid HAL
  clear hc hB hb h8 hw
  have HA := Lib.hid (al_any w (.cells #[.int .i64 0, .slice none 0 0, .bool false, .bool false, .int .i64 0, .bool false, .int .i64 0, .int .u8 0] 56))
  have HG := Lib.hid (heap_alloc_new w (.cells #[.int .i64 0, .slice none 0 0, .bool false, .bool false, .int .i64 0, .bool false, .int .i64 0, .int .u8 0] 56))
  go_enter Tryz.func20, Tryz.ntmps20
  go_upto_region 1 with (fail)
  generalize w.alloc (.cells #[.int .i64 0, .slice none 0 0, .bool false, .bool false, .int .i64 0, .bool false, .int .i64 0, .int .u8 0] 56) = w1 at HA HG ⊢
  have c0 := (HA.out.cell (p := ⟨g, o + at_, none⟩) (block_lt CB.out)).trans CB.out
  obtain ⟨d0, d1, d2, d3, d4, d5, d6, d7⟩ := cells8 HG.out
  obtain ⟨f0, f1, f2, f3, f4, f5, f6, f7⟩ := free8 HG.out
  go_wp2_with fail
  refine wp_loop_rounds 1 ?_
  rw [rounds_succ]
  go_wp2_with fail
  with_reducible refine (HCH.out _).mono ?_
  rintro e w' ⟨rfl, rfl⟩
  go_wp2_with fail
  with_reducible refine (HAL.out _ HA.out).mono ?_
  rintro e w2 ⟨rfl, hb2⟩
  have K2 := kept_hid HA hb2
  have N2 := Lib.hid (blk HG.out hb2)
  clear d0 d1 d2 d3 d4 d5 d6 d7 f0 f1 f2 f3 f4 f5 f6 f7
  clear hb2 HA HG HAL hS c0
  obtain ⟨d0, d1, d2, d3, d4, d5, d6, d7⟩ := cells8 N2.out
  obtain ⟨f0, f1, f2, f3, f4, f5, f6, f7⟩ := free8 N2.out
  have SF := Lib.hid (over8e (.int .i64 7) (.slice none 0 0) (.bool false) (.bool false) (.int .i64 0) (.bool false) (.int .i64 (a : Int)) (.int .u8 0) N2.out K2.out (Nat.le_refl _))
  go_wp2_with fail
  clear d0 d1 d2 d3 d4 d5 d6 d7 f0 f1 f2 f3 f4 f5 f6 f7
  obtain ⟨wz, hz, s1, s2, s3⟩ := SF.out
  rw [← hz]
  clear hz SF
  have S1 := Lib.hid s1
  clear s1
  refine bodyPost_ret (v := .tuple #[.agg #[.int .i64 7, .slice none 0 0, .bool false, .bool false, .int .i64 0, .bool false, .int .i64 (a : Int), .int .u8 0], .int .i64 ((at_ : Int) + 3), .int .i64 (0), .int .i64 (-1)]) (results_cell_3 rfl _ _ _ w.heap.size _ rfl (run_loadVar_row wz w.heap.size 56 56 _ (0, 0) _ S1.out Tryz.underlying56 rfl (by kernel_rfl)) (.int .i64 ((at_ : Int) + 3)) (.int .i64 (0)) (.int .i64 (-1)) rfl rfl rfl) rfl ?_
  exact ⟨rfl, s2⟩
set_option maxRecDepth 100000 in
set_option maxHeartbeats 4000000 in
theorem rg_6_bad {xs : List Nat} (ad : Option Addr) (cap at_ z : Nat) (w : World) (hB : BytesIn w (.slice ad xs.length cap) xs) (hl : xs.length < 1000000) (hat : at_ < xs.length) (hb : xs.getD at_ 0 = 60) (h8 : ∀ x ∈ xs, x < 256) (hw : (Adr.aspec (xs.drop (at_ + 1)) (z : Int)).2.1 ≠ 0) :
    Calls Tryz.prog 20 #[.slice ad xs.length cap, .int .i64 (at_ : Int), .int .i64 (z : Int)] w fun e w' => e = .returned (.tuple #[.agg #[.int .i64 0, .slice none 0 0, .bool false, .bool false, .int .i64 0, .bool false, .int .i64 0, .int .u8 0], .int .i64 ((at_ : Int) + 1), .int .i64 (((Adr.aspec (xs.drop (at_ + 1)) (z : Int)).2.1 : Int)), .int .i64 ((at_ : Int) + 1)]) ∧ Below w.heap.size w w' := by
  obtain ⟨g, o, rfl, hc⟩ := cell_in hB hat
  have CB := hc at_ hat
  rw [hb] at CB
  have CB := Lib.hid CB
  have HCC := Lib.hid hc
  have HB := Lib.hid hB
  have HCH := Lib.hid fun W => rchar_any 60 W (by decide)
  have hq0 : ((at_ : Int) == (xs.length : Int)) = false := by simp; omega
  have hq1 : (at_ : Int) < (xs.length : Int) := by omega
  have hq2 : (0 : Int) ≤ (at_ : Int) := by omega
  have hq3 : (xs.length : Int) < 1000000 := by omega
  simp only [show char 60 = false by decide, show ((60 : Nat) : Int) = 60 from rfl] at HCH CB
  have hS : ∀ w, (Instr.slice 22 (.slice (some ⟨g, o, none⟩) xs.length cap) (some (.int .i64 ((at_ : Int) + 1))) none none).run Tryz.prog w = .ok (.slice (cutA (some ⟨g, o, none⟩) (at_ + 1) cap) (xs.length - (at_ + 1)) (cap - (at_ + 1))) w := fun w => run_l (some ⟨g, o, none⟩) xs.length cap (at_ + 1) (by omega) w
  have HAL := fun W hb => Adr.rget_all _ _ _ (xs.drop (at_ + 1)) (z : Int) W (bytes_below (bytes_l (k := at_ + 1) hB (by omega)) hb) (fun y hy => h8 y (List.mem_of_mem_drop hy))
  have hw0 : ((((Adr.aspec (xs.drop (at_ + 1)) (z : Int)).2.1 : Nat) : Int) != 0) = true := by simp; omega
  generalize (Adr.aspec (xs.drop (at_ + 1)) (z : Int)).2.2 = wh at HAL
  generalize (Adr.aspec (xs.drop (at_ + 1)) (z : Int)).1 = a at *
  generalize (Adr.aspec (xs.drop (at_ + 1)) (z : Int)).2.1 = why at *
  have HAL := Lib.hid HAL
  clear hc hB hb h8 hw
  have HA := Lib.hid (al_any w (.cells #[.int .i64 0, .slice none 0 0, .bool false, .bool false, .int .i64 0, .bool false, .int .i64 0, .int .u8 0] 56))
  have HG := Lib.hid (heap_alloc_new w (.cells #[.int .i64 0, .slice none 0 0, .bool false, .bool false, .int .i64 0, .bool false, .int .i64 0, .int .u8 0] 56))
  go_enter Tryz.func20, Tryz.ntmps20
  go_upto_region 1 with (fail)
  generalize w.alloc (.cells #[.int .i64 0, .slice none 0 0, .bool false, .bool false, .int .i64 0, .bool false, .int .i64 0, .int .u8 0] 56) = w1 at HA HG ⊢
  have c0 := (HA.out.cell (p := ⟨g, o + at_, none⟩) (block_lt CB.out)).trans CB.out
  obtain ⟨d0, d1, d2, d3, d4, d5, d6, d7⟩ := cells8 HG.out
  obtain ⟨f0, f1, f2, f3, f4, f5, f6, f7⟩ := free8 HG.out
  go_wp2_with fail
  refine wp_loop_rounds 1 ?_
  rw [rounds_succ]
  go_wp2_with fail
  with_reducible refine (HCH.out _).mono ?_
  rintro e w' ⟨rfl, rfl⟩
  go_wp2_with fail
  with_reducible refine (HAL.out _ HA.out).mono ?_
  rintro e w2 ⟨rfl, hb2⟩
  have K2 := kept_hid HA hb2
  have N2 := Lib.hid (blk HG.out hb2)
  clear d0 d1 d2 d3 d4 d5 d6 d7 f0 f1 f2 f3 f4 f5 f6 f7
  clear hb2 HA HG HAL hS c0
  obtain ⟨d0, d1, d2, d3, d4, d5, d6, d7⟩ := cells8 N2.out
  obtain ⟨f0, f1, f2, f3, f4, f5, f6, f7⟩ := free8 N2.out
  have SF := Lib.hid (over8e (.int .i64 0) (.slice none 0 0) (.bool false) (.bool false) (.int .i64 0) (.bool false) (.int .i64 0) (.int .u8 0) N2.out K2.out (Nat.le_refl _))
  go_wp2_with fail
  clear d0 d1 d2 d3 d4 d5 d6 d7 f0 f1 f2 f3 f4 f5 f6 f7
  obtain ⟨wz, hz, s1, s2, s3⟩ := SF.out
  rw [← hz]
  clear hz SF
  have S1 := Lib.hid s1
  clear s1
  refine bodyPost_ret (v := .tuple #[.agg #[.int .i64 0, .slice none 0 0, .bool false, .bool false, .int .i64 0, .bool false, .int .i64 0, .int .u8 0], .int .i64 ((at_ : Int) + 1), .int .i64 ((why : Int)), .int .i64 ((at_ : Int) + 1)]) (results_cell_3 rfl _ _ _ w.heap.size _ rfl (run_loadVar_row wz w.heap.size 56 56 _ (0, 0) _ S1.out Tryz.underlying56 rfl (by kernel_rfl)) (.int .i64 ((at_ : Int) + 1)) (.int .i64 ((why : Int))) (.int .i64 ((at_ : Int) + 1)) rfl rfl rfl) rfl ?_
  exact ⟨rfl, s2⟩
set_option maxRecDepth 100000 in
set_option maxHeartbeats 4000000 in
theorem rg_6_none {xs : List Nat} (ad : Option Addr) (cap at_ z : Nat) (w : World) (hB : BytesIn w (.slice ad xs.length cap) xs) (hl : xs.length < 1000000) (hat : at_ < xs.length) (hb : xs.getD at_ 0 = 60) (h8 : ∀ x ∈ xs, x < 256) (hw : (Adr.aspec (xs.drop (at_ + 1)) (z : Int)).2.1 = 0) (h4 : at_ + 3 = xs.length) :
    Calls Tryz.prog 20 #[.slice ad xs.length cap, .int .i64 (at_ : Int), .int .i64 (z : Int)] w fun e w' => e = .returned (.tuple #[.agg #[.int .i64 0, .slice none 0 0, .bool false, .bool false, .int .i64 0, .bool false, .int .i64 0, .int .u8 0], .int .i64 ((at_ : Int) + 3), .int .i64 (2), .int .i64 ((at_ : Int) + 3)]) ∧ Below w.heap.size w w' := by
  obtain ⟨g, o, rfl, hc⟩ := cell_in hB hat
  have CB := hc at_ hat
  rw [hb] at CB
  have CB := Lib.hid CB
  have HCC := Lib.hid hc
  have HB := Lib.hid hB
  have HCH := Lib.hid fun W => rchar_any 60 W (by decide)
  have hq0 : ((at_ : Int) == (xs.length : Int)) = false := by simp; omega
  have hq1 : (at_ : Int) < (xs.length : Int) := by omega
  have hq2 : (0 : Int) ≤ (at_ : Int) := by omega
  have hq3 : (xs.length : Int) < 1000000 := by omega
  simp only [show char 60 = false by decide, show ((60 : Nat) : Int) = 60 from rfl] at HCH CB
  have hS : ∀ w, (Instr.slice 22 (.slice (some ⟨g, o, none⟩) xs.length cap) (some (.int .i64 ((at_ : Int) + 1))) none none).run Tryz.prog w = .ok (.slice (cutA (some ⟨g, o, none⟩) (at_ + 1) cap) (xs.length - (at_ + 1)) (cap - (at_ + 1))) w := fun w => run_l (some ⟨g, o, none⟩) xs.length cap (at_ + 1) (by omega) w
  have HAL := fun W hb => Adr.rget_all _ _ _ (xs.drop (at_ + 1)) (z : Int) W (bytes_below (bytes_l (k := at_ + 1) hB (by omega)) hb) (fun y hy => h8 y (List.mem_of_mem_drop hy))
  have hq7 : ((at_ : Int) + 3 == (xs.length : Int)) = true := by simp; omega
  rw [hw] at HAL
  generalize (Adr.aspec (xs.drop (at_ + 1)) (z : Int)).2.2 = wh at HAL
  generalize (Adr.aspec (xs.drop (at_ + 1)) (z : Int)).1 = a at *
  have HAL := Lib.hid HAL
  clear hc hB hb h8 hw
  have HA := Lib.hid (al_any w (.cells #[.int .i64 0, .slice none 0 0, .bool false, .bool false, .int .i64 0, .bool false, .int .i64 0, .int .u8 0] 56))
  have HG := Lib.hid (heap_alloc_new w (.cells #[.int .i64 0, .slice none 0 0, .bool false, .bool false, .int .i64 0, .bool false, .int .i64 0, .int .u8 0] 56))
  go_enter Tryz.func20, Tryz.ntmps20
  go_upto_region 1 with (fail)
  generalize w.alloc (.cells #[.int .i64 0, .slice none 0 0, .bool false, .bool false, .int .i64 0, .bool false, .int .i64 0, .int .u8 0] 56) = w1 at HA HG ⊢
  have c0 := (HA.out.cell (p := ⟨g, o + at_, none⟩) (block_lt CB.out)).trans CB.out
  obtain ⟨d0, d1, d2, d3, d4, d5, d6, d7⟩ := cells8 HG.out
  obtain ⟨f0, f1, f2, f3, f4, f5, f6, f7⟩ := free8 HG.out
  go_wp2_with fail
  refine wp_loop_rounds 1 ?_
  rw [rounds_succ]
  go_wp2_with fail
  with_reducible refine (HCH.out _).mono ?_
  rintro e w' ⟨rfl, rfl⟩
  go_wp2_with fail
  with_reducible refine (HAL.out _ HA.out).mono ?_
  rintro e w2 ⟨rfl, hb2⟩
  have K2 := kept_hid HA hb2
  have N2 := Lib.hid (blk HG.out hb2)
  clear d0 d1 d2 d3 d4 d5 d6 d7 f0 f1 f2 f3 f4 f5 f6 f7
  clear hb2 HA HG HAL hS c0
  obtain ⟨d0, d1, d2, d3, d4, d5, d6, d7⟩ := cells8 N2.out
  obtain ⟨f0, f1, f2, f3, f4, f5, f6, f7⟩ := free8 N2.out
  have SF := Lib.hid (over8e (.int .i64 0) (.slice none 0 0) (.bool false) (.bool false) (.int .i64 0) (.bool false) (.int .i64 0) (.int .u8 0) N2.out K2.out (Nat.le_refl _))
  go_wp2_with fail
  clear d0 d1 d2 d3 d4 d5 d6 d7 f0 f1 f2 f3 f4 f5 f6 f7
  obtain ⟨wz, hz, s1, s2, s3⟩ := SF.out
  rw [← hz]
  clear hz SF
  have S1 := Lib.hid s1
  clear s1
  refine bodyPost_ret (v := .tuple #[.agg #[.int .i64 0, .slice none 0 0, .bool false, .bool false, .int .i64 0, .bool false, .int .i64 0, .int .u8 0], .int .i64 ((at_ : Int) + 3), .int .i64 (2), .int .i64 ((at_ : Int) + 3)]) (results_cell_3 rfl _ _ _ w.heap.size _ rfl (run_loadVar_row wz w.heap.size 56 56 _ (0, 0) _ S1.out Tryz.underlying56 rfl (by kernel_rfl)) (.int .i64 ((at_ : Int) + 3)) (.int .i64 (2)) (.int .i64 ((at_ : Int) + 3)) rfl rfl rfl) rfl ?_
  exact ⟨rfl, s2⟩
set_option maxRecDepth 100000 in
set_option maxHeartbeats 4000000 in
theorem rg_6_char {xs : List Nat} (ad : Option Addr) (cap at_ z : Nat) (w : World) (hB : BytesIn w (.slice ad xs.length cap) xs) (hl : xs.length < 1000000) (hat : at_ < xs.length) (hb : xs.getD at_ 0 = 60) (h8 : ∀ x ∈ xs, x < 256) (hw : (Adr.aspec (xs.drop (at_ + 1)) (z : Int)).2.1 = 0) (h4 : at_ + 3 < xs.length) (x : Nat) (hx : xs.getD (at_ + 3) 0 = x) (hcx : char x = false) :
    Calls Tryz.prog 20 #[.slice ad xs.length cap, .int .i64 (at_ : Int), .int .i64 (z : Int)] w fun e w' => e = .returned (.tuple #[.agg #[.int .i64 0, .slice none 0 0, .bool false, .bool false, .int .i64 0, .bool false, .int .i64 0, .int .u8 0], .int .i64 ((at_ : Int) + 3), .int .i64 (3), .int .i64 ((at_ : Int) + 3)]) ∧ Below w.heap.size w w' := by
  obtain ⟨g, o, rfl, hc⟩ := cell_in hB hat
  have CB := hc at_ hat
  rw [hb] at CB
  have CB := Lib.hid CB
  have HCC := Lib.hid hc
  have HB := Lib.hid hB
  have HCH := Lib.hid fun W => rchar_any 60 W (by decide)
  have hq0 : ((at_ : Int) == (xs.length : Int)) = false := by simp; omega
  have hq1 : (at_ : Int) < (xs.length : Int) := by omega
  have hq2 : (0 : Int) ≤ (at_ : Int) := by omega
  have hq3 : (xs.length : Int) < 1000000 := by omega
  simp only [show char 60 = false by decide, show ((60 : Nat) : Int) = 60 from rfl] at HCH CB
  have hS : ∀ w, (Instr.slice 22 (.slice (some ⟨g, o, none⟩) xs.length cap) (some (.int .i64 ((at_ : Int) + 1))) none none).run Tryz.prog w = .ok (.slice (cutA (some ⟨g, o, none⟩) (at_ + 1) cap) (xs.length - (at_ + 1)) (cap - (at_ + 1))) w := fun w => run_l (some ⟨g, o, none⟩) xs.length cap (at_ + 1) (by omega) w
  have HAL := fun W hb => Adr.rget_all _ _ _ (xs.drop (at_ + 1)) (z : Int) W (bytes_below (bytes_l (k := at_ + 1) hB (by omega)) hb) (fun y hy => h8 y (List.mem_of_mem_drop hy))
  have CX := HCC.out (at_ + 3) h4
  rw [hx] at CX
  have CX := Lib.hid CX
  have hx8 : x < 256 := by rw [← hx]; exact byte_lt h8 (by decide) _
  have HC3 := fun W => rchar_any x W hx8
  rw [hcx] at HC3
  have HC3 := Lib.hid HC3
  have hq6 : (at_ : Int) + 3 < (xs.length : Int) := by omega
  have hq7 : ((at_ : Int) + 3 == (xs.length : Int)) = false := by simp; omega
  rw [hw] at HAL
  generalize (Adr.aspec (xs.drop (at_ + 1)) (z : Int)).2.2 = wh at HAL
  generalize (Adr.aspec (xs.drop (at_ + 1)) (z : Int)).1 = a at *
  have HAL := Lib.hid HAL
  clear hc hB hb h8 hw hx hcx
  have HA := Lib.hid (al_any w (.cells #[.int .i64 0, .slice none 0 0, .bool false, .bool false, .int .i64 0, .bool false, .int .i64 0, .int .u8 0] 56))
  have HG := Lib.hid (heap_alloc_new w (.cells #[.int .i64 0, .slice none 0 0, .bool false, .bool false, .int .i64 0, .bool false, .int .i64 0, .int .u8 0] 56))
  go_enter Tryz.func20, Tryz.ntmps20
  go_upto_region 1 with (fail)
  generalize w.alloc (.cells #[.int .i64 0, .slice none 0 0, .bool false, .bool false, .int .i64 0, .bool false, .int .i64 0, .int .u8 0] 56) = w1 at HA HG ⊢
  have c0 := (HA.out.cell (p := ⟨g, o + at_, none⟩) (block_lt CB.out)).trans CB.out
  obtain ⟨d0, d1, d2, d3, d4, d5, d6, d7⟩ := cells8 HG.out
  obtain ⟨f0, f1, f2, f3, f4, f5, f6, f7⟩ := free8 HG.out
  go_wp2_with fail
  refine wp_loop_rounds 1 ?_
  rw [rounds_succ]
  go_wp2_with fail
  with_reducible refine (HCH.out _).mono ?_
  rintro e w' ⟨rfl, rfl⟩
  go_wp2_with fail
  with_reducible refine (HAL.out _ HA.out).mono ?_
  rintro e w2 ⟨rfl, hb2⟩
  have K2 := kept_hid HA hb2
  have N2 := Lib.hid (blk HG.out hb2)
  clear d0 d1 d2 d3 d4 d5 d6 d7 f0 f1 f2 f3 f4 f5 f6 f7
  have cx := (K2.out.cell (p := ⟨g, o + (at_ + 3), none⟩) (block_lt CX.out)).trans CX.out
  clear hb2 HA HG HAL hS c0
  obtain ⟨d0, d1, d2, d3, d4, d5, d6, d7⟩ := cells8 N2.out
  obtain ⟨f0, f1, f2, f3, f4, f5, f6, f7⟩ := free8 N2.out
  go_wp2_with fail
  with_reducible refine (HC3.out _).mono ?_
  rintro e w' ⟨rfl, rfl⟩
  have SF := Lib.hid (over8e (.int .i64 0) (.slice none 0 0) (.bool false) (.bool false) (.int .i64 0) (.bool false) (.int .i64 0) (.int .u8 0) N2.out K2.out (Nat.le_refl _))
  go_wp2_with fail
  clear d0 d1 d2 d3 d4 d5 d6 d7 f0 f1 f2 f3 f4 f5 f6 f7
  clear cx
  obtain ⟨wz, hz, s1, s2, s3⟩ := SF.out
  rw [← hz]
  clear hz SF
  have S1 := Lib.hid s1
  clear s1
  refine bodyPost_ret (v := .tuple #[.agg #[.int .i64 0, .slice none 0 0, .bool false, .bool false, .int .i64 0, .bool false, .int .i64 0, .int .u8 0], .int .i64 ((at_ : Int) + 3), .int .i64 (3), .int .i64 ((at_ : Int) + 3)]) (results_cell_3 rfl _ _ _ w.heap.size _ rfl (run_loadVar_row wz w.heap.size 56 56 _ (0, 0) _ S1.out Tryz.underlying56 rfl (by kernel_rfl)) (.int .i64 ((at_ : Int) + 3)) (.int .i64 (3)) (.int .i64 ((at_ : Int) + 3)) rfl rfl rfl) rfl ?_
  exact ⟨rfl, s2⟩
set_option maxRecDepth 100000 in
set_option maxHeartbeats 4000000 in
theorem rg_6 {xs : List Nat} (ad : Option Addr) (cap at_ z : Nat) (w : World) (hB : BytesIn w (.slice ad xs.length cap) xs) (hl : xs.length < 1000000) (hat : at_ < xs.length) (hb : xs.getD at_ 0 = 60) (h8 : ∀ x ∈ xs, x < 256) (hw : (Adr.aspec (xs.drop (at_ + 1)) (z : Int)).2.1 = 0) (h4 : at_ + 3 < xs.length) (x : Nat) (hx : xs.getD (at_ + 3) 0 = x) (hcx : char x = true) :
    Calls Tryz.prog 20 #[.slice ad xs.length cap, .int .i64 (at_ : Int), .int .i64 (z : Int)] w fun e w' => e = .returned (.tuple #[.agg #[.int .i64 6, .slice none 0 0, .bool false, .bool false, .int .i64 0, .bool false, .int .i64 ((Adr.aspec (xs.drop (at_ + 1)) (z : Int)).1 : Int), .int .u8 (x : Int)], .int .i64 ((at_ : Int) + 4), .int .i64 (0), .int .i64 (-1)]) ∧ Below w.heap.size w w' := by
  obtain ⟨g, o, rfl, hc⟩ := cell_in hB hat
  have CB := hc at_ hat
  rw [hb] at CB
  have CB := Lib.hid CB
  have HCC := Lib.hid hc
  have HB := Lib.hid hB
  have HCH := Lib.hid fun W => rchar_any 60 W (by decide)
  have hq0 : ((at_ : Int) == (xs.length : Int)) = false := by simp; omega
  have hq1 : (at_ : Int) < (xs.length : Int) := by omega
  have hq2 : (0 : Int) ≤ (at_ : Int) := by omega
  have hq3 : (xs.length : Int) < 1000000 := by omega
  simp only [show char 60 = false by decide, show ((60 : Nat) : Int) = 60 from rfl] at HCH CB
  have hS : ∀ w, (Instr.slice 22 (.slice (some ⟨g, o, none⟩) xs.length cap) (some (.int .i64 ((at_ : Int) + 1))) none none).run Tryz.prog w = .ok (.slice (cutA (some ⟨g, o, none⟩) (at_ + 1) cap) (xs.length - (at_ + 1)) (cap - (at_ + 1))) w := fun w => run_l (some ⟨g, o, none⟩) xs.length cap (at_ + 1) (by omega) w
  have HAL := fun W hb => Adr.rget_all _ _ _ (xs.drop (at_ + 1)) (z : Int) W (bytes_below (bytes_l (k := at_ + 1) hB (by omega)) hb) (fun y hy => h8 y (List.mem_of_mem_drop hy))
  have CX := HCC.out (at_ + 3) h4
  rw [hx] at CX
  have CX := Lib.hid CX
  have hx8 : x < 256 := by rw [← hx]; exact byte_lt h8 (by decide) _
  have HC3 := fun W => rchar_any x W hx8
  rw [hcx] at HC3
  have HC3 := Lib.hid HC3
  have hq6 : (at_ : Int) + 3 < (xs.length : Int) := by omega
  have hq7 : ((at_ : Int) + 3 == (xs.length : Int)) = false := by simp; omega
  rw [hw] at HAL
  generalize (Adr.aspec (xs.drop (at_ + 1)) (z : Int)).2.2 = wh at HAL
  generalize (Adr.aspec (xs.drop (at_ + 1)) (z : Int)).1 = a at *
  have HAL := Lib.hid HAL
  clear hc hB hb h8 hw hx hcx
  have HA := Lib.hid (al_any w (.cells #[.int .i64 0, .slice none 0 0, .bool false, .bool false, .int .i64 0, .bool false, .int .i64 0, .int .u8 0] 56))
  have HG := Lib.hid (heap_alloc_new w (.cells #[.int .i64 0, .slice none 0 0, .bool false, .bool false, .int .i64 0, .bool false, .int .i64 0, .int .u8 0] 56))
  go_enter Tryz.func20, Tryz.ntmps20
  go_upto_region 1 with (fail)
  generalize w.alloc (.cells #[.int .i64 0, .slice none 0 0, .bool false, .bool false, .int .i64 0, .bool false, .int .i64 0, .int .u8 0] 56) = w1 at HA HG ⊢
  have c0 := (HA.out.cell (p := ⟨g, o + at_, none⟩) (block_lt CB.out)).trans CB.out
  obtain ⟨d0, d1, d2, d3, d4, d5, d6, d7⟩ := cells8 HG.out
  obtain ⟨f0, f1, f2, f3, f4, f5, f6, f7⟩ := free8 HG.out
  go_wp2_with fail
  refine wp_loop_rounds 1 ?_
  rw [rounds_succ]
  go_wp2_with fail
  with_reducible refine (HCH.out _).mono ?_
  rintro e w' ⟨rfl, rfl⟩
  go_wp2_with fail
  with_reducible refine (HAL.out _ HA.out).mono ?_
  rintro e w2 ⟨rfl, hb2⟩
  have K2 := kept_hid HA hb2
  have N2 := Lib.hid (blk HG.out hb2)
  clear d0 d1 d2 d3 d4 d5 d6 d7 f0 f1 f2 f3 f4 f5 f6 f7
  have cx := (K2.out.cell (p := ⟨g, o + (at_ + 3), none⟩) (block_lt CX.out)).trans CX.out
  clear hb2 HA HG HAL hS c0
  obtain ⟨d0, d1, d2, d3, d4, d5, d6, d7⟩ := cells8 N2.out
  obtain ⟨f0, f1, f2, f3, f4, f5, f6, f7⟩ := free8 N2.out
  go_wp2_with fail
  with_reducible refine (HC3.out _).mono ?_
  rintro e w' ⟨rfl, rfl⟩
  have SF := Lib.hid (over8e (.int .i64 6) (.slice none 0 0) (.bool false) (.bool false) (.int .i64 0) (.bool false) (.int .i64 (a : Int)) (.int .u8 (x : Int)) N2.out K2.out (Nat.le_refl _))
  go_wp2_with fail
  clear d0 d1 d2 d3 d4 d5 d6 d7 f0 f1 f2 f3 f4 f5 f6 f7
  clear cx
  obtain ⟨wz, hz, s1, s2, s3⟩ := SF.out
  rw [← hz]
  clear hz SF
  have S1 := Lib.hid s1
  clear s1
  refine bodyPost_ret (v := .tuple #[.agg #[.int .i64 6, .slice none 0 0, .bool false, .bool false, .int .i64 0, .bool false, .int .i64 (a : Int), .int .u8 (x : Int)], .int .i64 ((at_ : Int) + 4), .int .i64 (0), .int .i64 (-1)]) (results_cell_3 rfl _ _ _ w.heap.size _ rfl (run_loadVar_row wz w.heap.size 56 56 _ (0, 0) _ S1.out Tryz.underlying56 rfl (by kernel_rfl)) (.int .i64 ((at_ : Int) + 4)) (.int .i64 (0)) (.int .i64 (-1)) rfl rfl rfl) rfl ?_
  exact ⟨rfl, s2⟩
end Ord
end Go.Proofs.YtmllmmamdkjndaaGreatDoor
/- The document's Get of orders: characters; and of whatever bytes, by the plain function. Written by tools/gen_ord_rget.py. -/
namespace Go.Proofs.YtmllmmamdkjndaaGreatDoor
open Go.RowKit Sha Cut Err Six Att Apd
namespace Ord
set_option maxRecDepth 100000 in
set_option maxHeartbeats 4000000 in
theorem rg_text {xs : List Nat} (ad : Option Addr) (cap at_ z n : Nat) (ys : List Nat) (w : World) (hB : BytesIn w (.slice ad xs.length cap) xs) (hl : xs.length < 1000000) (h8 : ∀ x ∈ xs, x < 256) (hat : at_ < xs.length) (hch : char (xs.getD at_ 0) = true) (hn : Byt.crun (xs.drop at_) = n) (hy : (xs.drop at_).take n = ys) :
    Calls Tryz.prog 20 #[.slice ad xs.length cap, .int .i64 (at_ : Int), .int .i64 (z : Int)] w fun e w' => ∃ va vc, e = .returned (.tuple #[.agg #[.int .i64 1, .slice va n vc, .bool false, .bool false, .int .i64 0, .bool false, .int .i64 0, .int .u8 0], .int .i64 ((at_ : Int) + (n : Int)), .int .i64 0, .int .i64 (-1)]) ∧ w'.ownsRow w.heap.size 5 1 (.slice va n vc) n (u8s ys) ∧ Below w.heap.size w w' := by
  obtain ⟨g, o, rfl, hc⟩ := cell_in hB hat
  have HCC := Lib.hid hc
  have hcap : xs.length ≤ cap := by obtain ⟨_, _, hv, hh, _⟩ := hB; injection hv with _ _ e3; omega
  have hle := Byt.crun_le (xs.drop at_)
  rw [List.length_drop, hn] at hle
  have hpos : 0 < n := by
    have h2 := (Byt.crun_at (xs.drop at_)).2
    rw [hn] at h2
    rcases Nat.eq_zero_or_pos n with h0 | h0
    · rw [h0] at h2
      have h3 := h2 (by rw [List.length_drop]; omega)
      rw [(Byt.drop_head xs at_).1, hch] at h3
      cases h3
    · exact h0
  have HAT := Lib.hid (show ∀ j, j < n → char (xs.getD (at_ + j) 0) = true from fun j hj => by
    have h := (Byt.crun_at (xs.drop at_)).1 j (by rw [hn]; exact hj)
    rwa [show (xs.drop at_).getD j 0 = xs.getD (at_ + j) 0 by simp [List.getD_eq_getElem?_getD]] at h)
  have HEND := Lib.hid (show at_ + n < xs.length → char (xs.getD (at_ + n) 0) = false from fun h => by
    have h' := (Byt.crun_at (xs.drop at_)).2 (by rw [hn, List.length_drop]; omega)
    rwa [hn, show (xs.drop at_).getD n 0 = xs.getD (at_ + n) 0 by simp [List.getD_eq_getElem?_getD]] at h')
  have HBT := Lib.hid (show BytesIn w (.slice (cutA (some ⟨g, o, none⟩) at_ cap) n (cap - at_)) ys by have := bytes_lh (k := at_) (n := n) hB (by omega); rwa [hy] at this)
  have HYL := Lib.hid (show ys.length = n by rw [← hy, List.length_take, List.length_drop]; omega)
  have HB8 := Lib.hid fun k => byte_lt h8 (by decide) k
  have HCH := Lib.hid fun b W hb => rchar_any b W hb
  have HCN := Lib.hid (show cutA (some ⟨g, o, none⟩) at_ cap = none → n = 0 ∧ cap - at_ = 0 from fun h => by have := cutA_none h; cases this)
  have hS : ∀ w, (Instr.slice 22 (.slice (some ⟨g, o, none⟩) xs.length cap) (some (.int .i64 (at_ : Int))) (some (.int .i64 ((at_ : Int) + (n : Int)))) none).run Tryz.prog w = .ok (.slice (cutA (some ⟨g, o, none⟩) at_ cap) n (cap - at_)) w := fun w => run_lh (some ⟨g, o, none⟩) xs.length cap at_ n (by omega) w
  have hq0 : ((at_ : Int) == (xs.length : Int)) = false := by simp; omega
  have hq2 : (0 : Int) ≤ (at_ : Int) := by omega
  have hq3 : (xs.length : Int) < 1000000 := by omega
  have hq4 : (at_ : Int) < (xs.length : Int) := by omega
  generalize cutA (some ⟨g, o, none⟩) at_ cap = ca at *
  clear hc hB h8 hch hn hy
  have HA := Lib.hid (al_any w (.cells #[.int .i64 0, .slice none 0 0, .bool false, .bool false, .int .i64 0, .bool false, .int .i64 0, .int .u8 0] 56))
  have HG := Lib.hid (heap_alloc_new w (.cells #[.int .i64 0, .slice none 0 0, .bool false, .bool false, .int .i64 0, .bool false, .int .i64 0, .int .u8 0] 56))
  go_enter Tryz.func20, Tryz.ntmps20
  go_upto_region 1 with (fail)
  generalize w.alloc (.cells #[.int .i64 0, .slice none 0 0, .bool false, .bool false, .int .i64 0, .bool false, .int .i64 0, .int .u8 0] 56) = w1 at HA HG ⊢
  have HC1 := Lib.hid (show ∀ j, j < xs.length → w1.cell? ⟨g, o + j, none⟩ = some (.int .u8 ((xs.getD j 0 : Nat) : Int)) from fun j hj => (HA.out.cell (p := ⟨g, o + j, none⟩) (block_lt (HCC.out j hj))).trans (HCC.out j hj))
  go_wp2_with fail
  go_loopg [10] (n + 1) (fun m i wr => wr = w1 ∧ ∃ k : Nat, k ≤ n ∧ m = n + 1 - k ∧ i = .int .i64 k)
  case atStart => exact ⟨rfl, 0, Nat.zero_le _, rfl, rfl⟩
  case round =>
    obtain ⟨rfl, k, hk, rfl, rfl⟩ := hrel
    have hi0 : (0 : Int) ≤ (k : Int) := by omega
    have hi1 : (at_ : Int) + (k : Int) ≤ (xs.length : Int) := by omega
    have ew : IntKind.i64.wrap ((k : Int) + 1) = (k : Int) + 1 := by
      rw [IntWalk.i64_in] <;> omega
    have ew2 : IntKind.i64.wrap ((at_ : Int) + (k : Int)) = (at_ : Int) + (k : Int) := by
      rw [IntWalk.i64_in] <;> omega
    by_cases hlt : k < n
    · have c0 := HC1.out (at_ + k) (by omega)
      have hb := HB8.out (at_ + k)
      have HT := HAT.out k hlt
      generalize xs.getD (at_ + k) 0 = b at c0 hb HT
      have HCB := HCH.out b wr hb
      rw [HT] at HCB
      have HCB := Lib.hid HCB
      have hj0 : (0 : Int) ≤ (at_ : Int) + (k : Int) := by omega
      have hj1 : (at_ : Int) + (k : Int) < (xs.length : Int) := by omega
      have hj2 : ((at_ : Int) + (k : Int)).toNat = at_ + k := by omega
      clear HT
      go_wp2_with fail
      with_reducible refine HCB.out.mono ?_
      rintro e w' ⟨rfl, rfl⟩
      go_wp2_with fail
      go_roundg (n + 1 - (k + 1))
      case measure => omega
      case rel => exact ⟨rfl, k + 1, by omega, rfl, by go_num⟩
    · obtain rfl : k = n := by omega
      clear hlt
      have hn0 : (0 : Int) < (k : Int) := by omega
      have HOE := Lib.hid (own_lit wr wr.heap.size [] (Nat.le_refl _) (by decide))
      have A0 := Lib.hid (al_any wr (.cells (u8s []).toArray 5))
      have HSR := Lib.hid (bytes_src (bytes_below (bytes_below HBT.out HA.out) A0.out))
      by_cases hend : at_ + k < xs.length
      · have c0 := HC1.out (at_ + k) hend
        have hb := HB8.out (at_ + k)
        have HT := HEND.out hend
        generalize xs.getD (at_ + k) 0 = b at c0 hb HT
        have HCB := HCH.out b wr hb
        rw [HT] at HCB
        have HCB := Lib.hid HCB
        have hj0 : (0 : Int) ≤ (at_ : Int) + (k : Int) := by omega
        have hj1 : (at_ : Int) + (k : Int) < (xs.length : Int) := by omega
        have hj2 : ((at_ : Int) + (k : Int)).toNat = at_ + k := by omega
        clear HT
        go_wp2_with fail
        with_reducible refine HCB.out.mono ?_
        rintro e w' ⟨rfl, rfl⟩
        clear c0
        go_wp2_with (at_builtin; refine wpList_mark ?_)
        refine Lib.hid ?_
        refine append_own rfl (.tmp 43) (.tmp 49) rfl wr.heap.size _ 0 _ rfl HOE.out ca k (cap - at_) ys rfl HYL.out HCN.out HSR.out (by omega) A0.out.size ?_
        intro v2 w2 hown hgr _
        have HO := Lib.hid (show w2.ownsRow wr.heap.size 5 1 v2 k (u8s ys) from by simpa [u8s] using hown)
        have hK := below_own A0.out hgr HOE.out
        have K2 := kept_hid HA hK
        have N2 := Lib.hid (blk HG.out hK)
        have HRL := Lib.hid (there_lt HG.out)
        obtain ⟨va, vc, rfl⟩ := own_form HO.out
        clear hK hown hgr HSR A0 HOE
        obtain ⟨d0, d1, d2, d3, d4, d5, d6, d7⟩ := cells8 N2.out
        obtain ⟨f0, f1, f2, f3, f4, f5, f6, f7⟩ := free8 N2.out
        have SF := Lib.hid (over8e (.int .i64 1) (.slice va k vc) (.bool false) (.bool false) (.int .i64 0) (.bool false) (.int .i64 0) (.int .u8 0) N2.out K2.out (Nat.le_refl _))
        go_wp2_with fail
        clear d0 d1 d2 d3 d4 d5 d6 d7 f0 f1 f2 f3 f4 f5 f6 f7
        obtain ⟨wz, hz, s1, s2, s3⟩ := SF.out
        rw [← hz]
        clear hz SF
        have S1 := Lib.hid s1
        clear s1
        refine bodyPost_ret (v := .tuple #[.agg #[.int .i64 1, .slice va k vc, .bool false, .bool false, .int .i64 0, .bool false, .int .i64 0, .int .u8 0], .int .i64 ((at_ : Int) + (k : Int)), .int .i64 (0), .int .i64 (-1)]) (results_cell_3 rfl _ _ _ w.heap.size _ rfl (run_loadVar_row wz w.heap.size 56 56 _ (0, 0) _ S1.out Tryz.underlying56 rfl (by kernel_rfl)) (.int .i64 ((at_ : Int) + (k : Int))) (.int .i64 (0)) (.int .i64 (-1)) rfl rfl rfl) rfl ?_
        exact ⟨va, vc, rfl, own_mono (own_other HO.out s3 HRL.out) HA.out.size, s2⟩
      · have hj1 : ¬ (at_ : Int) + (k : Int) < (xs.length : Int) := by omega
        go_wp2_with (at_builtin; refine wpList_mark ?_)
        refine Lib.hid ?_
        refine append_own rfl (.tmp 43) (.tmp 49) rfl wr.heap.size _ 0 _ rfl HOE.out ca k (cap - at_) ys rfl HYL.out HCN.out HSR.out (by omega) A0.out.size ?_
        intro v2 w2 hown hgr _
        have HO := Lib.hid (show w2.ownsRow wr.heap.size 5 1 v2 k (u8s ys) from by simpa [u8s] using hown)
        have hK := below_own A0.out hgr HOE.out
        have K2 := kept_hid HA hK
        have N2 := Lib.hid (blk HG.out hK)
        have HRL := Lib.hid (there_lt HG.out)
        obtain ⟨va, vc, rfl⟩ := own_form HO.out
        clear hK hown hgr HSR A0 HOE
        obtain ⟨d0, d1, d2, d3, d4, d5, d6, d7⟩ := cells8 N2.out
        obtain ⟨f0, f1, f2, f3, f4, f5, f6, f7⟩ := free8 N2.out
        have SF := Lib.hid (over8e (.int .i64 1) (.slice va k vc) (.bool false) (.bool false) (.int .i64 0) (.bool false) (.int .i64 0) (.int .u8 0) N2.out K2.out (Nat.le_refl _))
        go_wp2_with fail
        clear d0 d1 d2 d3 d4 d5 d6 d7 f0 f1 f2 f3 f4 f5 f6 f7
        obtain ⟨wz, hz, s1, s2, s3⟩ := SF.out
        rw [← hz]
        clear hz SF
        have S1 := Lib.hid s1
        clear s1
        refine bodyPost_ret (v := .tuple #[.agg #[.int .i64 1, .slice va k vc, .bool false, .bool false, .int .i64 0, .bool false, .int .i64 0, .int .u8 0], .int .i64 ((at_ : Int) + (k : Int)), .int .i64 (0), .int .i64 (-1)]) (results_cell_3 rfl _ _ _ w.heap.size _ rfl (run_loadVar_row wz w.heap.size 56 56 _ (0, 0) _ S1.out Tryz.underlying56 rfl (by kernel_rfl)) (.int .i64 ((at_ : Int) + (k : Int))) (.int .i64 (0)) (.int .i64 (-1)) rfl rfl rfl) rfl ?_
        exact ⟨va, vc, rfl, own_mono (own_other HO.out s3 HRL.out) HA.out.size, s2⟩
end Ord
end Go.Proofs.YtmllmmamdkjndaaGreatDoor
/- The document's Get of orders, of whatever bytes, from whatever place on: the plain function. -/
namespace Go.Proofs.YtmllmmamdkjndaaGreatDoor
open Go.RowKit Sha Cut Err Six Att Apd
namespace Ord
theorem cast_add (a b : Nat) : (a : Int) + (b : Int) = ((a + b : Nat) : Int) := by omega
/-- What the document's Get answers of what is an order. -/
theorem rgot_right {xs : List Nat} (ad : Option Addr) (cap at_ z : Nat) (w : World) (hB : BytesIn w (.slice ad xs.length cap) xs) (hl : xs.length < 1000000) (h8 : ∀ x ∈ xs, x < 256) (hw : (oget (xs.drop at_) z).2.2 = 0) :
    Calls Tryz.prog 20 #[.slice ad xs.length cap, .int .i64 (at_ : Int), .int .i64 (z : Int)] w fun e w' => ∃ va n vc, e = .returned (.tuple #[.agg #[.int .i64 (oget (xs.drop at_) z).1.k, .slice va n vc, .bool (oget (xs.drop at_) z).1.p, .bool (oget (xs.drop at_) z).1.n, .int .i64 (oget (xs.drop at_) z).1.s, .bool (oget (xs.drop at_) z).1.m, .int .i64 (oget (xs.drop at_) z).1.a, .int .u8 ((oget (xs.drop at_) z).1.c : Int)], .int .i64 ((at_ + (oget (xs.drop at_) z).2.1 : Nat) : Int), .int .i64 0, .int .i64 (-1)]) ∧
      w'.ownsRow w.heap.size 5 1 (.slice va n vc) n (u8s (oget (xs.drop at_) z).1.t) ∧ Below w.heap.size w w' := by
  by_cases hat : at_ < xs.length
  · have hb := byte_lt h8 (by decide) at_
    have hd := drop_cons hat
    rcases kinds _ hb with ⟨hk, h0, h1, h2, h3, h4, h5, h6⟩ | ⟨hk, h0⟩ | ⟨hk, h0⟩ | ⟨hk, h0⟩ | ⟨hk, h0⟩ | ⟨hk, h0⟩ | ⟨hk, h0⟩ | ⟨hk, h0⟩
    · rw [hd, oget_strange h0 h1 h2 h3 h4 h5 h6] at hw; cases hw
    · have e : oget (xs.drop at_) z = (⟨1, (xs.drop at_).takeWhile char, false, false, 0, false, 0, 0⟩, ((xs.drop at_).takeWhile char).length, 0) := by
        rw [hd]; exact oget_char h0
      rw [e]
      exact (rg_text ad cap at_ z _ _ w hB hl h8 hat h0 rfl (take_crun _)).mono fun e w' ⟨va, vc, he, ho, hg⟩ => ⟨va, _, vc, by rw [he, cast_add]; rfl, ho, hg⟩
    · rw [hd, h0] at hw
      by_cases hl2 : at_ + 1 < xs.length
      · have hd2 := drop_cons hl2
        have hb2 := byte_lt h8 (by decide) (at_ + 1)
        rw [hd2] at hw
        cases hn : noAttr (xs.getD (at_ + 1) 0) with
        | true => rw [oget_2_bad _ _ _ hn] at hw; cases hw
        | false =>
          obtain ⟨p, n, m, s, hs, hp⟩ := attr_cases _ hb2 hn
          have e : oget (xs.drop at_) z = (⟨2, [], p, n, (s : Int), m, 0, 0⟩, 2, 0) := by
            rw [hd, h0, hd2, hp]; exact oget_2 p n m s hs _ _
          rw [e]
          exact (rg_2 ad cap at_ z w hB hl hat h0 hl2 p n m s hs hp).mono fun e w' ⟨he, hg⟩ => ⟨none, 0, 0, he, own_none _ _, hg⟩
      · rw [drop_none hl2, oget_2_none] at hw; cases hw
    · have e := oget_3 (xs.drop (at_ + 1)) z
      rw [← h0, ← hd] at e
      rw [e] at hw ⊢
      by_cases ha : (Adr.aspec (xs.drop (at_ + 1)) z).2.1 = 0
      · rw [if_pos ha]
        exact (rg_3 ad cap at_ z w hB hl hat h0 h8 ha).mono fun e w' ⟨he, hg⟩ => ⟨none, 0, 0, he, own_none _ _, hg⟩
      · rw [if_neg ha] at hw; exact absurd hw ha
    · have e := oget_4 (xs.drop (at_ + 1)) z
      rw [← h0, ← hd] at e
      rw [e]
      exact (rg_4 ad cap at_ z w hB hl hat h0).mono fun e w' ⟨he, hg⟩ => ⟨none, 0, 0, he, own_none _ _, hg⟩
    · have e := oget_5 (xs.drop (at_ + 1)) z
      rw [show (5 : Nat) :: xs.drop (at_ + 1) = xs.drop at_ by rw [hd, h0]] at e
      rw [e]
      exact (rg_5 ad cap at_ z w hB hl hat h0).mono fun e w' ⟨he, hg⟩ => ⟨none, 0, 0, he, own_none _ _, hg⟩
    · have e : xs.drop at_ = 60 :: xs.drop (at_ + 1) := by rw [hd, h0]
      by_cases ha : (Adr.aspec (xs.drop (at_ + 1)) z).2.1 = 0
      · by_cases hl4 : at_ + 3 < xs.length
        · have hd4 : (xs.drop (at_ + 1)).drop 2 = xs.getD (at_ + 3) 0 :: xs.drop (at_ + 4) := by rw [List.drop_drop, show at_ + 1 + 2 = at_ + 3 by omega]; exact drop_cons hl4
          have e2 := oget_6_cons (xs.drop (at_ + 1)) z _ _ ha hd4
          rw [← e] at e2
          rw [e2] at hw ⊢
          cases hc : char (xs.getD (at_ + 3) 0) with
          | false => rw [hc] at hw; cases hw
          | true =>
            rw [if_pos rfl]
            exact (rg_6 ad cap at_ z w hB hl hat h0 h8 ha hl4 _ rfl hc).mono fun e w' ⟨he, hg⟩ => ⟨none, 0, 0, he, own_none _ _, hg⟩
        · have hd4 : (xs.drop (at_ + 1)).drop 2 = [] := by rw [List.drop_drop]; exact drop_none (by omega)
          rw [e, oget_6_none _ _ ha hd4] at hw; cases hw
      · rw [e, oget_6_bad _ _ ha] at hw; exact absurd hw ha
    · have e := oget_7 (xs.drop (at_ + 1)) z
      rw [← h0, ← hd] at e
      rw [e] at hw ⊢
      by_cases ha : (Adr.aspec (xs.drop (at_ + 1)) z).2.1 = 0
      · rw [if_pos ha]
        exact (rg_7 ad cap at_ z w hB hl hat h0 h8 ha).mono fun e w' ⟨he, hg⟩ => ⟨none, 0, 0, he, own_none _ _, hg⟩
      · rw [if_neg ha] at hw; exact absurd hw ha
  · rw [drop_none hat] at hw; cases hw
/-- What the document's Get answers of what is none. -/
theorem rgot_wrong {xs : List Nat} (ad : Option Addr) (cap at_ z : Nat) (w : World) (hB : BytesIn w (.slice ad xs.length cap) xs) (hl : xs.length < 1000000) (h8 : ∀ x ∈ xs, x < 256) (hle : at_ ≤ xs.length) (hw : (oget (xs.drop at_) z).2.2 ≠ 0) :
    Calls Tryz.prog 20 #[.slice ad xs.length cap, .int .i64 (at_ : Int), .int .i64 (z : Int)] w fun e w' => e = .returned (.tuple #[.agg #[.int .i64 0, .slice none 0 0, .bool false, .bool false, .int .i64 0, .bool false, .int .i64 0, .int .u8 0], .int .i64 ((at_ + (oget (xs.drop at_) z).2.1 : Nat) : Int), .int .i64 ((oget (xs.drop at_) z).2.2 : Int), .int .i64 ((at_ + (oget (xs.drop at_) z).2.1 : Nat) : Int)]) ∧ Below w.heap.size w w' := by
  by_cases hat : at_ < xs.length
  · have hb := byte_lt h8 (by decide) at_
    have hd := drop_cons hat
    rcases kinds _ hb with ⟨hk, h0, h1, h2, h3, h4, h5, h6⟩ | ⟨hk, h0⟩ | ⟨hk, h0⟩ | ⟨hk, h0⟩ | ⟨hk, h0⟩ | ⟨hk, h0⟩ | ⟨hk, h0⟩ | ⟨hk, h0⟩
    · have e : oget (xs.drop at_) z = (none_, 0, 5) := by rw [hd]; exact oget_strange h0 h1 h2 h3 h4 h5 h6
      rw [e]
      exact rg_strange ad cap at_ z w hB hl hat _ rfl hb h0 h1 h2 h3 h4 h5 h6
    · rw [hd, oget_char h0] at hw; exact absurd rfl hw
    · rw [hd, h0] at hw
      by_cases hl2 : at_ + 1 < xs.length
      · have hd2 := drop_cons hl2
        have hb2 := byte_lt h8 (by decide) (at_ + 1)
        rw [hd2] at hw
        cases hn : noAttr (xs.getD (at_ + 1) 0) with
        | true =>
          have e : oget (xs.drop at_) z = (none_, 1, 3) := by rw [hd, h0, hd2]; exact oget_2_bad _ _ _ hn
          rw [e]
          exact rg_2_bad ad cap at_ z w hB hl hat h0 hl2 _ rfl hb2 hn
        | false =>
          obtain ⟨p, n, m, s, hs, hp⟩ := attr_cases _ hb2 hn
          rw [hp, oget_2 p n m s hs] at hw; exact absurd rfl hw
      · have e : oget (xs.drop at_) z = (none_, 1, 2) := by rw [hd, h0, drop_none hl2]; exact oget_2_none _
        rw [e]
        exact rg_2_none ad cap at_ z w hB hl hat h0 (by omega)
    · have e := oget_3 (xs.drop (at_ + 1)) z
      rw [← h0, ← hd] at e
      rw [e] at hw ⊢
      by_cases ha : (Adr.aspec (xs.drop (at_ + 1)) z).2.1 = 0
      · rw [if_pos ha] at hw; exact absurd rfl hw
      · rw [if_neg ha]
        exact rg_3_bad ad cap at_ z w hB hl hat h0 h8 ha
    · have e := oget_4 (xs.drop (at_ + 1)) z
      rw [← h0, ← hd] at e
      rw [e] at hw
      exact absurd rfl hw
    · have e := oget_5 (xs.drop (at_ + 1)) z
      rw [show (5 : Nat) :: xs.drop (at_ + 1) = xs.drop at_ by rw [hd, h0]] at e
      rw [e] at hw
      exact absurd rfl hw
    · have e : xs.drop at_ = 60 :: xs.drop (at_ + 1) := by rw [hd, h0]
      by_cases ha : (Adr.aspec (xs.drop (at_ + 1)) z).2.1 = 0
      · by_cases hl4 : at_ + 3 < xs.length
        · have hd4 : (xs.drop (at_ + 1)).drop 2 = xs.getD (at_ + 3) 0 :: xs.drop (at_ + 4) := by rw [List.drop_drop, show at_ + 1 + 2 = at_ + 3 by omega]; exact drop_cons hl4
          have e2 := oget_6_cons (xs.drop (at_ + 1)) z _ _ ha hd4
          rw [← e] at e2
          rw [e2] at hw ⊢
          cases hc : char (xs.getD (at_ + 3) 0) with
          | true => rw [hc] at hw; exact absurd rfl hw
          | false =>
            rw [if_neg (by decide)]
            exact rg_6_char ad cap at_ z w hB hl hat h0 h8 ha hl4 _ rfl hc
        · have hd4 : (xs.drop (at_ + 1)).drop 2 = [] := by rw [List.drop_drop]; exact drop_none (by omega)
          have e2 : oget (xs.drop at_) z = (none_, 3, 2) := by rw [e]; exact oget_6_none _ _ ha hd4
          rw [e2]
          have h3 : at_ + 3 = xs.length := by
            obtain ⟨_, r, _, _, hr, _⟩ := Adr.put_aspec (xs.drop (at_ + 1)) z (fun y hy => h8 y (List.mem_of_mem_drop hy)) ha
            have h := congrArg List.length hr
            rw [List.length_drop] at h
            simp only [List.length_cons] at h
            omega
          exact rg_6_none ad cap at_ z w hB hl hat h0 h8 ha h3
      · have e2 : oget (xs.drop at_) z = (none_, 1, (Adr.aspec (xs.drop (at_ + 1)) z).2.1) := by rw [e]; exact oget_6_bad _ _ ha
        rw [e2]
        exact rg_6_bad ad cap at_ z w hB hl hat h0 h8 ha
    · have e := oget_7 (xs.drop (at_ + 1)) z
      rw [← h0, ← hd] at e
      rw [e] at hw ⊢
      by_cases ha : (Adr.aspec (xs.drop (at_ + 1)) z).2.1 = 0
      · rw [if_pos ha] at hw; exact absurd rfl hw
      · rw [if_neg ha]
        exact rg_7_bad ad cap at_ z w hB hl hat h0 h8 ha
  · have e : oget (xs.drop at_) z = (none_, 0, 2) := by rw [drop_none hat]; rfl
    rw [e]
    exact rg_none ad cap at_ z w hB hl (by omega)
end Ord
end Go.Proofs.YtmllmmamdkjndaaGreatDoor
