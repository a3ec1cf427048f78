/- The walk of MacKeeps. -/
import Derived.Test.YtmfecicapaiaeaaMacAwake
namespace Go.Proofs.Ytmfecicapaiaeaa
open Go.RowKit
namespace Sha
theorem alloc_row (w : World) (T : TypeId) (C D : List Nat) (hD : D.length = C.length) : ∃ w', (w.alloc (.cells (u8s C).toArray T)).setCells w.heap.size 0 (u8s D).toArray.toList = w' ∧ w'.heap[w.heap.size]? = some (.cells (u8s D).toArray T (0, 0)) ∧ Below w.heap.size w w' :=
  ⟨_, rfl, put_row hD (heap_alloc_new w _), below_setCells _ (Nat.le_refl _) _ 0 _ ((Below.refl _ _).alloc (Nat.le_refl _) _)⟩
set_option maxRecDepth 100000 in
set_option maxHeartbeats 1000000 in
theorem mkeeps_long0 (a0 : Option Addr) (len0 cap0 : Nat) (a1 : Option Addr) (len1 cap1 : Nat) (w : World) (hl : len0 ≤ maxLen) (h : 200 < len0) :
    Calls Try.prog 11 #[.slice a0 len0 cap0, .slice a1 len1 cap1] w fun e w' => e = .returned (.bool true) ∧ Below w.heap.size w w' := by
  unfold maxLen at hl
  have hg : decide ((200 : Int) < (len0 : Int)) = true := by simp; omega
  go_enter Try.func11, Try.ntmps11
  go_wp2_with fail
  refine (awake2_any _).mono ?_
  rintro e w1 ⟨rfl, hb1⟩
  have B1 := Lib.hid hb1
  clear hb1
  go_wp2_with fail
  refine (awake2_any _).mono ?_
  rintro e w2 ⟨rfl, hb2⟩
  have B2 := Lib.hid (B1.out.trans (hb2.mono B1.out.size))
  clear hb2
  go_wp2_with fail
  go_ret
  exact ⟨rfl, B2.out⟩
set_option maxRecDepth 100000 in
set_option maxHeartbeats 1000000 in
theorem mkeeps_long1 (a0 : Option Addr) (len0 cap0 : Nat) (a1 : Option Addr) (len1 cap1 : Nat) (w : World) (hl : len1 ≤ maxLen) (h0 : len0 ≤ 200) (h : 300 < len1) :
    Calls Try.prog 11 #[.slice a0 len0 cap0, .slice a1 len1 cap1] w fun e w' => e = .returned (.bool true) ∧ Below w.heap.size w w' := by
  unfold maxLen at hl
  have hg0 : decide ((200 : Int) < (len0 : Int)) = false := by simp; omega
  have hg : decide ((300 : Int) < (len1 : Int)) = true := by simp; omega
  go_enter Try.func11, Try.ntmps11
  go_wp2_with fail
  refine (awake2_any _).mono ?_
  rintro e w1 ⟨rfl, hb1⟩
  have B1 := Lib.hid hb1
  clear hb1
  go_wp2_with fail
  refine (awake2_any _).mono ?_
  rintro e w2 ⟨rfl, hb2⟩
  have B2 := Lib.hid (B1.out.trans (hb2.mono B1.out.size))
  clear hb2
  go_wp2_with fail
  go_ret
  exact ⟨rfl, B2.out⟩
set_option maxRecDepth 100000 in
set_option maxHeartbeats 4000000 in
theorem mkeeps_main (a0 : Option Addr) (len0 cap0 : Nat) (a1 : Option Addr) (len1 cap1 : Nat) (w : World) (h0 : len0 ≤ 200) (h1 : len1 ≤ 300) (xs ys : List Nat) (hx : xs.length = len0) (hy : ys.length = len1)
    (hx8 : ∀ x ∈ xs, x < 256) (hy8 : ∀ x ∈ ys, x < 256) (hbx : BytesIn w (.slice a0 len0 cap0) xs) (hby : BytesIn w (.slice a1 len1 cap1) ys) (hn0 : a0 = none → len0 = 0 ∧ cap0 = 0) (hn1 : a1 = none → len1 = 0 ∧ cap1 = 0) :
    Calls Try.prog 11 #[.slice a0 len0 cap0, .slice a1 len1 cap1] w fun e w' => e = .returned (.bool true) ∧ Below w.heap.size w w' := by
  have hg0 : decide ((200 : Int) < (len0 : Int)) = false := by simp; omega
  have hg1 : decide ((300 : Int) < (len1 : Int)) = false := by simp; omega
  have HX := Lib.hid hx
  have HY := Lib.hid hy
  have HX8 := Lib.hid hx8
  have HY8 := Lib.hid hy8
  have HBX := Lib.hid hbx
  have HBY := Lib.hid hby
  have HN0 := Lib.hid hn0
  have HN1 := Lib.hid hn1
  clear hx hy hx8 hy8 hbx hby hn0 hn1
  go_enter Try.func11, Try.ntmps11
  go_wp2_with fail
  refine (awake2_any _).mono ?_
  rintro e w1 ⟨rfl, hb1⟩
  have B1 := Lib.hid hb1
  have HX1 := Lib.hid (bytes_below HBX.out hb1)
  have HY1 := Lib.hid (bytes_below HBY.out hb1)
  have BR := Lib.hid (Below.refl w1.heap.size w1)
  clear hb1 HBX HBY
  go_upto_region 3 with (fail)
  refine wp_region_lit ?_
  refine wpList_plain rfl (fun K hK => ?_)
  go_simp
  refine hK _ _ ?_
  clear hK K
  refine wpList_plain rfl (fun K hK => ?_)
  go_simp
  refine hK _ _ ?_
  clear hK K
  have HMI5 := Lib.hid (World.ownsRow_lit (e := 5) (base := w1.heap.size) (size := 1) w1 #[] 0 (BR.out.size) (Nat.zero_le _) rfl)
  have L5 := Lib.hid (BR.out.alloc BR.out.size (.cells #[] 5))
  refine append_law rfl (.tmp 23) (.tmp 24) rfl w1.heap.size _ 0 [] rfl HMI5.out a0 len0 cap0 xs rfl HX.out HN0.out (bytes_src (bytes_below HX1.out L5.out)) (by omega) (by have := BR.out.size; first | (simp; done) | (simp; omega)) ?_
  intro v5 w5 hown5 hg5 hv5
  rw [Nat.zero_add, List.nil_append] at hown5
  obtain ⟨a5, c5, rfl⟩ := own_form' hown5
  have O5 := Lib.hid hown5
  have B5 := Lib.hid (show Below w1.heap.size w1 w5 from L5.out.grown hg5 (by have := BR.out.size; first | (simp; done) | (simp; omega)) (own_ge HMI5.out))
  clear hown5 hg5 hv5 HMI5 L5
  have HK5 := Lib.hid (own_bytes_n O5.out HX.out)
  have HX5 := Lib.hid (bytes_below HX1.out B5.out)
  have HY5 := Lib.hid (bytes_below HY1.out B5.out)
  have BS := Lib.hid (Below.refl w5.heap.size w5)
  clear O5 HX1 HY1 BR
  go_upto_region 4 with (fail)
  refine wp_region_lit ?_
  refine wpList_plain rfl (fun K hK => ?_)
  go_simp
  refine hK _ _ ?_
  clear hK K
  refine wpList_plain rfl (fun K hK => ?_)
  go_simp
  refine hK _ _ ?_
  clear hK K
  have HMI6 := Lib.hid (World.ownsRow_lit (e := 5) (base := w5.heap.size) (size := 1) w5 #[] 0 (BS.out.size) (Nat.zero_le _) rfl)
  have L6 := Lib.hid (BS.out.alloc BS.out.size (.cells #[] 5))
  refine append_law rfl (.tmp 26) (.tmp 27) rfl w5.heap.size _ 0 [] rfl HMI6.out a1 len1 cap1 ys rfl HY.out HN1.out (bytes_src (bytes_below HY5.out L6.out)) (by omega) (by have := BS.out.size; first | (simp; done) | (simp; omega)) ?_
  intro v6 w6 hown6 hg6 hv6
  rw [Nat.zero_add, List.nil_append] at hown6
  obtain ⟨a6, c6, rfl⟩ := own_form' hown6
  have O6 := Lib.hid hown6
  have B6 := Lib.hid (show Below w5.heap.size w5 w6 from L6.out.grown hg6 (by have := BS.out.size; first | (simp; done) | (simp; omega)) (own_ge HMI6.out))
  clear hown6 hg6 hv6 HMI6 L6
  have HT6 := Lib.hid (own_bytes_n O6.out HY.out)
  have HK6 := Lib.hid (bytes_below HK5.out B6.out)
  have HX6 := Lib.hid (bytes_below HX5.out B6.out)
  have HY6 := Lib.hid (bytes_below HY5.out B6.out)
  have B16 := Lib.hid (B1.out.trans ((B5.out.trans (B6.out.mono B5.out.size)).mono B1.out.size))
  clear O6 HX5 HY5 HK5 BS B1 B5 B6
  have HPP := Lib.hid (parts_laid_in (Below.refl _ w6) [.slice a6 len1 c6, .slice none 0 0, .slice a6 len1 c6] [ys, [], ys] rfl (fun | 0, _ => HT6.out | 1, _ => ⟨none, 0, rfl, Nat.le_refl _, .inl rfl⟩ | 2, _ => HT6.out) 3 rfl)
  have HB7 := Lib.hid (show Below w6.heap.size w6 (w6.alloc (.cells #[.slice a6 len1 c6, .slice none 0 0, .slice a6 len1 c6] 22)) from (Below.refl _ _).alloc (Nat.le_refl _) _)
  have HROW := Lib.hid (heap_alloc_new w6 (.cells #[.slice a6 len1 c6, .slice none 0 0, .slice a6 len1 c6] 22))
  have HP8 := Lib.hid (show ∀ p ∈ [ys, [], ys], ∀ x ∈ p, x < 256 by simpa using HY8.out)
  have HFL := Lib.hid (show [ys, [], ys].flatten.length < 1000 by have := HY.out; simp; omega)
  go_upto_region 6 with (fail)
  change Code.wp _ _ _ _ (w6.alloc (.cells [Value.slice a6 len1 c6, .slice none 0 0, .slice a6 len1 c6].toArray 22))
  generalize w6.alloc (.cells [Value.slice a6 len1 c6, .slice none 0 0, .slice a6 len1 c6].toArray 22) = w7 at HPP HB7 HROW
  have HK7 := Lib.hid (bytes_below HK6.out HB7.out)
  have HT7 := Lib.hid (bytes_below HT6.out HB7.out)
  have HX7 := Lib.hid (bytes_below HX6.out HB7.out)
  have HY7 := Lib.hid (bytes_below HY6.out HB7.out)
  have B7 := Lib.hid (B16.out.trans (HB7.out.mono B16.out.size))
  clear HK6 HT6 HX6 HY6 HB7 B16
  generalize w6.heap.size = P at HPP HROW
  generalize [ys, [], ys] = pp at HPP HP8 HFL
  have HPL := Lib.hid (show pp.length < 1000000 by obtain ⟨_, _, hv, _⟩ := HPP.out; injection hv with _ e2 _; omega)
  have HDL := Lib.hid (hmac_length xs pp.flatten)
  have HE := Lib.hid (fun w => eql_refl (hmac xs pp.flatten) (hmac_length _ _) w)
  go_wp2_with fail
  refine (code_any a5 len0 c5 xs _ pp _ HK7.out HX8.out (by omega) HPP.out HP8.out (by have := HFL.out; omega) HPL.out).mono ?_
  rintro e w8 ⟨rfl, hb8⟩
  have B78 := Lib.hid hb8
  clear hb8
  generalize hD : hmac xs pp.flatten = D at HDL HE ⊢
  have HD := Lib.hid hD
  clear hD
  dsimp only
  rename_i hK
  refine hK _ _ ?_
  clear hK
  refine wpList_plain rfl (fun K hK => ?_)
  go_simp
  refine hK _ _ ?_
  clear hK K
  have hsz : (u8s D).toArray.size = 32 := by rw [List.size_toArray, u8s_length, HDL.out]
  change wpList _ _ _ _ _ (w8.alloc (.cells (u8s (pad 32 [])).toArray 25))
  refine wpList_store_mid rfl 25 _ _ rfl w8.heap.size 0 _ rfl rfl (there_of_block (heap_alloc_new w8 (.cells (u8s (pad 32 [])).toArray 25)) 0 _ (by rw [hsz]; decide)) (by rw [hsz]; kernel_rfl) (u8s_cells _) ?_
  obtain ⟨w9, hw, hrow, hbel⟩ := alloc_row w8 25 (pad 32 []) D (by rw [HDL.out, pad_length (by decide)])
  change wpList _ _ _ _ _ ((w8.alloc (.cells (u8s (pad 32 [])).toArray 25)).setCells w8.heap.size 0 (u8s D).toArray.toList)
  rw [hw]
  have Rw9 := Lib.hid hrow
  have Ew9 := Lib.hid hbel
  clear hw hrow hbel hsz
  have B79 := Lib.hid (B78.out.trans (Ew9.out.mono B78.out.size))
  clear B78
  go_wp2_with fail
  refine (code_any a5 len0 c5 xs _ pp _ (bytes_below HK7.out B79.out) HX8.out (by omega) (parts_below HPP.out B79.out) HP8.out (by have := HFL.out; omega) HPL.out).mono ?_
  rintro e w10 ⟨rfl, hb10⟩
  rw [HD.out]
  have R10 := Lib.hid ((hb10.block _ (lt_of_heap Rw9.out)).trans Rw9.out)
  have B710 := Lib.hid (B79.out.trans (hb10.mono B79.out.size))
  clear hb10 B79 Rw9 Ew9
  generalize w8.heap.size = Na at R10
  dsimp only
  rename_i hK
  refine hK _ _ ?_
  clear hK
  refine wpList_plain rfl (fun K hK => ?_)
  go_simp
  refine hK _ _ ?_
  clear hK K
  have hsz : (u8s D).toArray.size = 32 := by rw [List.size_toArray, u8s_length, HDL.out]
  change wpList _ _ _ _ _ (w10.alloc (.cells (u8s (pad 32 [])).toArray 25))
  refine wpList_store_mid rfl 25 _ _ rfl w10.heap.size 0 _ rfl rfl (there_of_block (heap_alloc_new w10 (.cells (u8s (pad 32 [])).toArray 25)) 0 _ (by rw [hsz]; decide)) (by rw [hsz]; kernel_rfl) (u8s_cells _) ?_
  obtain ⟨w11, hw, hrow, hbel⟩ := alloc_row w10 25 (pad 32 []) D (by rw [HDL.out, pad_length (by decide)])
  change wpList _ _ _ _ _ ((w10.alloc (.cells (u8s (pad 32 [])).toArray 25)).setCells w10.heap.size 0 (u8s D).toArray.toList)
  rw [hw]
  have Rw11 := Lib.hid hrow
  have Ew11 := Lib.hid hbel
  clear hw hrow hbel hsz
  have Q11 := Lib.hid ((Ew11.out.block _ (lt_of_heap R10.out)).trans R10.out)
  have B711 := Lib.hid (B710.out.trans (Ew11.out.mono B710.out.size))
  clear B710 R10 Ew11
  generalize w10.heap.size = Nb at Rw11
  have HK := Lib.hid (bytes_below HK7.out B711.out)
  have HT := Lib.hid (bytes_below HT7.out B711.out)
  have HX' := Lib.hid (bytes_below HX7.out B711.out)
  have HY' := Lib.hid (bytes_below HY7.out B711.out)
  have HR := Lib.hid ((B711.out.block _ (lt_of_heap HROW.out)).trans HROW.out)
  have BF := Lib.hid (B7.out.trans (B711.out.mono B7.out.size))
  clear HK7 HT7 HX7 HY7 B711 B7 HROW HPP
  have hsz : (u8s D).toArray.size = 32 := by rw [List.size_toArray, u8s_length, HDL.out]
  have HSZ := Lib.hid hsz
  clear hsz
  go_upto_region 8 with (fail)
  refine wp_region_lit ?_
  refine wpList_load_row rfl 25 _ rfl Na rfl 25 _ _ _ Q11.out Try.underlying25 rfl (by rw [HSZ.out]; kernel_rfl) ?_
  refine wpList_load_row rfl 25 _ rfl Nb rfl 25 _ _ _ Rw11.out Try.underlying25 rfl (by rw [HSZ.out]; kernel_rfl) ?_
  have heq := HE.out
  go_wp2_with fail
  refine (same_any _ _ xs _ HK.out HX'.out HX8.out (by have := HX.out; omega)).mono ?_
  rintro e w12 ⟨rfl, k1, hw12⟩
  have HT12 := Lib.hid (show BytesIn w12 (.slice a6 len1 c6) ys by rw [hw12]; exact HT.out)
  have HY12 := Lib.hid (show BytesIn w12 (.slice a1 len1 cap1) ys by rw [hw12]; exact HY'.out)
  have HR12 := Lib.hid (show w12.heap[P]? = some (.cells #[.slice a6 len1 c6, .slice none 0 0, .slice a6 len1 c6] 22) by rw [hw12]; exact HR.out)
  have B12 := Lib.hid (show Below w.heap.size w w12 by rw [hw12]; exact below_drewN BF.out k1)
  clear hw12 heq
  go_wp2_with fail
  refine (same_any _ _ ys _ HT12.out HY12.out HY8.out (by have := HY.out; omega)).mono ?_
  rintro e w13 ⟨rfl, k2, hw13⟩
  have hc : w13.cell? ⟨P, 1, none⟩ = some (.slice none 0 0) := cell_of_row w13 P 1 _ _ _ (show w13.heap[P]? = some (.cells #[.slice a6 len1 c6, .slice none 0 0, .slice a6 len1 c6] 22) by rw [hw13]; exact HR12.out)
  have B13 := Lib.hid (show Below w.heap.size w w13 by rw [hw13]; exact below_drewN B12.out k2)
  clear hw13
  go_wp2_with fail
  go_ret
  exact ⟨rfl, B13.out⟩
theorem mkeeps_walk (a0 : Option Addr) (len0 cap0 : Nat) (z0 : List Int) (a1 : Option Addr) (len1 cap1 : Nat) (z1 : List Int) (w : World) (w0 : IsRow .u8 w a0 len0 cap0 z0) (w1 : IsRow .u8 w a1 len1 cap1 z1) :
    Calls Try.prog 11 #[.slice a0 len0 cap0, .slice a1 len1 cap1] w fun e w' => e = .returned (.bool true) ∧ Below w.heap.size w w' := by
  rcases Nat.lt_or_ge 200 len0 with h0 | h0
  · exact mkeeps_long0 a0 len0 cap0 a1 len1 cap1 w (isRow_le w0) h0
  · rcases Nat.lt_or_ge 300 len1 with h1 | h1
    · exact mkeeps_long1 a0 len0 cap0 a1 len1 cap1 w (isRow_le w1) h0 h1
    · obtain ⟨xs, hx, hx8, hbx⟩ := isRow_bytes w0
      obtain ⟨ys, hy, hy8, hby⟩ := isRow_bytes w1
      exact mkeeps_main a0 len0 cap0 a1 len1 cap1 w h0 h1 xs ys hx hy hx8 hy8 hbx hby (isRow_nil w0) (isRow_nil w1)
end Sha
end Go.Proofs.Ytmfecicapaiaeaa
