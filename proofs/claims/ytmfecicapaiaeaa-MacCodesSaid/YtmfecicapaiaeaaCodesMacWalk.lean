/- The walk of MacCodes. -/
import Derived.Test.YtmfecicapaiaeaaRefTag
import Derived.Test.YtmfecicapaiaeaaLongMacWalk
namespace Go.Proofs.Ytmfecicapaiaeaa
open Go.RowKit
namespace Sha
def Free16 (w : World) (M : Nat) : Prop := w.heap[M]? = some (.cells (u8s (pad 16 [])).toArray 37 (0, 0))
theorem free16_new (w : World) : Free16 (w.alloc (.cells (u8s (pad 16 [])).toArray 37)) w.heap.size := heap_alloc_new w _
theorem free16_bd (w : World) (P : Obj) : Free16 (((w.alloc P).alloc (.cells (u8s (pad 16 [])).toArray 37)).drew) (w.heap.size + 1) := heap_alloc2_new w _ _
theorem free16_cd (w : World) (P : Obj) : Free16 (((w.alloc (.cells (u8s (pad 16 [])).toArray 37)).alloc P).drew) w.heap.size := heap_alloc2_old w _ _
theorem free16_below {w w' : World} {M : Nat} (h : Free16 w M) (hb : Below w.heap.size w w') : Free16 w' M := (hb.block _ (lt_of_heap h)).trans h
theorem free16_there {w : World} {M : Nat} (h : Free16 w M) : w.there M 0 16 := there_of_block h 0 16 (by decide)
theorem both16 {w1 w : World} {M : Nat} {D : List Nat} (h : Below w1.heap.size w1 (w.setCells M 0 (u8s D))) (hD : D.length = 16) (hf : Free16 w M) :
    ∃ wz, w.setCells M 0 (u8s D) = wz ∧ ∃ M', wz.heap[M]? = some (.cells (u8s D).toArray 37 (0, 0)) ∧ M' = M ∧ Below w1.heap.size w1 wz :=
  ⟨_, rfl, M, put_row (D := D) (by rw [hD, pad_length (by decide)]) hf, rfl, h⟩
section
variable {w : World} {v1 v2 : Value} {l1 l2 : List Nat}
theorem twop_ad (h1 : BytesIn (w.alloc (.cells #[v1, v2] 22)).drew v1 l1) (h2 : BytesIn (w.alloc (.cells #[v1, v2] 22)).drew v2 l2) : PartsIn (w.alloc (.cells #[v1, v2] 22)).drew (.slice (some ⟨w.heap.size, 0, none⟩) 2 2) [l1, l2] :=
  parts_two (w := w.alloc _) (heap_alloc_new w _) h1 h2
theorem twop_bd {Z : Obj} (h1 : BytesIn ((w.alloc Z).alloc (.cells #[v1, v2] 22)).drew v1 l1) (h2 : BytesIn ((w.alloc Z).alloc (.cells #[v1, v2] 22)).drew v2 l2) : PartsIn ((w.alloc Z).alloc (.cells #[v1, v2] 22)).drew (.slice (some ⟨w.heap.size + 1, 0, none⟩) 2 2) [l1, l2] :=
  parts_two (w := (w.alloc Z).alloc _) (heap_alloc2_new w _ _) h1 h2
theorem twop_cd {Z : Obj} (h1 : BytesIn ((w.alloc (.cells #[v1, v2] 22)).alloc Z).drew v1 l1) (h2 : BytesIn ((w.alloc (.cells #[v1, v2] 22)).alloc Z).drew v2 l2) : PartsIn ((w.alloc (.cells #[v1, v2] 22)).alloc Z).drew (.slice (some ⟨w.heap.size, 0, none⟩) 2 2) [l1, l2] :=
  parts_two (w := (w.alloc (.cells #[v1, v2] 22)).alloc Z) (heap_alloc2_old w _ _) h1 h2
end
theorem same_b (v1 v2 : Value) (xs : List Nat) (w : World) (h1 : BytesIn w v1 xs) (h2 : BytesIn w v2 xs) (hx8 : ∀ x ∈ xs, x < 256) (hl : xs.length < 1000000) :
    Calls Try.prog 19 #[v1, v2] w fun e w' => e = .returned (.bool true) ∧ Below w.heap.size w w' :=
  (same_any v1 v2 xs w h1 h2 hx8 hl).mono fun _ _ ⟨he, k, hw⟩ => ⟨he, by rw [hw]; exact below_drewN (Below.refl _ _) k⟩
set_option maxRecDepth 100000 in
set_option maxHeartbeats 1000000 in
theorem mcodes_long0 (a0 : Option Addr) (len0 cap0 : Nat) (a1 : Option Addr) (len1 cap1 : Nat) (c : Int) (w : World) (hl : len0 ≤ maxLen) (h : 200 < len0) :
    Calls Try.prog 8 #[.slice a0 len0 cap0, .slice a1 len1 cap1, .int .u16 c] w fun e w' => e = .returned (.bool true) ∧ Below w.heap.size w w' := by
  unfold maxLen at hl
  have hg : decide ((200 : Int) < (len0 : Int)) = true := by simp; omega
  go_enter Try.func8, Try.ntmps8
  go_wp2_with fail
  refine (awake2_any _).mono ?_
  rintro e w1 ⟨rfl, hb1⟩
  have B1 := Lib.hid hb1
  clear hb1
  go_wp2_with fail
  refine (awake2_any _).mono ?_
  rintro e w2 ⟨rfl, hb2⟩
  have B2 := Lib.hid (B1.out.trans (hb2.mono B1.out.size))
  clear hb2
  go_wp2_with fail
  go_ret
  exact ⟨rfl, B2.out⟩
set_option maxRecDepth 100000 in
set_option maxHeartbeats 1000000 in
theorem mcodes_long1 (a0 : Option Addr) (len0 cap0 : Nat) (a1 : Option Addr) (len1 cap1 : Nat) (c : Int) (w : World) (hl : len1 ≤ maxLen) (h0 : len0 ≤ 200) (h : 300 < len1) :
    Calls Try.prog 8 #[.slice a0 len0 cap0, .slice a1 len1 cap1, .int .u16 c] w fun e w' => e = .returned (.bool true) ∧ Below w.heap.size w w' := by
  unfold maxLen at hl
  have hg0 : decide ((200 : Int) < (len0 : Int)) = false := by simp; omega
  have hg : decide ((300 : Int) < (len1 : Int)) = true := by simp; omega
  go_enter Try.func8, Try.ntmps8
  go_wp2_with fail
  refine (awake2_any _).mono ?_
  rintro e w1 ⟨rfl, hb1⟩
  have B1 := Lib.hid hb1
  clear hb1
  go_wp2_with fail
  refine (awake2_any _).mono ?_
  rintro e w2 ⟨rfl, hb2⟩
  have B2 := Lib.hid (B1.out.trans (hb2.mono B1.out.size))
  clear hb2
  go_wp2_with fail
  go_ret
  exact ⟨rfl, B2.out⟩
set_option maxRecDepth 100000 in
set_option maxHeartbeats 8000000 in
theorem mcodes_main (a0 : Option Addr) (len0 cap0 : Nat) (a1 : Option Addr) (len1 cap1 : Nat) (c k : Nat) (w : World) (h0 : len0 ≤ 200) (h1 : len1 ≤ 300) (hc : c < 65536) (hk : c % (len1 + 1) = k) (xs ys : List Nat) (hx : xs.length = len0) (hy : ys.length = len1)
    (hx8 : ∀ x ∈ xs, x < 256) (hy8 : ∀ x ∈ ys, x < 256) (hbx : BytesIn w (.slice a0 len0 cap0) xs) (hby : BytesIn w (.slice a1 len1 cap1) ys) (hn0 : a0 = none → len0 = 0 ∧ cap0 = 0) (hn1 : a1 = none → len1 = 0 ∧ cap1 = 0) :
    Calls Try.prog 8 #[.slice a0 len0 cap0, .slice a1 len1 cap1, .int .u16 (c : Int)] w fun e w' => e = .returned (.bool true) ∧ Below w.heap.size w w' := by
  have hg0 : decide ((200 : Int) < (len0 : Int)) = false := by simp; omega
  have hg1 : decide ((300 : Int) < (len1 : Int)) = false := by simp; omega
  have hkl : k ≤ len1 := by rw [← hk]; have := Nat.mod_lt c (show 0 < len1 + 1 by omega); omega
  have hkc : (c : Int) % ((len1 : Int) + 1) = (k : Int) := by rw [← hk]; simp
  have hlc : len1 ≤ cap1 := by obtain ⟨_, _, hv, h, _⟩ := hby; injection hv with _ _ e3; omega
  have HH := Lib.hid (fun w => (run_slice_only _ _ _ _).symm.trans (run_cut_h a1 len1 cap1 k (by omega) w))
  have HL := Lib.hid (fun w => (run_slice_only _ _ _ _).symm.trans (run_cut_l a1 len1 cap1 k hkl w))
  have HBH := Lib.hid (bytes_h hby hkl)
  have HBL := Lib.hid (bytes_l hby hkl)
  have HXX := Lib.hid (show [ys.take k, ys.drop k].flatten = ys by simp)
  have HY9 := Lib.hid (show ∀ p ∈ [ys.take k, ys.drop k], ∀ x ∈ p, x < 256 by
    intro p hp x hxp
    simp only [List.mem_cons, List.not_mem_nil, or_false] at hp
    rcases hp with rfl | rfl
    · exact hy8 x (List.mem_of_mem_take hxp)
    · exact hy8 x (List.mem_of_mem_drop hxp))
  have HX := Lib.hid hx
  have HY := Lib.hid hy
  have HX8 := Lib.hid hx8
  have HY8 := Lib.hid hy8
  have HBX := Lib.hid hbx
  have HBY := Lib.hid hby
  have HN0 := Lib.hid hn0
  have HN1 := Lib.hid hn1
  clear hx hy hx8 hy8 hbx hby hn0 hn1 hk
  go_enter Try.func8, Try.ntmps8
  go_wp2_with fail
  refine (awake2_any _).mono ?_
  rintro e w1 ⟨rfl, hb1⟩
  have B1 := Lib.hid hb1
  have HBX1 := Lib.hid (bytes_below HBX.out hb1)
  have HBY1 := Lib.hid (bytes_below HBY.out hb1)
  have HBH1 := Lib.hid (bytes_below HBH.out hb1)
  have HBL1 := Lib.hid (bytes_below HBL.out hb1)
  clear hb1 HBX HBY HBH HBL
  go_wp2_with fail
  rw [hkc]
  clear hkc hkl hlc
  have hh := HH.out
  have hlo := HL.out
  generalize cutA a1 k cap1 = a2 at hlo HBL1 HL
  have HEL := Lib.hid (hmac_length xs ys)
  have heq := fun w => eql_refl (hmac xs ys) (hmac_length _ _) w
  have hE8 : ∀ x ∈ (hmac xs ys).take 16, x < 256 := fun x hx => hmac_small _ _ x (List.mem_of_mem_take hx)
  generalize hE : hmac xs ys = E at HEL heq hE8
  have HE := Lib.hid hE
  have HTL := Lib.hid (show (E.take 16).length = 16 by rw [List.length_take, HEL.out]; decide)
  have HT8 := Lib.hid hE8
  have HEQ := Lib.hid heq
  clear hE hE8 heq
  have hDl : (u8s (E.take 16)).length = 16 := by rw [u8s_length, HTL.out]
  have hDi : (Try.prog.info? 37).map (·.size) = some (u8s (E.take 16)).length := by rw [hDl]; kernel_rfl
  have hD1 : ∀ v ∈ u8s (E.take 16), v.oneCell' = true := u8s_one _
  go_region_held3 (fun w' => Below w1.heap.size w1 w')
    (first | exact (Below.refl _ _).drew | exact below_tr (by assumption) hb | exact below_al (by assumption) _ | exact below_setCells _ (by first | exact Nat.le_refl _ | exact Nat.le_succ _ | exact hwge) _ _ _ (by assumption))
    ((go_at_call 21; have hS := (by assumption : Below w1.heap.size w1 _); refine (tag_any a0 len0 cap0 xs _ [ys.take k, ys.drop k] _ (bytes_below HBX1.out hS) HX8.out (by omega) (by first | exact twop_ad (bytes_below HBH1.out hS) (bytes_below HBL1.out hS) | exact twop_bd (bytes_below HBH1.out hS) (bytes_below HBL1.out hS) | exact twop_cd (bytes_below HBH1.out hS) (bytes_below HBL1.out hS)) HY9.out (by rw [HXX.out]; have := HY.out; omega) (by simp)).mono ?_; rintro e wt ⟨rfl, hb⟩; rw [HXX.out, HE.out]; have hwge := Nat.le_trans hS.size hb.size; (first | (have hf := free16_below (free16_bd _ _) hb; have hth := free16_there hf) | (have hf := free16_below (free16_cd _ _) hb; have hth := free16_there hf) | have hth := free16_there (free16_new wt))))
  all_goals
    have hS := (by assumption : Below w1.heap.size w1 _)
    (first | have hq := both16 hS HTL.out hf | have hq := both16 hS HTL.out (free16_new wt))
    obtain ⟨wz, hwz, M, hdz, hM, hbz⟩ := hq
    rw [hwz]
    rw [← hM] at hdz ⊢
    clear hS hM
    have HDZ := Lib.hid hdz
    have BZ := Lib.hid (below_tr B1.out hbz)
    have HBXZ := Lib.hid (bytes_below HBX1.out hbz)
    have HBYZ := Lib.hid (bytes_below HBY1.out hbz)
    have HBHZ := Lib.hid (bytes_below HBH1.out hbz)
    have HBLZ := Lib.hid (bytes_below HBL1.out hbz)
    have HMS := Lib.hid (row_all hdz HTL.out)
    clear hwz hdz hbz hDl hDi hD1
    have heq := HEQ.out
    go_wp2_with fail
    go_region_held3 (fun w' => Below wz.heap.size wz w')
      (first | exact (Below.refl _ _).drew | exact below_tr (by assumption) hb | exact below_al (by assumption) _)
      (first
        | (go_at_call 22; have hS := (by assumption : Below wz.heap.size wz _); refine (code_any a0 len0 cap0 xs _ [ys.take k, ys.drop k] _ (bytes_below HBXZ.out hS) HX8.out (by omega) (by first | exact twop_ad (bytes_below HBHZ.out hS) (bytes_below HBLZ.out hS) | exact twop_bd (bytes_below HBHZ.out hS) (bytes_below HBLZ.out hS) | exact twop_cd (bytes_below HBHZ.out hS) (bytes_below HBLZ.out hS)) HY9.out (by rw [HXX.out]; have := HY.out; omega) (by simp)).mono ?_; rintro e wa ⟨rfl, hb⟩; rw [HXX.out, HE.out])
        | (go_at_call 23; have hS := (by assumption : Below wz.heap.size wz _); refine (rcode_any a0 len0 cap0 a1 len1 cap1 xs ys _ h0 h1 HX.out HY.out HX8.out HY8.out (bytes_below HBXZ.out hS) (bytes_below HBYZ.out hS) HN0.out HN1.out).mono ?_; rintro e wc ⟨rfl, hb⟩; rw [HE.out])
        | (go_at_call 24; have hS := (by assumption : Below wz.heap.size wz _); refine (rtag_any a0 len0 cap0 a1 len1 cap1 xs ys _ h0 h1 HX.out HY.out HX8.out HY8.out (bytes_below HBXZ.out hS) (bytes_below HBYZ.out hS) HN0.out HN1.out).mono ?_; rintro e wd ⟨ar, cr, rfl, hbr, hb⟩; rw [HE.out] at hbr; have HBR := Lib.hid hbr; clear hbr)
        | (go_at_call 19; have hS := (by assumption : Below wz.heap.size wz _); refine (same_b _ _ (E.take 16) _ (bytes_below HMS.out hS) HBR.out HT8.out (by rw [HTL.out]; decide)).mono ?_; rintro e wf ⟨rfl, hb⟩))
    all_goals
      have hfin := (by assumption : Below wz.heap.size wz _)
      go_wp2_with fail
      go_ret
      exact ⟨rfl, below_tr BZ.out hfin⟩
theorem mcodes_walk (a0 : Option Addr) (len0 cap0 : Nat) (z0 : List Int) (a1 : Option Addr) (len1 cap1 : Nat) (z1 : List Int) (c : Int) (w : World) (w0 : IsRow .u8 w a0 len0 cap0 z0) (w1 : IsRow .u8 w a1 len1 cap1 z1) (w2 : (Lit.int .u16 c).wf = true) :
    Calls Try.prog 8 #[.slice a0 len0 cap0, .slice a1 len1 cap1, .int .u16 c] w fun e w' => e = .returned (.bool true) ∧ Below w.heap.size w w' := by
  rcases Nat.lt_or_ge 200 len0 with h0 | h0
  · exact mcodes_long0 a0 len0 cap0 a1 len1 cap1 c w (isRow_le w0) h0
  · rcases Nat.lt_or_ge 300 len1 with h1 | h1
    · exact mcodes_long1 a0 len0 cap0 a1 len1 cap1 c w (isRow_le w1) h0 h1
    · obtain ⟨xs, hx, hx8, hbx⟩ := isRow_bytes w0
      obtain ⟨ys, hy, hy8, hby⟩ := isRow_bytes w1
      have hb := bounds_u16 w2
      obtain ⟨n, rfl⟩ := Int.eq_ofNat_of_zero_le hb.1
      exact mcodes_main a0 len0 cap0 a1 len1 cap1 n _ w h0 h1 (by omega) rfl xs ys hx hy hx8 hy8 hbx hby (isRow_nil w0) (isRow_nil w1)
end Sha
end Go.Proofs.Ytmfecicapaiaeaa
