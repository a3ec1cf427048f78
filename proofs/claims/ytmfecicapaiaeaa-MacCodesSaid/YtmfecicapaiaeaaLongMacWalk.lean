/- The walk of MacLong. -/
import Derived.Test.YtmfecicapaiaeaaKeepsMacWalk
import Derived.Test.YtmfecicapaiaeaaKeysMacWalk
import Derived.Deep.RegionHeld3
namespace Go.Proofs.Ytmfecicapaiaeaa
open Go.RowKit
namespace Sha
section
variable {w : World} {v : Value} {l : List Nat}
theorem onep_a (h : BytesIn (w.alloc (.cells #[v] 22)) v l) : PartsIn (w.alloc (.cells #[v] 22)) (.slice (some ⟨w.heap.size, 0, none⟩) 1 1) [l] :=
  parts_one (heap_alloc_new w _) h
theorem onep_b {Z : Obj} (h : BytesIn ((w.alloc Z).alloc (.cells #[v] 22)) v l) : PartsIn ((w.alloc Z).alloc (.cells #[v] 22)) (.slice (some ⟨w.heap.size + 1, 0, none⟩) 1 1) [l] :=
  parts_one (heap_alloc2_new w _ _) h
theorem onep_c {Z : Obj} (h : BytesIn ((w.alloc (.cells #[v] 22)).alloc Z) v l) : PartsIn ((w.alloc (.cells #[v] 22)).alloc Z) (.slice (some ⟨w.heap.size, 0, none⟩) 1 1) [l] :=
  parts_one (heap_alloc2_old w _ _) h
theorem onep_ad (h : BytesIn (w.alloc (.cells #[v] 22)).drew v l) : PartsIn (w.alloc (.cells #[v] 22)).drew (.slice (some ⟨w.heap.size, 0, none⟩) 1 1) [l] := onep_a (w := w) h
theorem onep_bd {Z : Obj} (h : BytesIn ((w.alloc Z).alloc (.cells #[v] 22)).drew v l) : PartsIn ((w.alloc Z).alloc (.cells #[v] 22)).drew (.slice (some ⟨w.heap.size + 1, 0, none⟩) 1 1) [l] := onep_b (w := w) h
theorem onep_cd {Z : Obj} (h : BytesIn ((w.alloc (.cells #[v] 22)).alloc Z).drew v l) : PartsIn ((w.alloc (.cells #[v] 22)).alloc Z).drew (.slice (some ⟨w.heap.size, 0, none⟩) 1 1) [l] := onep_c (w := w) h
end
theorem below_al {w0 w : World} (h : Below w0.heap.size w0 w) (o : Obj) : Below w0.heap.size w0 (w.alloc o) := h.alloc h.size o
theorem below_tr {w0 w w' : World} (h : Below w0.heap.size w0 w) (hb : Below w.heap.size w w') : Below w0.heap.size w0 w' := h.trans (hb.mono h.size)
set_option maxRecDepth 100000 in
set_option maxHeartbeats 1000000 in
theorem mlong_long0 (a0 : Option Addr) (len0 cap0 : Nat) (c : Int) (a2 : Option Addr) (len2 cap2 : Nat) (w : World) (hl : len0 ≤ maxLen) (h : 100 < len0) :
    Calls Try.prog 12 #[.slice a0 len0 cap0, .int .u8 c, .slice a2 len2 cap2] w fun e w' => e = .returned (.bool true) ∧ Below w.heap.size w w' := by
  unfold maxLen at hl
  have hg : decide ((100 : Int) < (len0 : Int)) = true := by simp; omega
  go_enter Try.func12, Try.ntmps12
  go_wp2_with fail
  refine (awake2_any _).mono ?_
  rintro e w1 ⟨rfl, hb1⟩
  have B1 := Lib.hid hb1
  clear hb1
  go_wp2_with fail
  refine (awake2_any _).mono ?_
  rintro e w2 ⟨rfl, hb2⟩
  have B2 := Lib.hid (B1.out.trans (hb2.mono B1.out.size))
  clear hb2
  go_wp2_with fail
  go_ret
  exact ⟨rfl, B2.out⟩
set_option maxRecDepth 100000 in
set_option maxHeartbeats 1000000 in
theorem mlong_long1 (a0 : Option Addr) (len0 cap0 : Nat) (c : Int) (a2 : Option Addr) (len2 cap2 : Nat) (w : World) (hl : len2 ≤ maxLen) (h0 : len0 ≤ 100) (h : 300 < len2) :
    Calls Try.prog 12 #[.slice a0 len0 cap0, .int .u8 c, .slice a2 len2 cap2] w fun e w' => e = .returned (.bool true) ∧ Below w.heap.size w w' := by
  unfold maxLen at hl
  have hg0 : decide ((100 : Int) < (len0 : Int)) = false := by simp; omega
  have hg : decide ((300 : Int) < (len2 : Int)) = true := by simp; omega
  go_enter Try.func12, Try.ntmps12
  go_wp2_with fail
  refine (awake2_any _).mono ?_
  rintro e w1 ⟨rfl, hb1⟩
  have B1 := Lib.hid hb1
  clear hb1
  go_wp2_with fail
  refine (awake2_any _).mono ?_
  rintro e w2 ⟨rfl, hb2⟩
  have B2 := Lib.hid (B1.out.trans (hb2.mono B1.out.size))
  clear hb2
  go_wp2_with fail
  go_ret
  exact ⟨rfl, B2.out⟩
set_option maxRecDepth 100000 in
set_option maxHeartbeats 8000000 in
theorem mlong_main (a0 : Option Addr) (len0 cap0 : Nat) (c : Nat) (a2 : Option Addr) (len2 cap2 : Nat) (w : World) (h0 : len0 ≤ 100) (h2 : len2 ≤ 300) (hc : c < 256) (xs ts : List Nat) (hx : xs.length = len0) (ht : ts.length = len2)
    (hx8 : ∀ x ∈ xs, x < 256) (ht8 : ∀ x ∈ ts, x < 256) (hbx : BytesIn w (.slice a0 len0 cap0) xs) (hbt : BytesIn w (.slice a2 len2 cap2) ts) (hn0 : a0 = none → len0 = 0 ∧ cap0 = 0) :
    Calls Try.prog 12 #[.slice a0 len0 cap0, .int .u8 (c : Int), .slice a2 len2 cap2] w fun e w' => e = .returned (.bool true) ∧ Below w.heap.size w w' := by
  have hg0 : decide ((100 : Int) < (len0 : Int)) = false := by simp; omega
  have hg1 : decide ((300 : Int) < (len2 : Int)) = false := by simp; omega
  have HX := Lib.hid hx
  have HTL := Lib.hid ht
  have HX8 := Lib.hid hx8
  have HT8 := Lib.hid ht8
  have HBX := Lib.hid hbx
  have HBT := Lib.hid hbt
  have HN0 := Lib.hid hn0
  clear hx ht hx8 ht8 hbx hbt hn0
  go_enter Try.func12, Try.ntmps12
  go_wp2_with fail
  refine (awake2_any _).mono ?_
  rintro e w1 ⟨rfl, hb1⟩
  have B1 := Lib.hid hb1
  have HX1 := Lib.hid (bytes_below HBX.out hb1)
  have HT1 := Lib.hid (bytes_below HBT.out hb1)
  have BR := Lib.hid (Below.refl w1.heap.size w1)
  clear hb1 HBX HBT
  go_upto_region 3 with (fail)
  refine wp_region_lit ?_
  refine wpList_plain rfl (fun K hK => ?_)
  go_simp
  refine hK _ _ ?_
  clear hK K
  refine wpList_plain rfl (fun K hK => ?_)
  go_simp
  refine hK _ _ ?_
  clear hK K
  have HMI5 := Lib.hid (World.ownsRow_lit (e := 5) (base := w1.heap.size) (size := 1) w1 #[] 0 (BR.out.size) (Nat.zero_le _) rfl)
  have L5 := Lib.hid (BR.out.alloc BR.out.size (.cells #[] 5))
  refine append_law rfl (.tmp 22) (.tmp 23) rfl w1.heap.size _ 0 [] rfl HMI5.out a0 len0 cap0 xs rfl HX.out HN0.out (bytes_src (bytes_below HX1.out L5.out)) (by omega) (by have := BR.out.size; first | (simp; done) | (simp; omega)) ?_
  intro v5 w5 hown5 hg5 hv5
  rw [Nat.zero_add, List.nil_append] at hown5
  obtain ⟨a5, c5, rfl⟩ := own_form' hown5
  have O5 := Lib.hid hown5
  have B5 := Lib.hid (show Below w1.heap.size w1 w5 from L5.out.grown hg5 (by have := BR.out.size; first | (simp; done) | (simp; omega)) (own_ge HMI5.out))
  clear hown5 hg5 hv5 HMI5 L5
  have hown := O5.out
  rw [← HX.out] at hown
  have O5' := Lib.hid hown
  rw [← HX.out]
  clear O5 BR hown
  go_wp2_with fail
  go_loopw [7] (fun v wr => ∃ (K : List Nat) (ad : Option Addr) (cp : Nat), v = .slice ad K.length cp ∧ wr.ownsRow w1.heap.size 5 1 (.slice ad K.length cp) K.length (u8s K) ∧ (∀ x ∈ K, x < 256) ∧ K.length ≤ 200 ∧ Below w1.heap.size w1 wr) (fun v _ => 100 - sliceLen v)
  case atStart => exact ⟨xs, a5, c5, by rw [HX.out], O5'.out, HX8.out, by have := HX.out; omega, B5.out⟩
  case round =>
    obtain ⟨K, ad, cp, rfl, ho, hK8, hKL, hb⟩ := hrel
    have HO := Lib.hid ho
    have HB := Lib.hid hb
    have HK8 := Lib.hid hK8
    clear ho hb hK8
    have hc0 : (0 : Int) ≤ (c : Int) := by omega
    have hc1 : (c : Int) < 256 := by omega
    by_cases hlt : K.length < 65 + c % 20
    · have hlt' : ((K.length : Nat) : Int) < 65 + (c : Int) % 20 := by omega
      go_wp2_with (at_builtin; go_must (refine append_law rfl (.tmp 32) (.tmp 34) rfl w1.heap.size _ K.length (u8s K) rfl (HO.out.alloc _) (some ⟨wr.heap.size, 0, none⟩) 1 1 [c] rfl rfl (fun h => by cases h) (bytes_one wr c) ?_ ?_ ?_))
      · omega
      · have := HB.out.size; simp; omega
      intro v2 w2 hown2 hg2 hv2
      obtain ⟨va, vc, rfl⟩ := own_form' hown2
      rw [show u8s K ++ u8s [c] = u8s (K ++ [c]) by simp [u8s]] at hown2
      have O2 := Lib.hid hown2
      have B2 := Lib.hid (show Below w1.heap.size w1 w2 from (HB.out.alloc HB.out.size _).grown hg2 (by have := HB.out.size; simp; omega) (own_ge HO.out))
      clear hown2 hg2 hv2
      go_wp2_with fail
      go_roundw
      case rel => exact ⟨K ++ [c], va, vc, by simp, by rw [List.length_append]; exact O2.out, by intro x hx; rcases List.mem_append.1 hx with h | h; exact HK8.out x h; simp at h; omega, by simp; omega, B2.out⟩
      case measure => simp [sliceLen]; omega
    · have hK64 : 64 < K.length := by omega
      have hge' : 65 + (c : Int) % 20 ≤ ((K.length : Nat) : Int) := by omega
      have HKB := Lib.hid (own_bytes HO.out)
      have HKN := Lib.hid (show ad = none → K.length = 0 ∧ cp = 0 from fun h => own_nil HO.out ad K.length cp rfl h)
      have HT' := Lib.hid (bytes_below HT1.out HB.out)
      have BW := Lib.hid (B1.out.trans (HB.out.mono B1.out.size))
      clear HO HB HX1 HT1 B1 B5 O5' hlt
      have HML := Lib.hid (hmac_long K ts hK64)
      go_wp2_with fail
      refine (rof_any ad K.length cp K _ rfl HK8.out (by omega) HKB.out HKN.out).mono ?_
      rintro e w6 ⟨rfl, hb6⟩
      have B6 := Lib.hid hb6
      have HDL := Lib.hid (digest_len K)
      have HD8 := Lib.hid (digest_small K)
      generalize hD : digest K = D at HDL HD8 HML ⊢
      clear hb6 hD
      dsimp only
      rename_i hK
      refine hK _ _ ?_
      clear hK
      refine wpList_plain rfl (fun K hK => ?_)
      go_simp
      refine hK _ _ ?_
      clear hK K
      have hsz : (u8s D).toArray.size = 32 := by rw [List.size_toArray, u8s_length, HDL.out]
      change wpList _ _ _ _ _ (w6.alloc (.cells (u8s (pad 32 [])).toArray 25))
      refine wpList_store_mid rfl 25 _ _ rfl w6.heap.size 0 _ rfl rfl (there_of_block (heap_alloc_new w6 (.cells (u8s (pad 32 [])).toArray 25)) 0 _ (by rw [hsz]; decide)) (by rw [hsz]; kernel_rfl) (u8s_cells _) ?_
      obtain ⟨w7, hw, hrow, hbel⟩ := alloc_row w6 25 (pad 32 []) D (by rw [HDL.out, pad_length (by decide)])
      change wpList _ _ _ _ _ ((w6.alloc (.cells (u8s (pad 32 [])).toArray 25)).setCells w6.heap.size 0 (u8s D).toArray.toList)
      rw [hw]
      have Rw7 := Lib.hid hrow
      have Ew7 := Lib.hid hbel
      clear hw hrow hbel hsz
      have B7 := Lib.hid (B6.out.trans (Ew7.out.mono B6.out.size))
      clear B6 Ew7
      generalize w6.heap.size = Ns at Rw7
      have HK := Lib.hid (bytes_below HKB.out B7.out)
      have HT := Lib.hid (bytes_below HT'.out B7.out)
      have HS := Lib.hid (row_all Rw7.out HDL.out)
      have BW7 := Lib.hid (BW.out.trans (B7.out.mono BW.out.size))
      clear HKB HT' Rw7 B7 BW
      have HF := Lib.hid (show [ts].flatten = ts by simp)
      have HP8 := Lib.hid (show ∀ p ∈ [ts], ∀ x ∈ p, x < 256 by simpa using HT8.out)
      have HEL := Lib.hid (hmac_length K ts)
      have heq := fun w => eql_refl (hmac K ts) (hmac_length _ _) w
      have heq6 := fun w => eql_refl16 ((hmac K ts).take 16) (by rw [List.length_take, hmac_length]; decide) w
      generalize hE : hmac K ts = E at HML HEL heq heq6
      have HE := Lib.hid hE
      clear hE hge' hc0 hc1
      go_wp2_with fail
      go_region_held3 (fun w' => Below w7.heap.size w7 w')
        (first | exact (Below.refl _ _).drew | exact below_tr (by assumption) hb | exact below_al (by assumption) _)
        (first
          | (go_at_call 22; have hS := (by assumption : Below w7.heap.size w7 _); (with_reducible show Calls _ _ #[Value.slice ad K.length cp, _] _ _); refine (code_any ad K.length cp K _ [ts] _ (bytes_below HK.out hS) HK8.out (by omega) (by first | exact onep_ad (bytes_below HT.out hS) | exact onep_bd (bytes_below HT.out hS) | exact onep_cd (bytes_below HT.out hS)) HP8.out (by rw [HF.out]; have := HTL.out; omega) (by simp)).mono ?_; rintro e wa ⟨rfl, hb⟩; rw [HF.out, HE.out]; (first | (have hq1 := parts_below (onep_cd (bytes_below HT.out hS)) hb; have hq2 := parts_below (onep_bd (bytes_below HT.out hS)) hb) | skip))
          | (go_at_call 22; have hS := (by assumption : Below w7.heap.size w7 _); refine (code_any (some ⟨Ns, 0, none⟩) 32 32 D _ [ts] _ (bytes_below HS.out hS) HD8.out (by decide) (by first | exact hq1 | exact hq2 | exact onep_a (bytes_below HT.out hS)) HP8.out (by rw [HF.out]; have := HTL.out; omega) (by simp)).mono ?_; rintro e wc ⟨rfl, hb⟩; rw [HF.out, ← HML.out])
          | (go_at_call 21; have hS := (by assumption : Below w7.heap.size w7 _); (with_reducible show Calls _ _ #[Value.slice ad K.length cp, _] _ _); refine (tag_any ad K.length cp K _ [ts] _ (bytes_below HK.out hS) HK8.out (by omega) (by first | exact onep_a (bytes_below HT.out hS) | exact onep_b (bytes_below HT.out hS) | exact onep_c (bytes_below HT.out hS)) HP8.out (by rw [HF.out]; have := HTL.out; omega) (by simp)).mono ?_; rintro e wa ⟨rfl, hb⟩; rw [HF.out, HE.out]; (first | (have hq1 := parts_below (onep_c (bytes_below HT.out hS)) hb; have hq2 := parts_below (onep_b (bytes_below HT.out hS)) hb) | skip))
          | (go_at_call 21; have hS := (by assumption : Below w7.heap.size w7 _); refine (tag_any (some ⟨Ns, 0, none⟩) 32 32 D _ [ts] _ (bytes_below HS.out hS) HD8.out (by decide) (by first | exact hq1 | exact hq2 | exact onep_a (bytes_below HT.out hS)) HP8.out (by rw [HF.out]; have := HTL.out; omega) (by simp)).mono ?_; rintro e wc ⟨rfl, hb⟩; rw [HF.out, ← HML.out]))
      all_goals
        have hfin := (by assumption : Below w7.heap.size w7 _)
        go_wp2_with fail
        go_ret
        exact ⟨rfl, below_tr BW7.out hfin⟩
theorem mlong_walk (a0 : Option Addr) (len0 cap0 : Nat) (z0 : List Int) (c : Int) (a2 : Option Addr) (len2 cap2 : Nat) (z2 : List Int) (w : World) (w0 : IsRow .u8 w a0 len0 cap0 z0) (w1 : (Lit.int .u8 c).wf = true) (w2 : IsRow .u8 w a2 len2 cap2 z2) :
    Calls Try.prog 12 #[.slice a0 len0 cap0, .int .u8 c, .slice a2 len2 cap2] w fun e w' => e = .returned (.bool true) ∧ Below w.heap.size w w' := by
  rcases Nat.lt_or_ge 100 len0 with h0 | h0
  · exact mlong_long0 a0 len0 cap0 c a2 len2 cap2 w (isRow_le w0) h0
  · rcases Nat.lt_or_ge 300 len2 with h2 | h2
    · exact mlong_long1 a0 len0 cap0 c a2 len2 cap2 w (isRow_le w2) h0 h2
    · obtain ⟨xs, hx, hx8, hbx⟩ := isRow_bytes w0
      obtain ⟨ts, ht, ht8, hbt⟩ := isRow_bytes w2
      have hb := bounds_u8 w1
      obtain ⟨n, rfl⟩ := Int.eq_ofNat_of_zero_le hb.1
      exact mlong_main a0 len0 cap0 n a2 len2 cap2 w h0 h2 (by omega) xs ts hx ht hx8 ht8 hbx hbt (isRow_nil w0)
end Sha
end Go.Proofs.Ytmfecicapaiaeaa
