/- The walk of MacKeys. -/
import Derived.Test.YtmfecicapaiaeaaMacAwake
import Derived.Test.YtmfecicapaiaeaaPartsWalk
namespace Go.Proofs.Ytmfecicapaiaeaa
open Go.RowKit
namespace Sha
theorem eql_refl16 (d : List Nat) (hd : d.length = 16) (w : World) :
    (Op.equalIn 10000 37 (.agg (u8s d).toArray) (.agg (u8s d).toArray)).run Try.prog w = .ok true w := by
  have hs : ((sizeOf 5).run Try.prog w) = .ok 1 w := by kernel_rfl
  have hi : ((isAgg 5).run Try.prog w) = .ok false w := by kernel_rfl
  rw [show (10000 : Nat) = 9998 + 1 + 1 from rfl]
  unfold Op.equalIn
  simp only [Sem.run_bind, run_underlying Try.underlying37, Result.andThen_ok, hs]
  rw [Std.Legacy.Range.forIn_eq_forIn_range', forIn_yield]
  · simp
  · intro i hi2
    have hlt : i < d.length := by simp [Std.Legacy.Range.size] at hi2; omega
    have hp : (part 5 (u8s d).toArray (i * 1)).run Try.prog w = .ok (.int .u8 ((d.getD i 0 : Nat) : Int)) w := by
      unfold part
      rw [Sem.run_bind, hi]
      simp only [Result.andThen_ok, Bool.false_eq_true, if_false, Nat.mul_one]
      have := u8s_at hlt
      rw [this]; rfl
    simp only [Sem.run_bind, hp, Result.andThen_ok, run_equalIn_int (P := Try.prog) w _ _ _ _ _ _ Try.underlying5]
    simp
/-- A slice of slices of bytes, opened. -/
structure RowsArg (w : World) (a : Option Addr) (len cap : Nat) (ps : List (List Nat)) (A : Nat → Option Addr) (C : Nat → Nat) : Prop where
  leq : ps.length = len
  row : len = 0 ∨ ∃ g off, a = some ⟨g, off, none⟩ ∧ ArgParts w g off ps A C
theorem RowsArg.parts {w : World} {a : Option Addr} {len cap : Nat} {ps : List (List Nat)} {A : Nat → Option Addr} {C : Nat → Nat} (h : RowsArg w a len cap ps A C) : PartsIn w (.slice a len cap) ps := by
  have hl := h.leq
  rcases h.row with h0 | ⟨g, off, rfl, hp⟩
  · have : ps = [] := List.eq_nil_of_length_eq_zero (by omega)
    subst this
    exact ⟨a, cap, by rw [← hl], .inl rfl⟩
  · have := hp.parts cap
    rw [hl] at this
    exact this
theorem RowsArg.small {w : World} {a : Option Addr} {len cap : Nat} {ps : List (List Nat)} {A : Nat → Option Addr} {C : Nat → Nat} (h : RowsArg w a len cap ps A C) : ∀ p ∈ ps, ∀ x ∈ p, x < 256 := by
  have hl := h.leq
  rcases h.row with h0 | ⟨g, off, rfl, hp⟩
  · have : ps = [] := List.eq_nil_of_length_eq_zero (by omega)
    subst this
    simp
  · exact hp.small
theorem rows_open {w : World} {a : Option Addr} {len cap : Nat} (h : IsRows w a len cap) : len ≤ maxLen ∧ ∃ ps A C, RowsArg w a len cap ps A C := by
  rcases h with ⟨rfl, rfl, rfl⟩ | ⟨x, A, L, C, Z, rfl, hlc, hcm, hr⟩
  · exact ⟨Nat.zero_le _, [], fun _ => none, fun _ => 0, rfl, .inl rfl⟩
  · refine ⟨by omega, ?_⟩
    by_cases h0 : len = 0
    · exact ⟨[], fun _ => none, fun _ => 0, by rw [h0]; rfl, .inl h0⟩
    · have hx : x = ⟨x.block, x.off, none⟩ := by
        have := (hr 0 (by omega)).1
        rw [show x.add 0 = x from rfl] at this
        exact spot_of_cell this
      obtain ⟨ps, hps⟩ : ∃ ps, ps = (List.range len).map fun r => ((Z r).take (L r)).map Int.toNat := ⟨_, rfl⟩
      have hpl : ps.length = len := by rw [hps]; simp
      have hget : ∀ r, r < len → ps.getD r [] = ((Z r).take (L r)).map Int.toNat := fun r hr => by rw [hps]; simp [List.getD_eq_getElem?_getD, hr]
      have hgl : ∀ r, r < len → (ps.getD r []).length = L r := fun r hrl => by
        have := hr r (by omega)
        rw [hget r hrl]; simp; omega
      have hwb : ∀ r, r < len → ∀ n ∈ Z r, 0 ≤ n ∧ n < 256 := fun r hrl n hn => by
        have := bounds_u8 ((hr r (by omega)).2.2.2.2.1 n hn); omega
      refine ⟨ps, A, C, hpl, .inr ⟨x.block, x.off, by rw [← hx], ?_, ?_, ?_, ?_, ?_, ?_⟩⟩
      · intro r hrl
        rw [hpl] at hrl
        have := (hr r (by omega)).1
        rw [hx, Addr.add_mid] at this
        rw [hgl r hrl]; exact this
      · intro r hrl
        rw [hpl] at hrl
        rw [hgl r hrl]; exact (hr r (by omega)).2.1
      · intro r hrl
        rw [hpl] at hrl
        rw [hgl r hrl]; have := hr r (by omega); omega
      · intro r hrl hA
        rw [hpl] at hrl
        have h1 := hr r (by omega)
        have h2 := h1.2.2.2.2.2.1 hA
        exact ⟨List.eq_nil_of_length_eq_zero (by rw [hgl r hrl]; omega), h2⟩
      · intro r hrl ad hA c hc
        rw [hpl] at hrl
        have h1 := hr r (by omega)
        rw [hgl r hrl] at hc
        rw [h1.2.2.2.2.2.2 ad hA c (by omega), hget r hrl]
        have hcz : c < (Z r).length := by omega
        have hb := hwb r hrl (Z r)[c] (List.getElem_mem hcz)
        simp [List.getD_eq_getElem?_getD, hcz, hc]
        omega
      · intro p hp y hy
        rw [hps] at hp
        obtain ⟨r, hrm, rfl⟩ := List.mem_map.1 hp
        have hrl : r < len := by simpa using hrm
        obtain ⟨n, hn, rfl⟩ := List.mem_map.1 hy
        have := hwb r hrl n (List.mem_of_mem_take hn); omega
set_option maxRecDepth 100000 in
set_option maxHeartbeats 1000000 in
theorem mkeys_long0 (a0 : Option Addr) (len0 cap0 : Nat) (a1 : Option Addr) (len1 cap1 : Nat) (w : World) (hl : len0 ≤ maxLen) (h : 63 < len0) :
    Calls Try.prog 10 #[.slice a0 len0 cap0, .slice a1 len1 cap1] w fun e w' => e = .returned (.bool true) ∧ Below w.heap.size w w' := by
  unfold maxLen at hl
  have hg : decide ((63 : Int) < (len0 : Int)) = true := by simp; omega
  go_enter Try.func10, Try.ntmps10
  go_wp2_with fail
  refine (awake2_any _).mono ?_
  rintro e w1 ⟨rfl, hb1⟩
  have B1 := Lib.hid hb1
  clear hb1
  go_wp2_with fail
  refine (awake2_any _).mono ?_
  rintro e w2 ⟨rfl, hb2⟩
  have B2 := Lib.hid (B1.out.trans (hb2.mono B1.out.size))
  clear hb2
  go_wp2_with fail
  go_ret
  exact ⟨rfl, B2.out⟩
set_option maxRecDepth 100000 in
set_option maxHeartbeats 1000000 in
theorem mkeys_long1 (a0 : Option Addr) (len0 cap0 : Nat) (a1 : Option Addr) (len1 cap1 : Nat) (w : World) (hl : len1 ≤ maxLen) (h0 : len0 ≤ 63) (h : 20 < len1) :
    Calls Try.prog 10 #[.slice a0 len0 cap0, .slice a1 len1 cap1] w fun e w' => e = .returned (.bool true) ∧ Below w.heap.size w w' := by
  unfold maxLen at hl
  have hg0 : decide ((63 : Int) < (len0 : Int)) = false := by simp; omega
  have hg : decide ((20 : Int) < (len1 : Int)) = true := by simp; omega
  go_enter Try.func10, Try.ntmps10
  go_wp2_with fail
  refine (awake2_any _).mono ?_
  rintro e w1 ⟨rfl, hb1⟩
  have B1 := Lib.hid hb1
  clear hb1
  go_wp2_with fail
  refine (awake2_any _).mono ?_
  rintro e w2 ⟨rfl, hb2⟩
  have B2 := Lib.hid (B1.out.trans (hb2.mono B1.out.size))
  clear hb2
  go_wp2_with fail
  go_ret
  exact ⟨rfl, B2.out⟩
set_option maxRecDepth 100000 in
set_option maxHeartbeats 4000000 in
theorem mkeys_main (a0 : Option Addr) (len0 cap0 : Nat) (a1 : Option Addr) (len1 cap1 : Nat) (w : World) (h0 : len0 ≤ 63) (h1 : len1 ≤ 20) (xs : List Nat) (hx : xs.length = len0) (hx8 : ∀ x ∈ xs, x < 256) (hbx : BytesIn w (.slice a0 len0 cap0) xs) (hn0 : a0 = none → len0 = 0 ∧ cap0 = 0)
    (ps : List (List Nat)) (A : Nat → Option Addr) (C : Nat → Nat) (hR : RowsArg w a1 len1 cap1 ps A C) :
    Calls Try.prog 10 #[.slice a0 len0 cap0, .slice a1 len1 cap1] w fun e w' => e = .returned (.bool true) ∧ Below w.heap.size w w' := by
  have hg0 : decide ((63 : Int) < (len0 : Int)) = false := by simp; omega
  have hg1 : decide ((20 : Int) < (len1 : Int)) = false := by simp; omega
  have HX := Lib.hid hx
  have HX8 := Lib.hid hx8
  have HBX := Lib.hid hbx
  have HN0 := Lib.hid hn0
  have HR := Lib.hid hR
  clear hx hx8 hbx hn0 hR
  go_enter Try.func10, Try.ntmps10
  go_wp2_with fail
  refine (awake2_any _).mono ?_
  rintro e w1 ⟨rfl, hb1⟩
  have B1 := Lib.hid hb1
  clear hb1
  go_wp2_with fail
  go_loopw [5, 6] (fun v i wr => ∃ (k : Nat) (ad : Option Addr) (cp : Nat), k ≤ len1 ∧ i = .int .i64 k ∧ v = .slice ad ((ps.take k).flatten).length cp ∧ wr.ownsRow w.heap.size 5 1 (.slice ad ((ps.take k).flatten).length cp) ((ps.take k).flatten).length (u8s (ps.take k).flatten) ∧ Below w.heap.size w wr ∧ ((ps.take k).flatten).length ≤ 100 * k) (fun _ i _ => len1 - (intOf i).toNat)
  case atStart => exact ⟨0, none, 0, Nat.zero_le _, rfl, rfl, World.ownsRow_nil _ _ _ _, B1.out, by simp⟩
  case round =>
    obtain ⟨k, ad, cp, hk, rfl, rfl, ho, hb, hle⟩ := hrel
    have HO := Lib.hid ho
    have HB := Lib.hid hb
    have HLE := Lib.hid hle
    clear ho hb hle
    by_cases hlt : k < len1
    · rcases HR.out.row with hz | ⟨g, off, rfl, hp⟩
      · omega
      have hkp : k < ps.length := by rw [HR.out.leq]; exact hlt
      have hcell := (HB.out.cell (p := ⟨g, off + k, none⟩) (block_lt_of_cell (hp.cell k hkp))).trans (hp.cell k hkp)
      have HBY := Lib.hid (bytes_below (hp.bytes k hkp) HB.out)
      have HNN := Lib.hid (show A k = none → (ps.getD k []).length = 0 ∧ C k = 0 from fun h => by have := hp.nilA k hkp h; exact ⟨by rw [this.1]; rfl, this.2⟩)
      have hbig := hp.big k hkp
      have HT := Lib.hid (take_flat ps k hkp)
      generalize ps.getD k [] = p at hcell HBY HNN HT hbig
      generalize (ps.take k).flatten = m at HO HLE HT
      generalize A k = Ak at HBY HNN hcell
      generalize C k = Ck at HBY HNN hcell
      clear hp hkp
      have hi0 : (0 : Int) ≤ (k : Int) := by omega
      have hi1 : (k : Int) < (len1 : Int) := by omega
      unfold maxLen at hbig
      by_cases hlong : 100 < p.length
      · go_wp2_with fail
        go_ret
        exact ⟨rfl, HB.out⟩
      · have HLO := Lib.hid hlong
        have hlo : decide ((100 : Int) < (p.length : Int)) = false := by simp; omega
        have HSRC := Lib.hid (bytes_src HBY.out)
        go_wp2_with (at_builtin; go_must (refine append_law rfl (.tmp 33) (.tmp 37) rfl w.heap.size _ m.length (u8s m) rfl HO.out Ak p.length Ck p rfl rfl HNN.out HSRC.out ?_ ?_ ?_))
        · have := HLE.out; omega
        · exact HB.out.size
        intro v2 w2 hown2 hg2 hv2
        obtain ⟨va, vc, rfl⟩ := own_form' hown2
        rw [show u8s m ++ u8s p = u8s (m ++ p) by simp [u8s], ← List.length_append] at hown2
        have O2 := Lib.hid hown2
        have B2 := Lib.hid (show Below w.heap.size w w2 from HB.out.grown hg2 HB.out.size (own_ge HO.out))
        have hlen : m.length + p.length = (m ++ p).length := List.length_append.symm
        rw [hlen]
        clear hown2 hg2 hv2 hlen hcell
        go_wp2_with fail
        go_roundw
        case rel =>
          refine ⟨k + 1, va, vc, by omega, by go_num, ?_⟩
          rw [HT.out]
          exact ⟨rfl, O2.out, B2.out, by have := HLE.out; have := HLO.out; rw [List.length_append]; omega⟩
        case measure => simp [intOf]; omega
    · have e : k = len1 := by omega
      subst e
      have et : ps.take k = ps := List.take_of_length_le (by rw [HR.out.leq]; exact Nat.le_refl _)
      rw [et] at HO HLE
      rw [et]
      clear hlt et
      have HPI := Lib.hid HR.out.parts
      have HPS := Lib.hid HR.out.small
      have HPL := Lib.hid HR.out.leq
      have HFS := Lib.hid (show ∀ x ∈ ps.flatten, x < 256 from fun x hx => by
        obtain ⟨p, hp, hxp⟩ := List.mem_flatten.1 hx
        exact HR.out.small p hp x hxp)
      have HX8' := Lib.hid (show ∀ x ∈ xs ++ [0], x < 256 by intro x hx; rcases List.mem_append.1 hx with h | h; exact HX8.out x h; simp at h; omega)
      have HZ := Lib.hid (hmac_zero xs ps.flatten (by have := HX.out; omega))
      have HE := Lib.hid (fun w => eql_refl (hmac xs ps.flatten) (hmac_length _ _) w)
      have HE6 := Lib.hid (fun w => eql_refl16 ((hmac xs ps.flatten).take 16) (by rw [List.length_take, hmac_length]; decide) w)
      have HF1 := Lib.hid (show [ps.flatten].flatten = ps.flatten by simp)
      have HF8 := Lib.hid (show ∀ p ∈ [ps.flatten], ∀ x ∈ p, x < 256 by simpa using HFS.out)
      have HFL := Lib.hid (show ps.flatten.length < 3000 by have := HLE.out; omega)
      have HAL := Lib.hid (own_bytes HO.out)
      have HRX := Lib.hid (bytes_below HBX.out HB.out)
      have HRP := Lib.hid (parts_below HPI.out HB.out)
      clear HO HLE HFS HR
      generalize hal : ps.flatten = al at HZ HE HE6 HF1 HF8 HFL HAL ⊢
      have HPF := Lib.hid hal
      clear hal
      have BR := Lib.hid (Below.refl wr.heap.size wr)
      go_upto_region 10 with (fail)
      refine wp_region_lit ?_
      refine wpList_plain rfl (fun K hK => ?_)
      go_simp
      refine hK _ _ ?_
      clear hK K
      refine wpList_plain rfl (fun K hK => ?_)
      go_simp
      refine hK _ _ ?_
      clear hK K
      have HMI5 := Lib.hid (World.ownsRow_lit (e := 5) (base := wr.heap.size) (size := 1) wr #[] 0 (BR.out.size) (Nat.zero_le _) rfl)
      have L5 := Lib.hid (BR.out.alloc BR.out.size (.cells #[] 5))
      refine append_law rfl (.tmp 39) (.tmp 40) rfl wr.heap.size _ 0 [] rfl HMI5.out a0 len0 cap0 xs rfl HX.out HN0.out (bytes_src (bytes_below HRX.out L5.out)) (by omega) (by have := BR.out.size; first | (simp; done) | (simp; omega)) ?_
      intro v5 w5 hown5 hg5 hv5
      rw [Nat.zero_add, List.nil_append] at hown5
      obtain ⟨a5, c5, rfl⟩ := own_form' hown5
      have O5 := Lib.hid hown5
      have B5 := Lib.hid (show Below wr.heap.size wr w5 from L5.out.grown hg5 (by have := BR.out.size; first | (simp; done) | (simp; omega)) (own_ge HMI5.out))
      clear hown5 hg5 hv5 HMI5 L5
      refine wpList_plain rfl (fun K hK => ?_)
      go_simp
      refine hK _ _ ?_
      clear hK K
      refine append_law rfl (.tmp 41) (.tmp 42) rfl wr.heap.size _ len0 (u8s xs) rfl (O5.out.alloc _) (some ⟨w5.heap.size, 0, none⟩) 1 1 [0] rfl rfl (fun h => by cases h) (bytes_one w5 0) (by omega) (by have := B5.out.size; first | (simp; done) | (simp; omega)) ?_
      intro v6 w6 hown6 hg6 hv6
      obtain ⟨a6, c6, rfl⟩ := own_form' hown6
      rw [show u8s xs ++ u8s [0] = u8s (xs ++ [0]) by simp [u8s]] at hown6
      have O6 := Lib.hid hown6
      have B6 := Lib.hid (show Below wr.heap.size wr w6 from (B5.out.alloc B5.out.size _).grown hg6 (by have := B5.out.size; first | (simp; done) | (simp; omega)) (own_ge O5.out))
      clear hown6 hg6 hv6
      have HM6 := Lib.hid (own_bytes_n O6.out (by have := HX.out; simp; omega))
      clear O5 B5 O6
      go_wp2_with fail
      refine (code_any a0 len0 cap0 xs _ ps _ (bytes_below HRX.out B6.out) HX8.out (by omega) (parts_below HRP.out B6.out) HPS.out (by rw [HPF.out]; have := HFL.out; omega) (by have := HPL.out; omega)).mono ?_
      rintro e w7 ⟨rfl, hb7⟩
      have B7 := Lib.hid (show Below wr.heap.size wr w7 from B6.out.trans (hb7.mono B6.out.size))
      have HM7 := Lib.hid (bytes_below HM6.out hb7)
      clear hb7 HM6 B6
      go_wp2_with fail
      have ha7 : Below w7.heap.size w7 (w7.alloc (.cells #[.slice ad al.length cp] 22)) := (Below.refl _ _).alloc (Nat.le_refl _) _
      refine (code_any a6 (len0 + 1) c6 (xs ++ [0]) _ [al] _ (bytes_below HM7.out ha7) HX8'.out (by omega) (one_part (bytes_below HAL.out B7.out)) HF8.out (by rw [HF1.out]; have := HFL.out; omega) (by simp)).mono ?_
      rintro e w8 ⟨rfl, hb8⟩
      have B8 := Lib.hid (show Below wr.heap.size wr w8 from B7.out.trans ((ha7.trans (hb8.mono ha7.size)).mono B7.out.size))
      clear hb8 ha7 B7 HM7
      rw [HF1.out, HZ.out, HPF.out]
      have he := HE.out
      generalize hD : hmac xs al = D at he HE6
      have HD := Lib.hid hD
      clear hD
      go_wp2_with fail
      refine (tag_any a0 len0 cap0 xs _ ps _ (bytes_below HRX.out B8.out) HX8.out (by omega) (parts_below HRP.out B8.out) HPS.out (by rw [HPF.out]; have := HFL.out; omega) (by have := HPL.out; omega)).mono ?_
      rintro e w9 ⟨rfl, hb9⟩
      have B9 := Lib.hid (show Below wr.heap.size wr w9 from B8.out.trans (hb9.mono B8.out.size))
      clear hb9 B8
      go_wp2_with fail
      have ha9 : Below w9.heap.size w9 (w9.alloc (.cells #[.slice ad al.length cp] 22)) := (Below.refl _ _).alloc (Nat.le_refl _) _
      refine (tag_any a0 len0 cap0 xs _ [al] _ (bytes_below HRX.out (B9.out.trans (ha9.mono B9.out.size))) HX8.out (by omega) (one_part (bytes_below HAL.out B9.out)) HF8.out (by rw [HF1.out]; have := HFL.out; omega) (by simp)).mono ?_
      rintro e w10 ⟨rfl, hb10⟩
      have B10 := Lib.hid (show Below wr.heap.size wr w10 from B9.out.trans ((ha9.trans (hb10.mono ha9.size)).mono B9.out.size))
      clear hb10 ha9 B9
      rw [HF1.out, HPF.out, HD.out]
      have he6 := HE6.out
      clear he
      go_wp2_with fail
      go_ret
      exact ⟨rfl, HB.out.trans (B10.out.mono HB.out.size)⟩
theorem mkeys_walk (a0 : Option Addr) (len0 cap0 : Nat) (z0 : List Int) (a1 : Option Addr) (len1 cap1 : Nat) (w : World) (w0 : IsRow .u8 w a0 len0 cap0 z0) (w1 : IsRows w a1 len1 cap1) :
    Calls Try.prog 10 #[.slice a0 len0 cap0, .slice a1 len1 cap1] w fun e w' => e = .returned (.bool true) ∧ Below w.heap.size w w' := by
  obtain ⟨hl1, ps, A, C, hR⟩ := rows_open w1
  rcases Nat.lt_or_ge 63 len0 with h0 | h0
  · exact mkeys_long0 a0 len0 cap0 a1 len1 cap1 w (isRow_le w0) h0
  · rcases Nat.lt_or_ge 20 len1 with h1 | h1
    · exact mkeys_long1 a0 len0 cap0 a1 len1 cap1 w hl1 h0 h1
    · obtain ⟨xs, hx, hx8, hbx⟩ := isRow_bytes w0
      exact mkeys_main a0 len0 cap0 a1 len1 cap1 w h0 h1 xs hx hx8 hbx (isRow_nil w0) ps A C hR
end Sha
end Go.Proofs.Ytmfecicapaiaeaa
