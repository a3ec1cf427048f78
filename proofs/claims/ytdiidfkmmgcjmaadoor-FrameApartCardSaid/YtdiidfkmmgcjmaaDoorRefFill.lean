/- 'Fill' of the document's answer: a text, filled up. -/
import Derived.Test.YtdiidfkmmgcjmaaDoorRefLeaf
import Derived.Test.YtdiidfkmmgcjmaaDoorShaRow
import Derived.Deep.Cut
namespace Go.Proofs.YtdiidfkmmgcjmaaDoor
open Go.RowKit Cut Apd
namespace Sha
theorem row_form' {w : World} {base e size n : Nat} {v : Value} {xs : List Value} (h : w.ownsRow base e size v n xs) : ∃ ad c, v = .slice ad n c := by
  rcases h.2 with ⟨rfl, h0⟩ | ⟨g, cap, cur, rfl, _⟩
  · exact ⟨none, 0, by rw [h0]⟩
  · exact ⟨_, _, rfl⟩
theorem bytes_one (w : World) (x : Nat) : ∀ ad, some (⟨w.heap.size, 0, none⟩ : Addr) = some ad → ∀ j u, (u8s [x])[j]? = some u → (w.alloc (.cells #[.int .u8 (x : Int)] 5)).cell? (ad.add j) = some u := by
  intro ad h j u hj
  injection h with h
  subst h
  match j, hj with
  | 0, hj => simp [u8s] at hj; subst hj; rw [show (⟨w.heap.size, 0, none⟩ : Addr).add 0 = ⟨w.heap.size, 0, none⟩ from rfl, cell_of_row _ w.heap.size 0 _ _ _ (heap_alloc_new w _)]; rfl

theorem mask8 (x : Nat) (hx : x < 9223372036854775808) : (bits .and .i64 (x : Int) 255 % 256 : Int) = ((x % 256 : Nat) : Int) := by
  have h := i64_and_nat x 255 hx (by decide)
  have e : x &&& 255 = x % 256 := Nat.and_two_pow_sub_one_eq_mod x 8
  rw [e] at h
  have h' : bits .and .i64 (x : Int) 255 = ((x % 256 : Nat) : Int) := h
  rw [h']; omega
theorem fillByte (n j : Nat) (hn : n ≤ 1000) (hj : j < 8) : (bits .and .i64 (8 * (n : Int) / 2 ^ (56 - 8 * j)) 255 % 256 : Int) = (((lenBytes n).getD j 0 : Nat) : Int) := by
  have e : (8 * (n : Int) / 2 ^ (56 - 8 * j)) = ((n * 8 / 2 ^ (56 - 8 * j) : Nat) : Int) := by
    rw [show (8 * (n : Int)) = ((n * 8 : Nat) : Int) by omega]; simp
  rw [e, mask8 _ (Nat.lt_of_le_of_lt (Nat.div_le_self _ _) (by omega)), lenbyte8 n j hj]

set_option maxRecDepth 100000 in
set_option maxHeartbeats 2000000 in
theorem rfill_any (a0 : Option Addr) (len0 cap0 : Nat) (xs : List Nat) (w : World) (hx : xs.length = len0) (hx8 : ∀ x ∈ xs, x < 256) (hl : len0 ≤ 1000) (hbx : BytesIn w (.slice a0 len0 cap0) xs) (hn0 : a0 = none → len0 = 0 ∧ cap0 = 0) :
    Calls Tryd.prog 45 #[.slice a0 len0 cap0] w fun e w' => ∃ ad c, e = .returned (.slice ad (xs ++ fill len0).length c) ∧ BytesIn w' (.slice ad (xs ++ fill len0).length c) (xs ++ fill len0) ∧ Below w.heap.size w w' ∧ ∀ g off, ad = some ⟨g, off, none⟩ → w.heap.size ≤ g := by
  obtain ⟨z, hz⟩ : ∃ z, z = zeros len0 := ⟨_, rfl⟩
  have hz64 : z < 64 := by rw [hz]; exact zeros_lt len0
  have hz56 : (len0 + 1 + z) % 64 = 56 := by rw [hz]; unfold zeros; omega
  have hzne : ∀ k, k < z → (len0 + 1 + k) % 64 ≠ 56 := by intro k hk; omega
  have HX := Lib.hid hx
  have HX8 := Lib.hid hx8
  have HBX := Lib.hid hbx
  have HN0 := Lib.hid hn0
  have HZ := Lib.hid hz
  have HZ56 := Lib.hid hz56
  have HZNE := Lib.hid hzne
  have hmine : (w.alloc (.cells #[] 5)).ownsRow w.heap.size 5 1 (.slice (some ⟨w.heap.size, 0, none⟩) 0 0) 0 [] := World.ownsRow_lit w #[] 0 (Nat.le_refl _) (Nat.zero_le _) rfl
  have HMI := Lib.hid hmine
  have hold : Below w.heap.size w (w.alloc (.cells #[] 5)) := (Below.refl _ _).alloc (Nat.le_refl _) _
  have HOL := Lib.hid hold
  have HSRC := Lib.hid (bytes_src (bytes_below HBX.out HOL.out))
  clear hx hx8 hbx hn0 hz hz56 hzne hmine hold
  go_enter Tryd.func45, Tryd.ntmps45
  go_upto_region 1 with (fail)
  refine wp_region_lit ?_
  refine wpList_plain rfl (fun K hK => ?_)
  go_simp
  refine hK _ _ ?_
  clear hK K
  refine wpList_plain rfl (fun K hK => ?_)
  go_simp
  refine hK _ _ ?_
  clear hK K
  refine append_own rfl (.tmp 6) (.tmp 7) rfl w.heap.size _ 0 [] rfl HMI.out a0 len0 cap0 xs rfl HX.out HN0.out HSRC.out (by omega) (by simp) ?_
  intro v2 w2 hown2 hg2 hv2
  rw [Nat.zero_add, List.nil_append] at hown2
  obtain ⟨va, vc, rfl⟩ := row_form' hown2
  have B2 := Lib.hid (show Below w.heap.size w w2 from HOL.out.grown hg2 (by simp) (by intro k hk; have e : some w.heap.size = some k := hk; injection e with e; omega))
  have O2 := Lib.hid hown2
  clear hown2 hg2 hv2 HMI HSRC HOL
  refine wpList_plain rfl (fun K hK => ?_)
  go_simp
  refine hK _ _ ?_
  clear hK K
  refine append_own rfl (.tmp 8) (.tmp 9) rfl w.heap.size _ len0 (u8s xs) rfl (O2.out.alloc _) (some ⟨w2.heap.size, 0, none⟩) 1 1 [128] rfl rfl (fun h => by cases h) (bytes_one w2 128) (by omega) (by have := B2.out.size; simp; omega) ?_
  intro v3 w3 hown3 hg3 hv3
  obtain ⟨xa, xc, rfl⟩ := row_form' hown3
  have B3 := Lib.hid (show Below w.heap.size w w3 from (B2.out.alloc B2.out.size _).grown hg3 (by have := B2.out.size; simp; omega) (own_ge O2.out))
  have O3 := Lib.hid hown3
  clear hown3 hg3 hv3 B2 O2
  go_wp2_with fail
  go_loopw [3] (fun s wr => ∃ (k : Nat) (ad : Option Addr) (c : Nat), k ≤ z ∧ s = .slice ad (len0 + 1 + k) c ∧ wr.ownsRow w.heap.size 5 1 (.slice ad (len0 + 1 + k) c) (len0 + 1 + k) (u8s (xs ++ 128 :: List.replicate k 0)) ∧ Below w.heap.size w wr) (fun s _ => len0 + 1 + z - sliceLen_ s)
  case atStart => exact ⟨0, xa, xc, Nat.zero_le _, rfl, by simpa [u8s] using O3.out, B3.out⟩
  case round =>
    obtain ⟨k, ad, c, hk, rfl, ho, hb⟩ := hrel
    have HO := Lib.hid ho
    have HB := Lib.hid hb
    clear ho hb
    by_cases hlt : k < z
    · have hb56 : ((((len0 : Int) + 1 + (k : Int)) % 64) != 56) = true := by have := HZNE.out k hlt; rw [bne_iff_ne]; omega
      go_wp2_with (at_builtin; refine wpList_mark ?_)
      refine Lib.hid ?_
      refine append_own rfl (.tmp 15) (.tmp 16) rfl w.heap.size _ (len0 + 1 + k) _ rfl (HO.out.alloc _) (some ⟨wr.heap.size, 0, none⟩) 1 1 [0] rfl rfl (fun h => by cases h) (bytes_one wr 0) ?_ ?_ ?_
      · omega
      · have := HB.out.size; simp; omega
      intro v4 w4 hown4 hg4 hv4
      obtain ⟨ya, yc, rfl⟩ := row_form' hown4
      have B4 := Lib.hid (show Below w.heap.size w w4 from (HB.out.alloc HB.out.size _).grown hg4 (by have := HB.out.size; simp; omega) (own_ge HO.out))
      have O4 := Lib.hid hown4
      clear hown4 hg4 hv4 hb56
      go_wp2_with fail
      go_roundw
      case rel =>
        refine ⟨k + 1, ya, yc, by omega, rfl, ?_, B4.out⟩
        have e : u8s (xs ++ 128 :: List.replicate k 0) ++ u8s [0] = u8s (xs ++ 128 :: List.replicate (k + 1) 0) := by
          rw [List.replicate_succ']; simp [u8s]
        have := O4.out
        rw [e] at this
        exact this
      case measure => simp [sliceLen_]; omega
    · have e : k = z := by omega
      have hb56 : ((((len0 : Int) + 1 + (k : Int)) % 64) != 56) = false := by have := HZ56.out; rw [bne_eq_false_iff_eq]; omega
      have HK := Lib.hid e
      clear e hlt
      go_wp2_with fail
      clear hb56
      go_loopw [3, 5] (fun s i wr => ∃ (j : Nat) (ad : Option Addr) (c : Nat), j ≤ 8 ∧ i = .int .i64 j ∧ s = .slice ad (len0 + 1 + k + j) c ∧ wr.ownsRow w.heap.size 5 1 (.slice ad (len0 + 1 + k + j) c) (len0 + 1 + k + j) (u8s (xs ++ (128 :: List.replicate k 0 ++ (lenBytes len0).take j))) ∧ Below w.heap.size w wr) (fun _ i _ => 8 - (intOf i).toNat)
      case atStart => exact ⟨0, ad, c, Nat.zero_le _, rfl, rfl, by simpa using HO.out, HB.out⟩
      case round =>
        obtain ⟨j, bd, d, hj, rfl, rfl, ho, hb⟩ := hrel
        have HO5 := Lib.hid ho
        have HB5 := Lib.hid hb
        clear ho hb
        by_cases hlt : j < 8
        · have hge : (0 : Int) ≤ 56 - 8 * (j : Int) := by omega
          have hge2 : 56 - 8 * (j : Int) ≤ 56 := by omega
          go_wp2_with (at_builtin; refine wpList_mark ?_)
          refine Lib.hid ?_
          refine append_own rfl (.tmp 25) (.tmp 34) rfl w.heap.size _ (len0 + 1 + k + j) _ rfl (HO5.out.alloc _) (some ⟨wr.heap.size, 0, none⟩) 1 1 [(lenBytes len0).getD j 0] rfl rfl (fun h => by cases h) ?_ ?_ ?_ ?_
          · rw [fillByte len0 j hl hlt]; exact bytes_one wr _
          · omega
          · have := HB5.out.size; simp; omega
          intro v6 w6 hown6 hg6 hv6
          obtain ⟨ya, yc, rfl⟩ := row_form' hown6
          have B6 := Lib.hid (show Below w.heap.size w w6 from (HB5.out.alloc HB5.out.size _).grown hg6 (by have := HB5.out.size; simp; omega) (own_ge HO5.out))
          have O6 := Lib.hid hown6
          have HT := Lib.hid (show (lenBytes len0).take (j + 1) = (lenBytes len0).take j ++ [(lenBytes len0)[j]?.getD 0] by
            have hl8 : j < (lenBytes len0).length := hlt
            rw [List.take_succ_eq_append_getElem hl8, List.getElem?_eq_getElem hl8]; rfl)
          clear hown6 hg6 hv6
          go_wp2_with fail
          go_roundw
          case rel =>
            refine ⟨j + 1, ya, yc, by omega, by go_num, rfl, ?_, B6.out⟩
            have := O6.out
            rw [HT.out]
            simpa [u8s, Nat.add_assoc] using this
          case measure => simp [intOf]; omega
        · have hge : 8 ≤ j := by omega
          have hfin : xs ++ (128 :: List.replicate k 0 ++ (lenBytes len0).take j) = xs ++ fill len0 := by
            have e8 : j = 8 := by omega
            rw [HK.out, HZ.out, e8]; rfl
          have hlen : len0 + 1 + k + j = (xs ++ fill len0).length := by
            rw [List.length_append, fill_length, HX.out, HK.out, HZ.out]; omega
          have hfo := HO5.out
          rw [hfin] at hfo
          have HFO := Lib.hid hfo
          have HLEN := Lib.hid hlen
          clear hfo hfin hlen hlt
          go_wp2_with fail
          go_ret
          refine ⟨bd, d, ?_, ?_, HB5.out, fun g off hg => own_ge HFO.out g (by rw [hg]; rfl)⟩
          · show Ending.returned (Value.slice bd (len0 + 1 + k + j) d) = _
            rw [HLEN.out]
          · have := HFO.out
            rw [HLEN.out] at this
            exact own_bytes this
end Sha
end Go.Proofs.YtdiidfkmmgcjmaaDoor
