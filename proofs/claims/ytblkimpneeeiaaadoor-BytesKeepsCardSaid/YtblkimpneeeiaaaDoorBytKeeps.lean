/- BytesKeeps returns true. -/
import Derived.Test.YtblkimpneeeiaaaDoorBytAwake
import Derived.Test.YtblkimpneeeiaaaDoorSame
import Derived.Laws.OwnMore
namespace Go.Proofs.YtblkimpneeeiaaaDoor
open Go.RowKit Sha Cut Err Six Apd Att
namespace Byt
theorem u8_flip (a : Nat) (ha : a < 256) : bits .xor .u8 (a : Int) 255 = ((a ^^^ 255 : Nat) : Int) := by
  have hx : a ^^^ 255 < 2 ^ 8 := Nat.xor_lt_two_pow ha (by decide)
  have e1 : (BitVec.ofInt 8 (a : Int)).toNat = a := by rw [BitVec.ofInt_natCast, BitVec.toNat_ofNat]; exact Nat.mod_eq_of_lt (by omega)
  show IntKind.u8.wrap ((BitVec.ofInt 8 (a : Int) ^^^ BitVec.ofInt 8 255).toNat : Int) = _
  have e2 : (BitVec.ofInt 8 255).toNat = 255 := by decide
  rw [BitVec.toNat_xor, e1, e2, IntWalk.u8_in]
  omega
/-- The first k bytes are flipped. -/
def flipTo (xs : List Nat) (k : Nat) : List Nat := (xs.take k).map (· ^^^ 255) ++ xs.drop k
theorem flip_lt {xs : List Nat} (h8 : ∀ x ∈ xs, x < 256) (k : Nat) : ∀ x ∈ flipTo xs k, x < 256 := by
  intro x hx
  rcases List.mem_append.1 hx with h | h
  · obtain ⟨y, hy, rfl⟩ := List.mem_map.1 h
    exact Nat.xor_lt_two_pow (n := 8) (h8 y (List.mem_of_mem_take hy)) (by decide)
  · exact h8 x (List.mem_of_mem_drop h)
theorem flip_len (xs : List Nat) (k : Nat) : (flipTo xs k).length = xs.length := by
  simp only [flipTo, List.length_append, List.length_map, List.length_take, List.length_drop]; omega
theorem flip_at {xs : List Nat} {k : Nat} (hk : k < xs.length) : (flipTo xs k).getD k 0 = xs.getD k 0 ∧ (flipTo xs k).set k (xs.getD k 0 ^^^ 255) = flipTo xs (k + 1) := by
  have hl : ((xs.take k).map (· ^^^ 255)).length = k := by rw [List.length_map, List.length_take]; omega
  constructor
  · simp only [flipTo, List.getD_eq_getElem?_getD]
    rw [List.getElem?_append_right (by omega), hl]
    simp
  · have hd : xs.drop k = xs.getD k 0 :: xs.drop (k + 1) := by
      rw [List.drop_eq_getElem_cons hk, List.getD_eq_getElem?_getD, List.getElem?_eq_getElem hk]; rfl
    have ht : xs.take (k + 1) = xs.take k ++ [xs.getD k 0] := by
      rw [List.take_succ_eq_append_getElem hk, List.getD_eq_getElem?_getD, List.getElem?_eq_getElem hk]; rfl
    rw [flipTo, flipTo, hd, ht, List.set_append_right _ _ (by omega), hl]
    simp
theorem own_put {w : World} {base g c n i v : Nat} {m : List Nat} (h : w.ownsRow base 5 1 (.slice (some ⟨g, 0, none⟩) n c) n (u8s m)) :
    (w.setCell ⟨g, i, none⟩ (.int .u8 (v : Int))).ownsRow base 5 1 (.slice (some ⟨g, 0, none⟩) n c) n (u8s (m.set i v)) := by
  have := (h.stored i (.int .u8 (v : Int))).1
  have e : (u8s m).set i (.int .u8 (v : Int)) = u8s (m.set i v) := by simp [u8s, List.map_set]
  rwa [e] at this
theorem own_free {w : World} {base e size n g c i : Nat} {xs : List Value} (h : w.ownsRow base e size (.slice (some ⟨g, 0, none⟩) n c) n xs) : w.frozen? ⟨g, i, none⟩ = false := by
  rcases h.2 with ⟨h1, _⟩ | ⟨g', cap, cur, h1, _, hh, _⟩
  · cases h1
  · injection h1 with e1 _ _
    injection e1 with e1
    injection e1 with e1
    subst e1
    exact frozen_of_row w g i cur _ hh
theorem own_apart {w w1 : World} {base b e size n c : Nat} {ad : Option Addr} {xs : List Value} (h : w.ownsRow base e size (.slice ad n c) n xs) (hg : w.grownBy w1 (some b)) (hb : ∀ a, ad = some a → a.block ≠ b) : w1.ownsRow base e size (.slice ad n c) n xs := by
  refine h.kept hg ?_
  cases ad with
  | none => exact .inl rfl
  | some a => exact .inr (by simpa [Value.ownBlock] using hb a rfl)
theorem own_blocks {w : World} {base e size n c : Nat} {ad : Option Addr} {xs : List Value} (h : w.ownsRow base e size (.slice ad n c) n xs) : ∀ a, ad = some a → base ≤ a.block ∧ a.block < w.heap.size := by
  obtain ⟨_, _, hv, _, hs⟩ := own_spot h
  injection hv with e1 _ _
  subst e1
  exact fun a ha => (hs a ha).2
theorem row_none2 {w : World} {base n : Nat} {ad : Option Addr} {c : Nat} {m : List Nat} (h : w.ownsRow base 5 1 (.slice ad n c) n (u8s m)) : ad = none → n = 0 ∧ c = 0 := by
  obtain ⟨_, _, hv, hn, _⟩ := own_spot h
  injection hv with e1 _ e3
  subst e1 e3
  exact hn
set_option maxHeartbeats 1000000 in
theorem keeps_long (a0 : Option Addr) (len0 cap0 : Nat) (w : World) (h : 300 < len0) (hg0 : Handle w) :
    Calls Tryd.prog 6 #[.slice a0 len0 cap0] w fun e w' => e = .returned (.bool true) ∧ Below w.heap.size w w' := by
  have hg : decide ((300 : Int) < (len0 : Int)) = true := by simp; omega
  go_enter Tryd.func6, Tryd.ntmps6
  go_wp2_with fail
  refine (awake_any _ hg0).mono ?_
  rintro e w1 ⟨rfl, hb1⟩
  have hg1 := hand_of hg0 hb1
  have H1 := Lib.hid hb1
  clear hb1 hg0
  go_wp2_with fail
  refine (awake_any _ hg1).mono ?_
  rintro e w2 ⟨rfl, hb2⟩
  have H2 := kept_hid H1 hb2
  clear hb2 hg1 H1
  go_wp2_with fail
  go_ret
  exact ⟨rfl, H2.out⟩
set_option maxRecDepth 100000 in
set_option maxHeartbeats 4000000 in
theorem keeps_main (a0 : Option Addr) (len0 cap0 : Nat) (w : World) (h0 : len0 ≤ 300) (xs : List Nat) (hx : xs.length = len0)
    (hx8 : ∀ x ∈ xs, x < 256) (hbx : BytesIn w (.slice a0 len0 cap0) xs) (hn0 : a0 = none → len0 = 0 ∧ cap0 = 0) (hg0 : Handle w) :
    Calls Tryd.prog 6 #[.slice a0 len0 cap0] w fun e w' => e = .returned (.bool true) ∧ Below w.heap.size w w' := by
  have hg : decide ((300 : Int) < (len0 : Int)) = false := by simp; omega
  have HX := Lib.hid (show xs.length < 1000000000 by omega)
  have HX6 := Lib.hid (show xs.length < 1000000 by omega)
  have HX8 := Lib.hid hx8
  have HBX := Lib.hid hbx
  have HN0 := Lib.hid hn0
  subst hx
  clear hx8 hbx hn0 h0
  go_enter Tryd.func6, Tryd.ntmps6
  go_wp2_with fail
  refine (awake_any _ hg0).mono ?_
  rintro e w1 ⟨rfl, hb1⟩
  have H1 := Lib.hid hb1
  have HW0 := Lib.hid hb1.size
  have HO := Lib.hid (World.ownsRow_lit (e := 5) (size := 1) w1 #[] 0 (Nat.le_refl _) (Nat.zero_le _) rfl)
  have HA := Lib.hid ((Below.refl w1.heap.size w1).alloc (Nat.le_refl _) (.cells #[] 5))
  have HS := Lib.hid (bytes_src (bytes_below (bytes_below HBX.out H1.out) HA.out))
  clear hb1 hg0
  go_wp2_with (at_builtin; refine wpList_mark ?_)
  refine Lib.hid ?_
  refine append_own rfl (.tmp 17) (.tmp 18) rfl w1.heap.size (.slice (some ⟨w1.heap.size, 0, none⟩) 0 0) 0 [] rfl HO.out a0 xs.length cap0 xs rfl rfl HN0.out HS.out (by have := HX.out; omega) HA.out.size ?_
  intro v2 w2 hown hgr _
  have HO2 := Lib.hid (show w2.ownsRow w1.heap.size 5 1 v2 xs.length (u8s xs) from by simpa using hown)
  have H2 := kept_hid H1 (HA.out.grown hgr HA.out.size (by intro k hk; simp [Value.ownBlock] at hk; omega))
  clear hown hgr HO HA HS H1
  obtain ⟨oa, oc, rfl⟩ := own_form HO2.out
  go_wp2_with fail
  refine (new_any _ _ _ _ _ (own_bytes HO2.out) (row_none2 HO2.out) HX.out).mono ?_
  rintro e w3 ⟨C1, g1, rfl, hc, hC, hG, hb⟩
  have H3 := kept_hid H2 hb
  have U3 := Lib.hid hc
  have HO3 := Lib.hid (own_below HO2.out hb)
  have HOB := Lib.hid (fun a ha => (own_blocks HO2.out a ha).2)
  have HC1 := Lib.hid hC
  have HG1 := Lib.hid hG
  have HW1 := Lib.hid H2.out.size
  have HWW := Lib.hid HW0.out
  clear hc hC hG hb H2 HO2
  go_wp2_with fail
  refine (new_any _ _ _ _ _ (bytes_below HBX.out H3.out) HN0.out HX.out).mono ?_
  rintro e w4 ⟨C2, g2, rfl, hc, hC, hG, hb⟩
  have H4 := kept_hid H3 hb
  have U4 := Lib.hid (U3.out.below hb)
  have V4 := Lib.hid hc
  have HO4 := Lib.hid (own_below HO3.out hb)
  have HC2 := Lib.hid hC
  have HG2 := Lib.hid hG
  have HL1 := Lib.hid U3.out.clt
  have HL2 := Lib.hid U3.out.glt
  have HL3 := Lib.hid (show w2.heap.size ≤ w3.heap.size by have := HC1.out; have := U3.out.clt; omega)
  clear hc hC hG hb H3 U3 HO3 HN0
  go_wp2_with fail
  go_loopg [6] (xs.length + 1) (fun n i wr => ∃ k : Nat, k ≤ xs.length ∧ n = xs.length + 1 - k ∧ i = .int .i64 k ∧ Hid (wr.ownsRow w1.heap.size 5 1 (.slice oa xs.length oc) xs.length (u8s (flipTo xs k))) ∧ Hid (Cur wr C1 g1 xs 0 .nilIface) ∧ Hid (Cur wr C2 g2 xs 0 .nilIface) ∧ Hid (Below w.heap.size w wr))
  case atStart => exact ⟨0, Nat.zero_le _, rfl, rfl, HO4, U4, V4, H4⟩
  case round =>
    obtain ⟨k, hk, rfl, rfl, HO, U, V, H⟩ := hrel
    clear HO4 U4 V4 H4
    by_cases hlt : k < xs.length
    · obtain ⟨go, oc', hv, c0⟩ := own_cell HO.out hlt
      injection hv with e1 _ e3
      subst e1 e3
      have f0 := own_free (i := k) HO.out
      have HF := flip_at hlt
      rw [HF.1] at c0
      have HF := Lib.hid HF.2
      have hz := byte_lt HX8.out (by decide) k
      have HB := Lib.hid (HOB.out _ rfl)
      have HP := Lib.hid (own_put (i := k) (v := xs.getD k 0 ^^^ 255) HO.out)
      rw [HF.out] at HP
      have HGE := Lib.hid ((own_blocks HO.out _ rfl).1)
      have e9 := u8_flip (xs.getD k 0) hz
      generalize xs.getD k 0 = z at c0 hz HP e9
      have hi0 : (0 : Int) ≤ (k : Int) := by omega
      have hi1 : (k : Int) < (xs.length : Int) := by omega
      have ew : IntKind.i64.wrap ((k : Int) + 1) = (k : Int) + 1 := by
        have := HX.out
        rw [IntWalk.i64_in] <;> omega
      have UU := Lib.hid (U.out.other (gsetCell wr go k (.int .u8 ((z ^^^ 255 : Nat) : Int))) (by have := HB.out; have := HC1.out; simp at *; omega) (by have := HB.out; have := HG1.out; simp at *; omega))
      have VV := Lib.hid (V.out.other (gsetCell wr go k (.int .u8 ((z ^^^ 255 : Nat) : Int))) (by have := HB.out; have := HC2.out; have := HL3.out; simp at *; omega) (by have := HB.out; have := HG2.out; have := HL3.out; simp at *; omega))
      have HH := Lib.hid (below_set H.out (gsetCell wr go k (.int .u8 ((z ^^^ 255 : Nat) : Int))) (by have := HGE.out; have := HWW.out; simp at *; omega))
      clear HF HO U V H hlt
      go_wp2_with fail
      go_roundg (xs.length + 1 - (k + 1))
      case measure => omega
      case rel => exact ⟨k + 1, by omega, rfl, by go_num, HP, UU, VV, HH⟩
    · obtain rfl : k = xs.length := by omega
      clear hlt
      go_wp2_with fail
      refine (take_ok xs.length _ V.out (by omega) HX.out).mono ?_
      rintro e w5 ⟨v, rfl, ho, hc, hgr⟩
      rw [List.drop_zero, List.take_of_length_le (Nat.le_refl _)] at ho
      have HXO := Lib.hid ho
      have H5 := Lib.hid (below_set H.out hgr (by have := HC2.out; have := HL3.out; have := HW1.out; omega))
      have HO5 := Lib.hid (own_apart HO.out hgr (by intro a ha; have := HOB.out a ha; have := HC2.out; have := HL3.out; omega))
      have U5 := Lib.hid (U.out.other hgr (by have := HC2.out; have := HL1.out; omega) (by have := HC2.out; have := HL2.out; omega))
      have HUC := Lib.hid U.out.clt
      have HUG := Lib.hid U.out.glt
      have HOS := Lib.hid (fun a ha => (own_blocks HO.out a ha).2)
      have HWr := Lib.hid H.out.size
      clear ho hc hgr HO U V H
      obtain ⟨xa, xc, rfl⟩ := own_form HXO.out
      have HXB := Lib.hid (own_blocks HXO.out)
      obtain ⟨BX, hBX⟩ : ∃ BX, BX = wr.heap.size := ⟨_, rfl⟩
      rw [← hBX] at HXO HUC HUG HOS HWr HXB
      clear hBX
      go_wp2_with fail
      go_loopg [8] (xs.length + 1) (fun n i wy => ∃ k : Nat, k ≤ xs.length ∧ n = xs.length + 1 - k ∧ i = .int .i64 k ∧ Hid (wy.ownsRow BX 5 1 (.slice xa xs.length xc) xs.length (u8s (flipTo xs k))) ∧ Hid (wy.ownsRow w1.heap.size 5 1 (.slice oa xs.length oc) xs.length (u8s (flipTo xs xs.length))) ∧ Hid (Cur wy C1 g1 xs 0 .nilIface) ∧ Hid (Below w.heap.size w wy))
      case atStart => exact ⟨0, Nat.zero_le _, rfl, rfl, HXO, HO5, U5, H5⟩
      case round =>
        obtain ⟨k, hk, rfl, rfl, HXO, HO, U, H⟩ := hrel
        clear HO5 U5 H5
        by_cases hlt : k < xs.length
        · obtain ⟨gx, xc', hv, c0⟩ := own_cell HXO.out hlt
          injection hv with e1 _ e3
          subst e1 e3
          have f0 := own_free (i := k) HXO.out
          have HF := flip_at hlt
          rw [HF.1] at c0
          have HF := Lib.hid HF.2
          have hz := byte_lt HX8.out (by decide) k
          have HB := Lib.hid (HXB.out _ rfl).1
          have HP := Lib.hid (own_put (i := k) (v := xs.getD k 0 ^^^ 255) HXO.out)
          rw [HF.out] at HP
          have e9 := u8_flip (xs.getD k 0) hz
          generalize xs.getD k 0 = z at c0 hz HP e9
          have hi0 : (0 : Int) ≤ (k : Int) := by omega
          have hi1 : (k : Int) < (xs.length : Int) := by omega
          have ew : IntKind.i64.wrap ((k : Int) + 1) = (k : Int) + 1 := by
            have := HX.out
            rw [IntWalk.i64_in] <;> omega
          have UU := Lib.hid (U.out.other (gsetCell wr gx k (.int .u8 ((z ^^^ 255 : Nat) : Int))) (by have := HB.out; have := HUC.out; simp at *; omega) (by have := HB.out; have := HUG.out; simp at *; omega))
          have OO := Lib.hid (own_apart HO.out (gsetCell wr gx k (.int .u8 ((z ^^^ 255 : Nat) : Int))) (by intro a ha; have := HOS.out a ha; have := HB.out; simp at *; omega))
          have HH := Lib.hid (below_set H.out (gsetCell wr gx k (.int .u8 ((z ^^^ 255 : Nat) : Int))) (by have := HB.out; have := HWr.out; simp at *; omega))
          clear HF HXO HO U H hlt
          go_wp2_with fail
          go_roundg (xs.length + 1 - (k + 1))
          case measure => omega
          case rel => exact ⟨k + 1, by omega, rfl, by go_num, HP, OO, UU, HH⟩
        · obtain rfl : k = xs.length := by omega
          clear hlt
          go_wp2_with fail
          refine (take_ok xs.length _ U.out (by omega) HX.out).mono ?_
          rintro e w6 ⟨v, rfl, ho, hc, hgr⟩
          rw [List.drop_zero, List.take_of_length_le (Nat.le_refl _)] at ho
          have HR := Lib.hid ho
          have H6 := Lib.hid (below_set H.out hgr (by have := HC1.out; have := HW1.out; omega))
          have HO6 := Lib.hid (own_apart HO.out hgr (by intro a ha; have := HOB.out a ha; have := HC1.out; omega))
          have HX6' := Lib.hid (own_apart HXO.out hgr (by intro a ha; have := (HXB.out a ha).1; have := HUC.out; omega))
          clear ho hc hgr HO HXO U H
          obtain ⟨ra, rc, rfl⟩ := own_form HR.out
          go_wp2_with fail
          refine (Sam.same_b _ _ xs _ (own_bytes HR.out) (bytes_below HBX.out H6.out) HX8.out HX6.out).mono ?_
          rintro e w7 ⟨rfl, hb⟩
          have H7 := kept_hid H6 hb
          have HO7 := Lib.hid (own_below HO6.out hb)
          have HX7 := Lib.hid (own_below HX6'.out hb)
          clear hb H6 HO6 HX6' HR
          go_wp2_with fail
          refine (Sam.same_b _ _ (flipTo xs xs.length) _ (own_bytes HX7.out) (own_bytes HO7.out) (flip_lt HX8.out _) (by rw [flip_len]; exact HX6.out)).mono ?_
          rintro e w8 ⟨rfl, hb⟩
          have H8 := kept_hid H7 hb
          clear hb
          go_wp2_with fail
          go_ret
          exact ⟨rfl, H8.out⟩
end Byt
end Go.Proofs.YtblkimpneeeiaaaDoor
