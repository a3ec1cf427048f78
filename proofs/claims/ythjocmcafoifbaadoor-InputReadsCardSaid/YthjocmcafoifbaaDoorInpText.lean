/- takeAid and takeText of package input. -/
import Derived.Test.YthjocmcafoifbaaDoorInpCheck
import Derived.Test.YthjocmcafoifbaaDoorInpRletters
namespace Go.Proofs.YthjocmcafoifbaaDoor
open Go.RowKit Sha Cut Err Six Att Byt Apd
namespace Inp
/-- A world that has grown by what an append to a row of the call's own changed. -/
theorem grown_row {w a b : World} {C base e n : Nat} {sz : Nat} {v : Value} {us : List Value} (hg : w.grownBy a (some C)) (ho : a.ownsRow base e sz v n us) (hb : w.heap.size ≤ base) (h : a.grownBy b v.ownBlock) : w.grownBy b (some C) := by
  refine ⟨h.os.trans hg.os, h.tape.trans hg.tape, h.output.trans hg.output, Nat.le_trans hg.size h.size, fun k hk hr => ?_⟩
  refine (h.block k (Nat.lt_of_lt_of_le hk hg.size) ?_).trans (hg.block k hk hr)
  intro e
  have := own_ge ho k e.symm
  omega
theorem cur_row {a b : World} {C g at_ base e n : Nat} {sz : Nat} {xs : List Nat} {ev : Value} {v : Value} {us : List Value} (hu : Cur a C g xs at_ ev) (ho : a.ownsRow base e sz v n us) (hC : C < base) (hgb : g < base) (h : a.grownBy b v.ownBlock) : Cur b C g xs at_ ev := by
  cases hv : v.ownBlock with
  | none => rw [hv] at h; exact hu.below (belowg h)
  | some r =>
    rw [hv] at h
    have := own_ge ho r hv
    exact hu.other h (by omega) (by omega)
set_option maxHeartbeats 1000000 in
theorem takeAid_none {C g at_ : Nat} {xs : List Nat} (w : World) (h : Byt.Cur w C g xs at_ .nilIface) (hl : xs.length ≤ at_) :
    Calls Tryd.prog 38 #[.pointer (some ⟨C, 0, none⟩)] w fun e w' => e = .returned (.int .u8 0) ∧ ∃ ev, Cur w' C g xs at_ ev ∧ Met w' ev 2 at_ ∧ w.grownBy w' (some C) := by
  have HP := Lib.hid (peek_none w h hl)
  have HF := Lib.hid (fun m => byte_none (w.drewN m) (h.drewN m) hl)
  clear h
  go_enter Tryd.func38, Tryd.ntmps38
  go_wp2_with fail
  with_reducible refine HP.out.mono ?_
  rintro e w1 ⟨rfl, m, rfl⟩
  go_wp2_with fail
  with_reducible refine (HF.out m).mono ?_
  rintro e w2 ⟨rfl, ev, h1, h2, h3⟩
  have HR := Lib.hid (show ∃ ev, Cur w2 C g xs at_ ev ∧ Met w2 ev 2 at_ ∧ w.grownBy w2 (some C) from ⟨ev, h1, h2, gtrans (gdrewN w m _) h3⟩)
  clear h1 h2 h3 HF HP
  go_wp2_with fail
  go_ret
  exact ⟨rfl, HR.out⟩
set_option maxHeartbeats 1000000 in
theorem takeAid_bad {C g at_ : Nat} {xs : List Nat} (w : World) (h : Byt.Cur w C g xs at_ .nilIface) (hl : at_ < xs.length) (hb8 : xs.getD at_ 0 < 256) (hk : aid (xs.getD at_ 0) = false) :
    Calls Tryd.prog 38 #[.pointer (some ⟨C, 0, none⟩)] w fun e w' => e = .returned (.int .u8 0) ∧ ∃ ev, Cur w' C g xs at_ ev ∧ Met w' ev 3 at_ ∧ w.grownBy w' (some C) := by
  have HP := Lib.hid (peek_ok w h hl)
  have HF := Lib.hid (fun m => fail_new (d := 0) (.iface 50 (.int .i64 3)) 3 (w.drewN m) (h.drewN m) rfl)
  have HK := Lib.hid fun W => aid_any (xs.getD at_ 0) W hb8
  rw [hk] at HK
  clear h hk hb8
  generalize xs.getD at_ 0 = x at *
  go_enter Tryd.func38, Tryd.ntmps38
  go_wp2_with fail
  with_reducible refine HP.out.mono ?_
  rintro e w1 ⟨rfl, m, rfl⟩
  go_wp2_with fail
  with_reducible refine (HK.out _).mono ?_
  rintro e w1 ⟨rfl, rfl⟩
  go_wp2_with fail
  with_reducible refine (HF.out m).mono ?_
  rintro e w2 ⟨rfl, ev, h1, h2, h3⟩
  obtain ⟨b, rfl, h2⟩ := h2
  have HU := Lib.hid h1
  have HR := Lib.hid (show ∃ ev, Cur w2 C g xs at_ ev ∧ Met w2 ev 3 at_ ∧ w.grownBy w2 (some C) from ⟨_, h1, ⟨b, rfl, h2⟩, gtrans (gdrewN w m _) h3⟩)
  clear h1 h2 h3 HF HP HK
  go_wp2_with fail
  with_reducible refine (byte_met w2 HU.out).mono ?_
  rintro e w3 ⟨rfl, rfl⟩
  go_wp2_with fail
  go_ret
  exact ⟨rfl, HR.out⟩
set_option maxHeartbeats 1000000 in
theorem takeAid_ok {C g at_ : Nat} {xs : List Nat} (w : World) (h : Byt.Cur w C g xs at_ .nilIface) (hx : xs.length < 1000000000) (hl : at_ < xs.length) (hb8 : xs.getD at_ 0 < 256) (hk : aid (xs.getD at_ 0) = true) :
    Calls Tryd.prog 38 #[.pointer (some ⟨C, 0, none⟩)] w fun e w' => e = .returned (.int .u8 ((xs.getD at_ 0 : Nat) : Int)) ∧ Cur w' C g xs (at_ + 1) .nilIface ∧ w.grownBy w' (some C) := by
  have HP := Lib.hid (peek_ok w h hl)
  have HK := Lib.hid fun W => aid_any (xs.getD at_ 0) W hb8
  have HB := Lib.hid (fun m => byte_ok (w.drewN m) (h.drewN m) hl hx)
  rw [hk] at HK
  clear h hk hb8
  generalize xs.getD at_ 0 = x at *
  go_enter Tryd.func38, Tryd.ntmps38
  go_wp2_with fail
  with_reducible refine HP.out.mono ?_
  rintro e w1 ⟨rfl, m, rfl⟩
  go_wp2_with fail
  with_reducible refine (HK.out _).mono ?_
  rintro e w1 ⟨rfl, rfl⟩
  go_wp2_with fail
  with_reducible refine (HB.out m).mono ?_
  rintro e w2 ⟨rfl, h1, h2⟩
  have H1 := Lib.hid h1
  have H2 := Lib.hid (gtrans (gdrewN w m _) h2)
  clear h1 h2 HB HP HK
  go_wp2_with fail
  go_ret
  exact ⟨rfl, H1.out, H2.out⟩
/-- What Peek tells at a place. -/
def pk (xs : List Nat) (j : Nat) : Nat := if j < xs.length then xs.getD j 0 else 0
def pok (xs : List Nat) (j : Nat) : Bool := decide (j < xs.length)
theorem peek_any {C g at_ : Nat} {xs : List Nat} (w : World) (h : Cur w C g xs at_ .nilIface) :
    Calls Tryd.prog 56 #[.pointer (some ⟨C, 0, none⟩)] w fun e w' => e = .returned (.tuple #[.int .u8 (pk xs at_ : Int), .bool (pok xs at_)]) ∧ Below w.heap.size w w' := by
  by_cases hl : at_ < xs.length
  · refine (peek_ok w h hl).mono ?_
    rintro e w' ⟨rfl, m, rfl⟩
    refine ⟨?_, drewN_below _ _ _⟩
    unfold pk pok; rw [if_pos hl, decide_eq_true hl]
  · refine (peek_none w h (by omega)).mono ?_
    rintro e w' ⟨rfl, m, rfl⟩
    refine ⟨?_, drewN_below _ _ _⟩
    unfold pk pok; rw [if_neg hl, decide_eq_false hl]; rfl
theorem takeText_met {C g at_ b : Nat} {xs : List Nat} (w : World) (h : Cur w C g xs at_ (.iface 49 (.pointer (some ⟨b, 0, none⟩)))) :
    Calls Tryd.prog 60 #[.pointer (some ⟨C, 0, none⟩)] w fun e w' => e = .returned (.slice none 0 0) ∧ w = w' := by
  have HP := Lib.hid (peek_met w h)
  clear h
  go_enter Tryd.func60, Tryd.ntmps60
  go_wp2_with fail
  with_reducible refine HP.out.mono ?_
  rintro e w' ⟨rfl, rfl⟩
  go_wp2_with fail
  go_loopg [3, 4, 5] 1 (fun m t b ok wr => m = 1 ∧ t = .slice none 0 0 ∧ b = .int .u8 0 ∧ ok = .bool false ∧ wr = w)
  case atStart => exact ⟨rfl, rfl, rfl, rfl, rfl⟩
  case round =>
    obtain ⟨rfl, rfl, rfl, rfl, rfl⟩ := hrel
    go_wp2_with fail
    go_ret
    exact ⟨rfl, rfl⟩
theorem lets_take (T : List Nat) : lets T = T.take (lets T).length := by
  have h := lets_rest T
  conv => rhs; arg 2; rw [← h]
  rw [List.take_left]
set_option maxRecDepth 100000 in
set_option maxHeartbeats 8000000 in
theorem takeText_any {C g at_ : Nat} {xs : List Nat} (w : World) (h : Cur w C g xs at_ .nilIface) (h8 : ∀ x ∈ xs, x < 256) (hx : xs.length < 1000000) :
    Calls Tryd.prog 60 #[.pointer (some ⟨C, 0, none⟩)] w fun e w' => ∃ ta tc, e = .returned (.slice ta (lets (xs.drop at_)).length tc) ∧ w'.ownsRow w.heap.size 5 1 (.slice ta (lets (xs.drop at_)).length tc) (lets (xs.drop at_)).length (u8s (lets (xs.drop at_))) ∧ Cur w' C g xs (at_ + (lets (xs.drop at_)).length) .nilIface ∧ w.grownBy w' (some C) := by
  have HP := Lib.hid (peek_any w h)
  have HT := Lib.hid (lets_le (xs.drop at_))
  have HAT := Lib.hid (fun k => lets_at (T := xs.drop at_) (k := k))
  have HTK := Lib.hid (lets_take (xs.drop at_))
  have HD : Hid ((xs.drop at_).length = xs.length - at_) := List.length_drop
  have HG : Hid (∀ k, (xs.drop at_).getD k 0 = xs.getD (at_ + k) 0) := fun k => by simp [List.getD_eq_getElem?_getD, List.getElem?_drop]
  generalize (lets (xs.drop at_)).length = L at *
  generalize lets (xs.drop at_) = LT at *
  generalize xs.drop at_ = T at *
  have HCL := Lib.hid h.clt
  have HGL := Lib.hid h.glt
  have HLE := Lib.hid h.le
  have H8 := Lib.hid h8
  have HX := Lib.hid hx
  have HU := Lib.hid h
  obtain ⟨B, hB⟩ : ∃ B, B = w.heap.size := ⟨_, rfl⟩
  rw [← hB] at HCL HGL ⊢
  have HB := Lib.hid (show w.heap.size ≤ B by rw [hB]; exact Nat.le_refl _)
  have HB2 := Lib.hid (show B ≤ w.heap.size by rw [hB]; exact Nat.le_refl _)
  clear h h8 hx hB
  go_enter Tryd.func60, Tryd.ntmps60
  go_wp2_with fail
  with_reducible refine HP.out.mono ?_
  rintro e w1 ⟨rfl, hb⟩
  have HU1 := Lib.hid (HU.out.below hb)
  have HW1 := Lib.hid (gbelow hb (some C))
  have HS1 := Lib.hid (Nat.le_trans HB2.out hb.size)
  clear hb HP HU HB2
  go_wp2_with fail
  go_loopg [3, 4, 5] (L + 1) (fun m t b ok wr => ∃ k : Nat, k ≤ L ∧ m = L + 1 - k ∧ b = .int .u8 (pk xs (at_ + k) : Int) ∧ ok = .bool (pok xs (at_ + k)) ∧ (∃ ta tc, t = .slice ta k tc ∧ Hid (wr.ownsRow B 5 1 (.slice ta k tc) k (u8s (T.take k)))) ∧ Hid (Cur wr C g xs (at_ + k) .nilIface) ∧ Hid (w.grownBy wr (some C)) ∧ Hid (B ≤ wr.heap.size))
  case atStart => exact ⟨0, Nat.zero_le _, rfl, rfl, rfl, ⟨none, 0, rfl, Lib.hid (by simpa [u8s] using World.ownsRow_nil w1 B 5 1)⟩, HU1, HW1, HS1⟩
  case round =>
    clear HU1 HW1 HS1
    obtain ⟨k, hk, rfl, rfl, rfl, ⟨ta, tc, rfl, HO⟩, HU, HW, HS⟩ := hrel
    by_cases hlt : at_ + k < xs.length
    · have HXX := Lib.hid (HAT.out k hk (by have := HD.out; have := HLE.out; omega))
      rw [HG.out] at HXX
      have hm : xs.getD (at_ + k) 0 < 256 := by
        rw [List.getD_eq_getElem?_getD, List.getElem?_eq_getElem hlt]; exact H8.out _ (List.getElem_mem hlt)
      rw [show pk xs (at_ + k) = xs.getD (at_ + k) 0 from if_pos hlt, show pok xs (at_ + k) = true from decide_eq_true hlt]
      have HR := Lib.hid fun W => letter_any (xs.getD (at_ + k) 0) W hm
      rw [HXX.out] at HR
      have HBY := Lib.hid (byte_ok wr HU.out hlt (by have := HX.out; omega))
      have HTS := Lib.hid (show T.take (k + 1) = T.take k ++ [xs.getD (at_ + k) 0] by
        have hkT : k < T.length := by have := HD.out; have := HLE.out; omega
        rw [List.take_succ_eq_append_getElem hkT, ← HG.out, List.getD_eq_getElem?_getD, List.getElem?_eq_getElem hkT]; rfl)
      generalize xs.getD (at_ + k) 0 = b at *
      have HM := Lib.hid hm
      clear HXX hm
      by_cases hkL : k < L
      · rw [decide_eq_true hkL] at HR
        clear HU
        go_wp2_with fail
        with_reducible refine (HR.out _).mono ?_
        rintro e w1 ⟨rfl, rfl⟩
        go_wp2_with fail
        with_reducible refine HBY.out.mono ?_
        rintro e w2 ⟨rfl, hu, hg⟩
        have A3 := al_any w2 (.cells (u8s [b]).toArray 5)
        have U3 := Lib.hid (hu.below A3)
        have O3 := Lib.hid (own_below (own_other HO.out hg HCL.out) A3)
        have W3 := Lib.hid (gtrans (gtrans HW.out hg) (gbelow A3 _))
        have S3 := Lib.hid (Nat.le_trans HS.out (Nat.le_trans hg.size A3.size))
        clear A3 hu hg HBY HR HO HW HS
        go_wp2_with (at_builtin; refine wpList_mark ?_)
        refine Lib.hid ?_
        refine append_own rfl (.tmp 21) (.tmp 24) rfl B _ k _ rfl O3.out (some ⟨w2.heap.size, 0, none⟩) 1 1 [b] rfl rfl nofun (bytes_src (lit_in w2 [b])) (by have := HX.out; omega) S3.out ?_
        intro v4 w4 hown hgr _
        have U4 := Lib.hid (cur_row U3.out O3.out HCL.out HGL.out hgr)
        have W4 := Lib.hid (grown_row W3.out O3.out HB.out hgr)
        have S4 := Lib.hid (Nat.le_trans S3.out hgr.size)
        have O4 := Lib.hid (show w4.ownsRow B 5 1 v4 (k + 1) (u8s (T.take (k + 1))) by
          rw [HTS.out]
          have e2 : u8s (T.take k ++ [b]) = u8s (T.take k) ++ u8s [b] := by simp [u8s]
          rw [e2]; exact hown)
        obtain ⟨va, vc, rfl⟩ := own_form O4.out
        clear hown hgr U3 W3 S3 O3 HTS HM
        go_wp2_with fail
        with_reducible refine (peek_any w4 U4.out).mono ?_
        rintro e w5 ⟨rfl, hb⟩
        have U5 := Lib.hid (U4.out.below hb)
        have W5 := Lib.hid (gtrans W4.out (gbelow hb _))
        have S5 := Lib.hid (Nat.le_trans S4.out hb.size)
        have O5 := Lib.hid (own_below O4.out hb)
        clear hb U4 W4 S4 O4
        go_wp2_with fail
        go_roundg (L + 1 - (k + 1))
        case measure => omega
        case rel => exact ⟨k + 1, by omega, rfl, rfl, rfl, ⟨_, _, rfl, O5⟩, U5, W5, S5⟩
      · rw [decide_eq_false hkL] at HR
        obtain rfl : k = L := by omega
        rw [← HTK.out] at HO
        clear hkL hk HTS HBY
        go_wp2_with fail
        with_reducible refine (HR.out _).mono ?_
        rintro e w1 ⟨rfl, rfl⟩
        go_wp2_with fail
        go_ret
        exact ⟨_, _, rfl, HO.out, HU.out, HW.out⟩
    · have hkL : k = L := by have := HT.out; have := HD.out; have := HLE.out; omega
      rw [show pok xs (at_ + k) = false from decide_eq_false hlt]
      subst hkL
      rw [← HTK.out] at HO
      clear hk hlt
      generalize pk xs (at_ + k) = b at *
      go_wp2_with fail
      go_ret
      exact ⟨_, _, rfl, HO.out, HU.out, HW.out⟩
end Inp
end Go.Proofs.YthjocmcafoifbaaDoor
