/- BytesTake returns true. -/
import Derived.Test.YtblkimpneeeiaaaDoorBytAwake
import Derived.Test.YtblkimpneeeiaaaDoorSame
namespace Go.Proofs.YtblkimpneeeiaaaDoor
open Go.RowKit Sha Cut Err Six Apd Att
namespace Byt
set_option maxHeartbeats 1000000 in
theorem take_long0 (a0 : Option Addr) (len0 cap0 : Nat) (a1 : Option Addr) (len1 cap1 : Nat) (w : World) (h : 300 < len0) (hg0 : Handle w) :
    Calls Tryd.prog 4 #[.slice a0 len0 cap0, .slice a1 len1 cap1] w fun e w' => e = .returned (.bool true) ∧ Below w.heap.size w w' := by
  have hg : decide ((300 : Int) < (len0 : Int)) = true := by simp; omega
  go_enter Tryd.func4, Tryd.ntmps4
  go_wp2_with fail
  refine (awake_any _ hg0).mono ?_
  rintro e w1 ⟨rfl, hb1⟩
  have hg1 := hand_of hg0 hb1
  have H1 := Lib.hid hb1
  clear hb1 hg0
  go_wp2_with fail
  refine (awake_any _ hg1).mono ?_
  rintro e w2 ⟨rfl, hb2⟩
  have H2 := kept_hid H1 hb2
  clear hb2 hg1 H1
  go_wp2_with fail
  go_ret
  exact ⟨rfl, H2.out⟩
set_option maxHeartbeats 1000000 in
theorem take_long1 (a0 : Option Addr) (len0 cap0 : Nat) (a1 : Option Addr) (len1 cap1 : Nat) (w : World) (h0 : len0 ≤ 300) (h : 100 < len1) (hg0 : Handle w) :
    Calls Tryd.prog 4 #[.slice a0 len0 cap0, .slice a1 len1 cap1] w fun e w' => e = .returned (.bool true) ∧ Below w.heap.size w w' := by
  have hg : decide ((300 : Int) < (len0 : Int)) = false := by simp; omega
  have hg' : decide ((100 : Int) < (len1 : Int)) = true := by simp; omega
  go_enter Tryd.func4, Tryd.ntmps4
  go_wp2_with fail
  refine (awake_any _ hg0).mono ?_
  rintro e w1 ⟨rfl, hb1⟩
  have hg1 := hand_of hg0 hb1
  have H1 := Lib.hid hb1
  clear hb1 hg0
  go_wp2_with fail
  refine (awake_any _ hg1).mono ?_
  rintro e w2 ⟨rfl, hb2⟩
  have H2 := kept_hid H1 hb2
  clear hb2 hg1 H1
  go_wp2_with fail
  go_ret
  exact ⟨rfl, H2.out⟩
theorem take_join (xs : List Nat) (k n : Nat) : u8s (xs.take k) ++ u8s ((xs.drop k).take n) = u8s (xs.take (k + n)) := by
  rw [List.take_add, u8s, u8s, u8s, List.map_append]
theorem below_row {w a b : World} {r : Option Nat} {B : Nat} (h : Below w.heap.size w a) (hg : a.grownBy b r) (hr : ∀ k, r = some k → B ≤ k) (hB : w.heap.size ≤ B) : Below w.heap.size w b :=
  h.grown hg h.size (by intro k hk; have := hr k hk; omega)
theorem Cur.row {w w1 : World} {C g at_ B : Nat} {r : Option Nat} {xs : List Nat} {ev : Value} (h : Cur w C g xs at_ ev) (hg : w.grownBy w1 r) (hr : ∀ k, r = some k → B ≤ k) (hC : C < B) (hG : g < B) : Cur w1 C g xs at_ ev := by
  cases r with
  | none => exact h.below (belowg hg)
  | some k => have := hr k rfl; exact h.other hg (by omega) (by omega)
theorem row_none {w : World} {base n : Nat} {ad : Option Addr} {c : Nat} {m : List Nat} (h : w.ownsRow base 5 1 (.slice ad n c) n (u8s m)) : ad = none → n = 0 ∧ c = 0 := by
  obtain ⟨_, _, hv, hn, _⟩ := own_spot h
  injection hv with e1 _ e3
  subst e1 e3
  exact hn
set_option maxRecDepth 100000 in
set_option maxHeartbeats 4000000 in
theorem take_main (a0 : Option Addr) (len0 cap0 : Nat) (a1 : Option Addr) (len1 cap1 : Nat) (w : World) (h0 : len0 ≤ 300) (h1 : len1 ≤ 100) (xs ps : List Nat) (hx : xs.length = len0) (hp : ps.length = len1)
    (hx8 : ∀ x ∈ xs, x < 256) (hp8 : ∀ x ∈ ps, x < 256) (hbx : BytesIn w (.slice a0 len0 cap0) xs) (hbp : BytesIn w (.slice a1 len1 cap1) ps) (hn0 : a0 = none → len0 = 0 ∧ cap0 = 0) (hg0 : Handle w) :
    Calls Tryd.prog 4 #[.slice a0 len0 cap0, .slice a1 len1 cap1] w fun e w' => e = .returned (.bool true) ∧ Below w.heap.size w w' := by
  have hg : decide ((300 : Int) < (len0 : Int)) = false := by simp; omega
  have hg' : decide ((100 : Int) < (len1 : Int)) = false := by simp; omega
  have HX := Lib.hid (show xs.length < 1000000000 by omega)
  have HX6 := Lib.hid (show xs.length < 1000000 by omega)
  have HP8 := Lib.hid hp8
  have HX8 := Lib.hid hx8
  have HBX := Lib.hid hbx
  have HBP := Lib.hid hbp
  have HN0 := Lib.hid hn0
  have HP1 := Lib.hid (show ps.length ≤ 100 by omega)
  subst hx hp
  clear hx8 hp8 hbx hbp hn0 h0 h1
  go_enter Tryd.func4, Tryd.ntmps4
  go_wp2_with fail
  refine (awake_any _ hg0).mono ?_
  rintro e w1 ⟨rfl, hb1⟩
  have H1 := Lib.hid hb1
  clear hb1 hg0
  go_wp2_with fail
  refine (new_any _ _ _ _ _ (bytes_below HBX.out H1.out) HN0.out HX.out).mono ?_
  rintro e w2 ⟨C, g, rfl, hc, hC, _, hb⟩
  have H2 := kept_hid H1 hb
  have U2 := Lib.hid hc
  have HC := Lib.hid (Nat.le_trans H1.out.size hC)
  obtain ⟨B, hB⟩ : ∃ B, B = w2.heap.size := ⟨_, rfl⟩
  have HCB := Lib.hid (show C < B by rw [hB]; exact hc.clt)
  have HGB := Lib.hid (show g < B by rw [hB]; exact hc.glt)
  have HWB := Lib.hid (show w.heap.size ≤ B by rw [hB]; exact H2.out.size)
  have HB2 := Lib.hid (show B ≤ w2.heap.size by rw [hB]; exact Nat.le_refl _)
  clear hc hC hb H1 hB HN0
  go_wp2_with fail
  go_loopg [6, 7] (ps.length + 1) (fun n v i wr => ∃ (k at_ : Nat) (ad : Option Addr) (cp : Nat), k ≤ ps.length ∧ n = ps.length + 1 - k ∧ i = .int .i64 k ∧ v = .slice ad at_ cp ∧ Hid (wr.ownsRow B 5 1 (.slice ad at_ cp) at_ (u8s (xs.take at_))) ∧ Hid (Cur wr C g xs at_ .nilIface) ∧ Hid (Below w.heap.size w wr) ∧ Hid (B ≤ wr.heap.size))
  case atStart => exact ⟨0, 0, none, 0, Nat.zero_le _, rfl, rfl, rfl, Lib.hid (World.ownsRow_nil _ _ _ _), U2, H2, HB2⟩
  case round =>
    obtain ⟨k, at_, ad, cp, hk, rfl, rfl, rfl, HO, U, H, HBr⟩ := hrel
    clear U2 H2 HB2
    by_cases hlt : k < ps.length
    · obtain ⟨g1, o1, rfl, c0⟩ : ∃ g1 o1, a1 = some ⟨g1, o1, none⟩ ∧ wr.cell? ⟨g1, o1 + k, none⟩ = some (.int .u8 ((ps.getD k 0 : Nat) : Int)) := by
        obtain ⟨_, _, hv, _, hc⟩ := bytes_below HBP.out H.out
        injection hv with hv1 _ _
        rcases hc with h0 | ⟨g1, o, hg, hc⟩
        · rw [h0] at hlt; simp at hlt
        · exact ⟨g1, o, hv1.trans hg, hc k hlt⟩
      have hb := byte_lt HP8.out (by decide) k
      generalize ps.getD k 0 = p at c0 hb
      have hi0 : (0 : Int) ≤ (k : Int) := by omega
      have hi1 : (k : Int) < (ps.length : Int) := by omega
      have HLE := Lib.hid U.out.le
      have ew : IntKind.i64.wrap ((k : Int) + 1) = (k : Int) + 1 := by
        have := HP1.out
        rw [IntWalk.i64_in] <;> omega
      go_wp2_with fail
      refine (left_b wr U.out HX.out).mono ?_
      rintro e wd ⟨rfl, hb⟩
      replace U := Lib.hid (U.out.below hb)
      replace H := kept_hid H hb
      replace HO := Lib.hid (own_below HO.out hb)
      replace HBr := Lib.hid (Nat.le_trans HBr.out hb.size)
      clear hb
      by_cases hpl : p ≤ xs.length - at_
      · have e0 : decide (xs.length - at_ < p) = false := by simp; omega
        go_wp2_with fail
        refine (take_ok p _ U.out (by have := HLE.out; omega) HX.out).mono ?_
        rintro e w3 ⟨v, rfl, ho, hc, hgr⟩
        have HO3 := Lib.hid (own_other HO.out hgr HCB.out)
        have H3 := Lib.hid (below_set H.out hgr HC.out)
        have U3 := Lib.hid hc
        have HB3 := Lib.hid (Nat.le_trans HBr.out hgr.size)
        obtain ⟨va, vc, rfl⟩ := own_form ho
        have HLN := Lib.hid (own_len ho)
        have HNN := Lib.hid (row_none ho)
        have HSV := Lib.hid (bytes_src (own_bytes ho))
        have HGE := Lib.hid (own_ge HO3.out)
        clear ho hc hgr HO U H HBr
        go_wp2_with (at_builtin; refine wpList_mark ?_)
        refine Lib.hid ?_
        refine append_own rfl (.tmp 43) (.tmp 46) rfl B _ _ _ rfl HO3.out va _ vc _ rfl HLN.out HNN.out HSV.out ?_ HB3.out ?_
        · have := HX.out; have := U3.out.le; omega
        intro v2 w4 hown hgr _
        rw [take_join] at hown
        have HO := Lib.hid hown
        have U := Lib.hid (U3.out.row hgr HGE.out HCB.out HGB.out)
        have H := Lib.hid (below_row H3.out hgr HGE.out HWB.out)
        have HBr := Lib.hid (Nat.le_trans HB3.out hgr.size)
        obtain ⟨va2, vc2, rfl⟩ := own_form hown
        clear hown hgr HO3 U3 H3 HB3 HLN HNN HSV HGE
        go_wp2_with fail
        refine (chars_ok _ U.out HX8.out HX.out).mono ?_
        rintro e w5 ⟨v, rfl, ho, hc, hgr⟩
        have HO5 := Lib.hid (own_other HO.out hgr HCB.out)
        have H5 := Lib.hid (below_set H.out hgr HC.out)
        have U5 := Lib.hid hc
        have HB5 := Lib.hid (Nat.le_trans HBr.out hgr.size)
        obtain ⟨va, vc, rfl⟩ := own_form ho
        have HLN := Lib.hid (own_len ho)
        have HNN := Lib.hid (row_none ho)
        have HSV := Lib.hid (bytes_src (own_bytes ho))
        have HGE := Lib.hid (own_ge HO5.out)
        clear ho hc hgr HO U H HBr
        go_wp2_with (at_builtin; refine wpList_mark ?_)
        refine Lib.hid ?_
        refine append_own rfl (.tmp 48) (.tmp 50) rfl B _ _ _ rfl HO5.out va _ vc _ rfl HLN.out HNN.out HSV.out ?_ HB5.out ?_
        · have := HX.out; have := U5.out.le; omega
        intro v2 w6 hown hgr _
        rw [take_join] at hown
        have HO := Lib.hid hown
        have U := Lib.hid (U5.out.row hgr HGE.out HCB.out HGB.out)
        have H := Lib.hid (below_row H5.out hgr HGE.out HWB.out)
        have HBr := Lib.hid (Nat.le_trans HB5.out hgr.size)
        obtain ⟨va2, vc2, rfl⟩ := own_form hown
        clear hown hgr HO5 U5 H5 HB5 HLN HNN HSV HGE
        clear c0
        go_wp2_with fail
        go_roundg (ps.length + 1 - (k + 1))
        case measure => omega
        case rel => exact ⟨k + 1, _, _, _, by omega, rfl, by go_num, rfl, HO, U, H, HBr⟩
      · have e0 : decide (xs.length - at_ < p) = true := by simp; omega
        go_wp2_with fail
        refine (left_b _ U.out HX.out).mono ?_
        rintro e we ⟨rfl, hb⟩
        replace U := Lib.hid (U.out.below hb)
        replace H := kept_hid H hb
        replace HO := Lib.hid (own_below HO.out hb)
        replace HBr := Lib.hid (Nat.le_trans HBr.out hb.size)
        clear hb
        go_wp2_with fail
        refine (take_ok (xs.length - at_) _ U.out (by have := HLE.out; omega) HX.out).mono ?_
        rintro e w3 ⟨v, rfl, ho, hc, hgr⟩
        have HO3 := Lib.hid (own_other HO.out hgr HCB.out)
        have H3 := Lib.hid (below_set H.out hgr HC.out)
        have U3 := Lib.hid hc
        have HB3 := Lib.hid (Nat.le_trans HBr.out hgr.size)
        obtain ⟨va, vc, rfl⟩ := own_form ho
        have HLN := Lib.hid (own_len ho)
        have HNN := Lib.hid (row_none ho)
        have HSV := Lib.hid (bytes_src (own_bytes ho))
        have HGE := Lib.hid (own_ge HO3.out)
        clear ho hc hgr HO U H HBr
        go_wp2_with (at_builtin; refine wpList_mark ?_)
        refine Lib.hid ?_
        refine append_own rfl (.tmp 43) (.tmp 46) rfl B _ _ _ rfl HO3.out va _ vc _ rfl HLN.out HNN.out HSV.out ?_ HB3.out ?_
        · have := HX.out; have := U3.out.le; omega
        intro v2 w4 hown hgr _
        rw [take_join] at hown
        have HO := Lib.hid hown
        have U := Lib.hid (U3.out.row hgr HGE.out HCB.out HGB.out)
        have H := Lib.hid (below_row H3.out hgr HGE.out HWB.out)
        have HBr := Lib.hid (Nat.le_trans HB3.out hgr.size)
        obtain ⟨va2, vc2, rfl⟩ := own_form hown
        clear hown hgr HO3 U3 H3 HB3 HLN HNN HSV HGE
        go_wp2_with fail
        refine (chars_ok _ U.out HX8.out HX.out).mono ?_
        rintro e w5 ⟨v, rfl, ho, hc, hgr⟩
        have HO5 := Lib.hid (own_other HO.out hgr HCB.out)
        have H5 := Lib.hid (below_set H.out hgr HC.out)
        have U5 := Lib.hid hc
        have HB5 := Lib.hid (Nat.le_trans HBr.out hgr.size)
        obtain ⟨va, vc, rfl⟩ := own_form ho
        have HLN := Lib.hid (own_len ho)
        have HNN := Lib.hid (row_none ho)
        have HSV := Lib.hid (bytes_src (own_bytes ho))
        have HGE := Lib.hid (own_ge HO5.out)
        clear ho hc hgr HO U H HBr
        go_wp2_with (at_builtin; refine wpList_mark ?_)
        refine Lib.hid ?_
        refine append_own rfl (.tmp 48) (.tmp 50) rfl B _ _ _ rfl HO5.out va _ vc _ rfl HLN.out HNN.out HSV.out ?_ HB5.out ?_
        · have := HX.out; have := U5.out.le; omega
        intro v2 w6 hown hgr _
        rw [take_join] at hown
        have HO := Lib.hid hown
        have U := Lib.hid (U5.out.row hgr HGE.out HCB.out HGB.out)
        have H := Lib.hid (below_row H5.out hgr HGE.out HWB.out)
        have HBr := Lib.hid (Nat.le_trans HB5.out hgr.size)
        obtain ⟨va2, vc2, rfl⟩ := own_form hown
        clear hown hgr HO5 U5 H5 HB5 HLN HNN HSV HGE
        clear c0
        go_wp2_with fail
        go_roundg (ps.length + 1 - (k + 1))
        case measure => omega
        case rel => exact ⟨k + 1, _, _, _, by omega, rfl, by go_num, rfl, HO, U, H, HBr⟩
    · have hge : ps.length ≤ k := by omega
      have HLE := Lib.hid U.out.le
      clear hlt
      go_wp2_with fail
      refine (left_b wr U.out HX.out).mono ?_
      rintro e wd ⟨rfl, hb⟩
      replace U := Lib.hid (U.out.below hb)
      replace H := kept_hid H hb
      replace HO := Lib.hid (own_below HO.out hb)
      replace HBr := Lib.hid (Nat.le_trans HBr.out hb.size)
      clear hb
      go_wp2_with fail
      refine (take_ok (xs.length - at_) _ U.out (by have := HLE.out; omega) HX.out).mono ?_
      rintro e w3 ⟨v, rfl, ho, hc, hgr⟩
      have HO3 := Lib.hid (own_other HO.out hgr HCB.out)
      have H3 := Lib.hid (below_set H.out hgr HC.out)
      have U3 := Lib.hid hc
      have HB3 := Lib.hid (Nat.le_trans HBr.out hgr.size)
      obtain ⟨va, vc, rfl⟩ := own_form ho
      have HLN := Lib.hid (own_len ho)
      have HNN := Lib.hid (row_none ho)
      have HSV := Lib.hid (bytes_src (own_bytes ho))
      have HGE := Lib.hid (own_ge HO3.out)
      clear ho hc hgr HO U H HBr
      go_wp2_with (at_builtin; refine wpList_mark ?_)
      refine Lib.hid ?_
      refine append_own rfl (.tmp 52) (.tmp 56) rfl B _ _ _ rfl HO3.out va _ vc _ rfl HLN.out HNN.out HSV.out ?_ HB3.out ?_
      · have := HX.out; have := U3.out.le; omega
      intro v2 w4 hown hgr _
      rw [take_join] at hown
      have HO := Lib.hid hown
      have U := Lib.hid (U3.out.row hgr HGE.out HCB.out HGB.out)
      have H := Lib.hid (below_row H3.out hgr HGE.out HWB.out)
      have HBr := Lib.hid (Nat.le_trans HB3.out hgr.size)
      obtain ⟨va2, vc2, rfl⟩ := own_form hown
      clear hown hgr HO3 U3 H3 HB3 HLN HNN HSV HGE
      have ea : at_ + (xs.length - at_) = xs.length := by have := HLE.out; omega
      rw [ea] at HO U
      rw [ea]
      rw [List.take_of_length_le (Nat.le_refl _)] at HO
      clear ea
      go_wp2_with fail
      refine (fail_nil _ U.out).mono ?_
      rintro e w' ⟨rfl, rfl⟩
      go_wp2_with fail
      refine (err_any _ U.out).mono ?_
      rintro e w' ⟨rfl, rfl⟩
      go_wp2_with fail
      refine (Sam.same_b _ _ xs _ (own_bytes HO.out) (bytes_below HBX.out H.out) HX8.out HX6.out).mono ?_
      rintro e w7 ⟨rfl, hb⟩
      replace U := Lib.hid (U.out.below hb)
      replace H := kept_hid H hb
      clear hb
      go_wp2_with fail
      refine (left_b _ U.out HX.out).mono ?_
      rintro e w8 ⟨rfl, hb⟩
      replace H := kept_hid H hb
      clear hb
      have ez : xs.length - xs.length = 0 := by omega
      go_wp2_with fail
      go_ret
      exact ⟨rfl, H.out⟩
end Byt
end Go.Proofs.YtblkimpneeeiaaaDoor
