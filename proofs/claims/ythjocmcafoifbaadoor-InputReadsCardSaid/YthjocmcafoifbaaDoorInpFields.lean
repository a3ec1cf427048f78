/- takeFields of package input. -/
import Derived.Test.YthjocmcafoifbaaDoorInpField
import Derived.Test.YthjocmcafoifbaaDoorInpOwn
import Derived.Test.YthjocmcafoifbaaDoorInpRuns
namespace Go.Proofs.YthjocmcafoifbaaDoor
open Go.RowKit Sha Cut Err Six Att Byt Apd
namespace Inp
theorem own_noneF (w : World) (base : Nat) : w.ownsRow base 5 1 (.slice none 0 0) 0 (u8s []) := by simpa [u8s] using World.ownsRow_nil w base 5 1
theorem grown_own {w a b : World} {C base : Nat} {v : Value} {os : List F} (hg : w.grownBy a (some C)) (ho : OwnFlds a base v os) (hb : w.heap.size ≤ base) (h : a.grownBy b v.ownBlock) : w.grownBy b (some C) := by
  obtain ⟨us, h1, _⟩ := ho
  exact grown_row hg h1 hb h
theorem cur_own {a b : World} {C g at_ base : Nat} {xs : List Nat} {ev : Value} {v : Value} {os : List F} (hu : Cur a C g xs at_ ev) (ho : OwnFlds a base v os) (hC : C < base) (hgb : g < base) (h : a.grownBy b v.ownBlock) : Cur b C g xs at_ ev := by
  obtain ⟨us, h1, _⟩ := ho
  exact cur_row hu h1 hC hgb h
/-- What is told of an error stays behind an append to the fields: no cell of a Spot lies among them. -/
theorem met_own {a b : World} {base : Nat} {v : Value} {os : List F} {ev : Value} {c : Int} {n : Nat} (hm : Byt.Met a ev c n) (ho : OwnFlds a base v os) (h : a.grownBy b v.ownBlock) : Byt.Met b ev c n := by
  obtain ⟨us, h1, h0, h2⟩ := ho
  cases hv : v.ownBlock with
  | none => rw [hv] at h; exact hm.below (belowg h)
  | some r =>
    rw [hv] at h
    refine hm.other h fun t x hx => ?_
    by_cases hos : os = []
    · rw [h0 hos] at hv; cases hv
    · have hpos : 0 < os.length := List.length_pos_iff.2 hos
      obtain ⟨ta, tn, tc, k1, _⟩ := h2 0 hpos
      have k2 := k1 1 _ rfl
      rcases h1.2 with ⟨rfl, _⟩ | ⟨g, cap, cur, rfl, _, k3, _, _, _, k4⟩
      · cases hv
      · injection hv with hv
        simp only at hv
        subst hv
        rw [← k4, List.getElem?_take_of_lt (by omega), Array.getElem?_toList] at k2
        rw [cell_of_row a g 1 cur _ (0, 0) k3] at hx
        rw [show 0 * 2 + 1 = 1 from rfl, hx] at k2
        cases k2
set_option maxRecDepth 100000 in
set_option maxHeartbeats 4000000 in
/-- Behind an error nothing is taken. -/
theorem takeFields_met {C g at_ b : Nat} {xs : List Nat} (z : Nat) (w : World) (h : Cur w C g xs at_ (.iface 49 (.pointer (some ⟨b, 0, none⟩)))) (hx : xs.length < 1000000) :
    Calls Tryd.prog 40 #[.pointer (some ⟨C, 0, none⟩), .int .i64 (z : Int)] w fun e w' => e = .returned (.slice none 0 0) ∧ Below w.heap.size w w' := by
  have HT := Lib.hid (takeText_met w h)
  have HU := Lib.hid h
  have HX := Lib.hid hx
  clear h hx
  go_enter Tryd.func40, Tryd.ntmps40
  go_wp2_with fail
  with_reducible refine HT.out.mono ?_
  rintro e w' ⟨rfl, rfl⟩
  go_wp2_with fail
  go_loopg [5] 1 (fun m t wr => m = 1 ∧ t = .slice none 0 0 ∧ wr = w)
  case atStart => exact ⟨rfl, rfl, rfl⟩
  case round =>
    obtain ⟨rfl, rfl, rfl⟩ := hrel
    by_cases hq : 0 < xs.length - at_
    · have hqi : (0 : Int) < ((xs.length - at_ : Nat) : Int) := by omega
      go_wp2_with fail
      with_reducible refine (left_b wr HU.out (by have := HX.out; omega)).mono ?_
      rintro e w2 ⟨rfl, hb⟩
      have U2 := Lib.hid (HU.out.below hb)
      have K2 := Lib.hid hb
      clear hb
      go_wp2_with fail
      with_reducible refine (err_any w2 U2.out).mono ?_
      rintro e w3 ⟨rfl, rfl⟩
      go_wp2_with fail
      go_ret
      exact ⟨rfl, K2.out⟩
    · go_wp2_with fail
      with_reducible refine (left_b wr HU.out (by have := HX.out; omega)).mono ?_
      rintro e w2 ⟨rfl, hb⟩
      have K2 := Lib.hid hb
      clear hb
      go_wp2_with fail
      go_ret
      exact ⟨rfl, K2.out⟩
set_option maxRecDepth 100000 in
set_option maxHeartbeats 8000000 in
/-- Letters alone. -/
theorem takeFields_all {C g at_ : Nat} {xs : List Nat} (z : Nat) (w : World) (h : Cur w C g xs at_ .nilIface) (h8 : ∀ x ∈ xs, x < 256) (hx : xs.length < 1000000) (T : List Nat) (hT : T = lets (xs.drop at_)) (hT0 : 0 < T.length) (hTe : at_ + T.length = xs.length) :
    Calls Tryd.prog 40 #[.pointer (some ⟨C, 0, none⟩), .int .i64 (z : Int)] w fun e w' => ∃ va vc, e = .returned (.slice va 1 vc) ∧ w.grownBy w' (some C) ∧ OwnFlds w' w.heap.size (.slice va 1 vc) [⟨-1, T⟩] ∧ Cur w' C g xs xs.length .nilIface := by
  have HTX := Lib.hid (takeText_any w h h8 hx)
  rw [← hT] at HTX
  have HC := Lib.hid h.clt
  have HGL := Lib.hid h.glt
  have HX := Lib.hid hx
  obtain ⟨B, hB⟩ : ∃ B, B = w.heap.size := ⟨_, rfl⟩
  rw [← hB] at HC HGL HTX ⊢
  have HB := Lib.hid (show w.heap.size ≤ B by rw [hB]; exact Nat.le_refl _)
  have HB2 := Lib.hid (show B ≤ w.heap.size by rw [hB]; exact Nat.le_refl _)
  rw [hTe] at HTX
  have hTi : (0 : Int) < (T.length : Int) := by omega
  have hq : ¬ 0 < xs.length - xs.length := by omega
  clear h h8 hx hT hT0 hTe hB
  go_enter Tryd.func40, Tryd.ntmps40
  go_wp2_with fail
  with_reducible refine HTX.out.mono ?_
  rintro e w1 ⟨ta, tc, rfl, ho, hu, hg⟩
  have A2 := al_any w1 (.cells (fcells ⟨-1, T⟩ (.slice ta T.length tc)).toArray 47)
  have U2 := Lib.hid (hu.below A2)
  have T2 := Lib.hid (own_below ho A2)
  have W2 := Lib.hid (gtrans hg (gbelow A2 _))
  have S2 := Lib.hid (Nat.le_trans HB2.out (Nat.le_trans hg.size A2.size))
  have L2 := Lib.hid (heap_alloc_new w1 (.cells (fcells ⟨-1, T⟩ (.slice ta T.length tc)).toArray 47))
  clear ho hu hg A2 HTX
  go_wp2_with (at_builtin; refine wpList_mark ?_)
  refine Lib.hid ?_
  refine append_fld rfl (.tmp 12) (.tmp 15) rfl B _ [] rfl (ownFlds_nil _ _) w1.heap.size ⟨-1, T⟩ ta T.length tc rfl L2.out T2.out (by decide) S2.out ?_
  intro v3 w3 hown hgr
  have O3 := Lib.hid (show OwnFlds w3 B v3 [⟨-1, T⟩] from hown)
  have W3 := Lib.hid (grown_own W2.out (ownFlds_nil _ _) HB.out hgr)
  have U3 := Lib.hid (cur_own U2.out (ownFlds_nil _ _) HC.out HGL.out hgr)
  obtain ⟨va, vc, rfl⟩ := O3.out.form
  clear hown hgr U2 W2 S2 L2 T2
  go_wp2_with fail
  with_reducible refine (left_b w3 U3.out (by have := HX.out; omega)).mono ?_
  rintro e w4 ⟨rfl, hb⟩
  have U4 := Lib.hid (U3.out.below hb)
  have O4 := Lib.hid (O3.out.below hb)
  have W4 := Lib.hid (gtrans W3.out (gbelow hb _))
  clear hb U3 W3 O3
  go_wp2_with fail
  go_loopg [5] 1 (fun m t wr => m = 1 ∧ t = .slice va 1 vc ∧ wr = w4)
  case atStart => exact ⟨rfl, rfl, rfl⟩
  case round =>
    obtain ⟨rfl, rfl, rfl⟩ := hrel
    go_wp2_with fail
    with_reducible refine (left_b wr U4.out (by have := HX.out; omega)).mono ?_
    rintro e w5 ⟨rfl, hb⟩
    have U5 := Lib.hid (U4.out.below hb)
    have O5 := Lib.hid (O4.out.below hb)
    have W5 := Lib.hid (gtrans W4.out (gbelow hb _))
    clear hb
    go_wp2_with fail
    go_ret
    exact ⟨_, _, rfl, W5.out, O5.out, U5.out⟩
set_option maxRecDepth 100000 in
set_option maxHeartbeats 8000000 in
/-- Letters, and more behind them. -/
theorem takeFields_some {C g at_ : Nat} {xs : List Nat} (z : Nat) (w : World) (h : Cur w C g xs at_ .nilIface) (h8 : ∀ x ∈ xs, x < 256) (hx : xs.length < 1000000) (T : List Nat) (hT : T = lets (xs.drop at_)) (hT0 : 0 < T.length) (hTe : at_ + T.length < xs.length) :
    Calls Tryd.prog 40 #[.pointer (some ⟨C, 0, none⟩), .int .i64 (z : Int)] w fun e w' => ∃ va vn vc, e = .returned (.slice va vn vc) ∧ w.grownBy w' (some C) ∧ ∃ ev at', Cur w' C g xs at' ev ∧ Byt.Met w' ev 3 (at_ + T.length) := by
  have HTX := Lib.hid (takeText_any w h h8 hx)
  rw [← hT] at HTX
  have HC := Lib.hid h.clt
  have HGL := Lib.hid h.glt
  have HX := Lib.hid hx
  obtain ⟨B, hB⟩ : ∃ B, B = w.heap.size := ⟨_, rfl⟩
  rw [← hB] at HC HGL HTX
  have HB := Lib.hid (show w.heap.size ≤ B by rw [hB]; exact Nat.le_refl _)
  have HB2 := Lib.hid (show B ≤ w.heap.size by rw [hB]; exact Nat.le_refl _)
  have hTi : (0 : Int) < (T.length : Int) := by omega
  have hq : 0 < xs.length - (at_ + T.length) := by omega
  have hqi : (0 : Int) < ((xs.length - (at_ + T.length) : Nat) : Int) := by omega
  clear h h8 hx hT hT0 hTe hB
  go_enter Tryd.func40, Tryd.ntmps40
  go_wp2_with fail
  with_reducible refine HTX.out.mono ?_
  rintro e w1 ⟨ta, tc, rfl, ho, hu, hg⟩
  have A2 := al_any w1 (.cells (fcells ⟨-1, T⟩ (.slice ta T.length tc)).toArray 47)
  have U2 := Lib.hid (hu.below A2)
  have T2 := Lib.hid (own_below ho A2)
  have W2 := Lib.hid (gtrans hg (gbelow A2 _))
  have S2 := Lib.hid (Nat.le_trans HB2.out (Nat.le_trans hg.size A2.size))
  have L2 := Lib.hid (heap_alloc_new w1 (.cells (fcells ⟨-1, T⟩ (.slice ta T.length tc)).toArray 47))
  clear ho hu hg A2 HTX
  go_wp2_with (at_builtin; refine wpList_mark ?_)
  refine Lib.hid ?_
  refine append_fld rfl (.tmp 12) (.tmp 15) rfl B _ [] rfl (ownFlds_nil _ _) w1.heap.size ⟨-1, T⟩ ta T.length tc rfl L2.out T2.out (by decide) S2.out ?_
  intro v3 w3 hown hgr
  have O3 := Lib.hid (show OwnFlds w3 B v3 [⟨-1, T⟩] from hown)
  have W3 := Lib.hid (grown_own W2.out (ownFlds_nil _ _) HB.out hgr)
  have U3 := Lib.hid (cur_own U2.out (ownFlds_nil _ _) HC.out HGL.out hgr)
  obtain ⟨va, vc, rfl⟩ := O3.out.form
  clear hown hgr U2 W2 S2 L2 T2
  go_wp2_with fail
  with_reducible refine (left_b w3 U3.out (by have := HX.out; omega)).mono ?_
  rintro e w4 ⟨rfl, hb⟩
  have U4 := Lib.hid (U3.out.below hb)
  have O4 := Lib.hid (O3.out.below hb)
  have W4 := Lib.hid (gtrans W3.out (gbelow hb _))
  clear hb U3 W3 O3
  have HF := Lib.hid (fail_new (d := 0) (.iface 50 (.int .i64 3)) 3 w4 U4.out rfl)
  go_wp2_with fail
  with_reducible refine HF.out.mono ?_
  rintro e w5 ⟨rfl, ev, hu, hm, hg⟩
  obtain ⟨b, rfl, hm⟩ := hm
  have U5 := Lib.hid hu
  have M5 : Hid (Byt.Met w5 _ 3 (at_ + T.length)) := Lib.hid ⟨b, rfl, hm⟩
  have W5 := Lib.hid (gtrans W4.out hg)
  clear hu hm hg HF U4 O4 W4
  go_wp2_with fail
  go_loopg [5] 1 (fun m t wr => m = 1 ∧ t = .slice va 1 vc ∧ wr = w5)
  case atStart => exact ⟨rfl, rfl, rfl⟩
  case round =>
    obtain ⟨rfl, rfl, rfl⟩ := hrel
    go_wp2_with fail
    with_reducible refine (left_b wr U5.out (by have := HX.out; omega)).mono ?_
    rintro e w6 ⟨rfl, hb⟩
    have U6 := Lib.hid (U5.out.below hb)
    have M6 := Lib.hid (M5.out.below hb)
    have W6 := Lib.hid (gtrans W5.out (gbelow hb _))
    clear hb
    go_wp2_with fail
    with_reducible refine (err_any w6 U6.out).mono ?_
    rintro e w7 ⟨rfl, rfl⟩
    go_wp2_with fail
    go_ret
    exact ⟨_, _, _, rfl, W6.out, _, _, U6.out, M6.out⟩
set_option maxRecDepth 100000 in
set_option maxHeartbeats 8000000 in
/-- No letters: fields with addresses. -/
theorem takeFields_runs {C g at_ : Nat} {xs : List Nat} (z : Nat) (w : World) (h : Cur w C g xs at_ .nilIface) (h8 : ∀ x ∈ xs, x < 256) (hx : xs.length < 1000000) (hT : lets (xs.drop at_) = []) (Q : List F × Nat × Nat) (hQ : Runs z xs Q [] at_) :
    Calls Tryd.prog 40 #[.pointer (some ⟨C, 0, none⟩), .int .i64 (z : Int)] w fun e w' => ∃ va vn vc, e = .returned (.slice va vn vc) ∧ w.grownBy w' (some C) ∧
      ((Q.2.1 = 0 ∧ OwnFlds w' w.heap.size (.slice va vn vc) Q.1 ∧ Cur w' C g xs xs.length .nilIface) ∨ (Q.2.1 ≠ 0 ∧ ∃ ev at', Cur w' C g xs at' ev ∧ Byt.Met w' ev (Q.2.1 : Int) Q.2.2)) := by
  have HTX := Lib.hid (takeText_any w h h8 hx)
  rw [hT] at HTX
  have HTX : Hid (Calls Tryd.prog 60 #[.pointer (some ⟨C, 0, none⟩)] w fun e w' => ∃ ta tc, e = .returned (.slice ta 0 tc) ∧ w'.ownsRow w.heap.size 5 1 (.slice ta 0 tc) 0 (u8s []) ∧ Cur w' C g xs at_ .nilIface ∧ w.grownBy w' (some C)) := HTX.out
  have HC := Lib.hid h.clt
  have HGL := Lib.hid h.glt
  have HX := Lib.hid hx
  have H8 := Lib.hid h8
  have HQ := Lib.hid hQ
  obtain ⟨B, hB⟩ : ∃ B, B = w.heap.size := ⟨_, rfl⟩
  rw [← hB] at HC HGL HTX ⊢
  have HB := Lib.hid (show w.heap.size ≤ B by rw [hB]; exact Nat.le_refl _)
  have HB2 := Lib.hid (show B ≤ w.heap.size by rw [hB]; exact Nat.le_refl _)
  clear h h8 hx hT hB hQ
  go_enter Tryd.func40, Tryd.ntmps40
  go_wp2_with fail
  with_reducible refine HTX.out.mono ?_
  rintro e w1 ⟨ta, tc, rfl, _, hu, hg⟩
  have U1 := Lib.hid hu
  have W1 := Lib.hid hg
  have S1 := Lib.hid (Nat.le_trans HB2.out hg.size)
  clear hu hg HTX
  go_wp2_with fail
  go_loopg [5] (xs.length - at_ + 1) (fun m v wr => (∃ ad n cp, v = .slice ad n cp) ∧ Hid (w.grownBy wr (some C)) ∧ Hid (B ≤ wr.heap.size) ∧ ((∃ os at', Hid (Runs z xs Q os at') ∧ Hid (OwnFlds wr B v os) ∧ Hid (os.length ≤ at') ∧ Hid (Cur wr C g xs at' .nilIface) ∧ m = xs.length - at' + 1) ∨ (m = 0 ∧ Hid (Q.2.1 ≠ 0) ∧ ∃ ev at' b, Hid (Cur wr C g xs at' ev) ∧ ev = .iface 49 (.pointer (some ⟨b, 0, none⟩)) ∧ Hid (Byt.Met wr ev (Q.2.1 : Int) Q.2.2))))
  case atStart => exact ⟨⟨_, _, _, rfl⟩, W1, S1, .inl ⟨[], at_, HQ, Lib.hid (ownFlds_nil _ _), Lib.hid (Nat.zero_le _), U1, rfl⟩⟩
  case round =>
    clear W1 S1 U1 HQ
    obtain ⟨⟨vad, vn, vcp, rfl⟩, HW, HS, ⟨os, at', HR, HO, HN, HU, rfl⟩ | ⟨rfl, HE, ev, at', b, HU, rfl, HM⟩⟩ := hrel
    · by_cases hlt : at' < xs.length
      · have hq : 0 < xs.length - at' := by omega
        have hqi : (0 : Int) < ((xs.length - at' : Nat) : Int) := by omega
        go_wp2_with fail
        with_reducible refine (left_b wr HU.out (by have := HX.out; omega)).mono ?_
        rintro e wd ⟨rfl, hb⟩
        replace HU := Lib.hid (HU.out.below hb)
        replace HO := Lib.hid (HO.out.below hb)
        replace HW := Lib.hid (gtrans HW.out (gbelow hb _))
        replace HS := Lib.hid (Nat.le_trans HS.out hb.size)
        clear hb
        go_wp2_with fail
        with_reducible refine (err_any wd HU.out).mono ?_
        rintro e w' ⟨rfl, rfl⟩
        by_cases h17 : xs.getD at' 0 = 17
        · by_cases h0 : (Adr.aspec (xs.drop (at' + 1)) z).2.1 = 0
          · obtain ⟨hle, hst⟩ := runs_step HR.out hlt h17 H8.out h0
            have HR2 := Lib.hid hst
            have HLE := Lib.hid hle
            obtain ⟨T, hTT⟩ : ∃ T, T = lets (xs.drop (at' + 3)) := ⟨_, rfl⟩
            have HTF := Lib.hid (takeField_ok z wd HU.out H8.out HX.out hlt h17 h0 _ rfl T hTT)
            rw [← hTT] at HR2 HLE
            generalize (Adr.aspec (xs.drop (at' + 1)) z).1 = a at *
            clear hle hst hTT h17 h0 HR
            go_wp2_with fail
            with_reducible refine HTF.out.mono ?_
            rintro e w1 ⟨ta, tc, rfl, ho, hu, hg⟩
            have T1 := own_mono ho HS.out
            have O1 := HO.out.other hg HC.out
            have A3 := al_any w1 (.cells (fcells ⟨(a : Int), T⟩ (.slice ta T.length tc)).toArray 47)
            have HU3 := Lib.hid (hu.below A3)
            have HO3 := Lib.hid (O1.below A3)
            have HT3 := Lib.hid (own_below T1 A3)
            have HW3 := Lib.hid (gtrans (gtrans HW.out hg) (gbelow A3 _))
            have HS3 := Lib.hid (Nat.le_trans HS.out (Nat.le_trans hg.size A3.size))
            have HL3 := Lib.hid (heap_alloc_new w1 (.cells (fcells ⟨(a : Int), T⟩ (.slice ta T.length tc)).toArray 47))
            clear HTF ho hu hg T1 O1 A3 HU HO HW HS
            go_wp2_with (at_builtin; refine wpList_mark ?_)
            refine Lib.hid ?_
            refine append_fld rfl (.tmp 31) (.tmp 35) rfl B _ os rfl HO3.out w1.heap.size ⟨(a : Int), T⟩ ta T.length tc rfl HL3.out HT3.out (by have := HX.out; have := HN.out; omega) HS3.out ?_
            intro v2 w2 hown hgr
            have HO4 := Lib.hid hown
            have HW4 := Lib.hid (grown_own HW3.out HO3.out HB.out hgr)
            have HU4 := Lib.hid (cur_own HU3.out HO3.out HC.out HGL.out hgr)
            have HS4 := Lib.hid (Nat.le_trans HS3.out hgr.size)
            clear hown hgr HO3 HW3 HU3 HS3 HT3 HL3
            obtain ⟨ad2, cp2, rfl⟩ := HO4.out.form
            rw [List.length_append] at HO4 ⊢
            go_wp2_with fail
            go_roundg (xs.length - (at' + 3 + T.length) + 1)
            case measure => have := HLE.out; omega
            case rel => exact ⟨⟨_, _, _, rfl⟩, HW4, HS4, .inl ⟨_, _, HR2, HO4, Lib.hid (by rw [List.length_append]; simp only [List.length_cons, List.length_nil]; have := HN.out; omega), HU4, rfl⟩⟩
          · have HR2 := Lib.hid (runs_addr HR.out hlt h17 h0)
            obtain ⟨k, hk⟩ : ∃ k, (Adr.aspec (xs.drop (at' + 1)) z).2.1 = k := ⟨_, rfl⟩
            have HTF := Lib.hid (takeField_addr z wd HU.out H8.out HX.out hlt h17 k hk (by rw [← hk]; exact h0))
            rw [hk] at HR2 h0
            have HH0 := Lib.hid h0
            clear hk h17 h0 HR
            go_wp2_with fail
            with_reducible refine HTF.out.mono ?_
            rintro e w1 ⟨rfl, ev, at2, hu, hm, hg⟩
            have O1 := HO.out.other hg HC.out
            have A3 := al_any w1 (.cells (fcells noneF (.slice none 0 0)).toArray 47)
            have HU3 := Lib.hid (hu.below A3)
            have HO3 := Lib.hid (O1.below A3)
            have HM3 := Lib.hid (hm.below A3)
            have HW3 := Lib.hid (gtrans (gtrans HW.out hg) (gbelow A3 _))
            have HS3 := Lib.hid (Nat.le_trans HS.out (Nat.le_trans hg.size A3.size))
            have HL3 := Lib.hid (heap_alloc_new w1 (.cells (fcells noneF (.slice none 0 0)).toArray 47))
            clear HTF hu hm hg O1 A3 HU HO HW HS
            go_wp2_with (at_builtin; refine wpList_mark ?_)
            refine Lib.hid ?_
            refine append_fld rfl (.tmp 31) (.tmp 35) rfl B _ os rfl HO3.out w1.heap.size noneF none 0 0 rfl HL3.out (own_noneF _ _) (by have := HX.out; have := HN.out; omega) HS3.out ?_
            intro v2 w2 hown hgr
            have HW4 := Lib.hid (grown_own HW3.out HO3.out HB.out hgr)
            have HU4 := Lib.hid (cur_own HU3.out HO3.out HC.out HGL.out hgr)
            have HM4 := Lib.hid (met_own HM3.out HO3.out hgr)
            have HS4 := Lib.hid (Nat.le_trans HS3.out hgr.size)
            obtain ⟨ad2, cp2, rfl⟩ := hown.form
            clear hown hgr HO3 HW3 HU3 HS3 HL3 HM3
            have HM5 := HM4.out
            obtain ⟨b, rfl, _⟩ := HM5
            go_wp2_with fail
            go_roundg 0
            case measure => omega
            case rel => exact ⟨⟨_, _, _, rfl⟩, HW4, HS4, .inr ⟨rfl, Lib.hid (by rw [HR2.out]; exact HH0.out), _, _, b, HU4, rfl, Lib.hid (by rw [HR2.out]; exact HM4.out)⟩⟩
        · have HR2 := Lib.hid (runs_bad HR.out hlt h17)
          have HTF := Lib.hid (takeField_bad z wd HU.out hlt h17)
          have HH0 := Lib.hid (show (3 : Nat) ≠ 0 by decide)
          clear h17 HR
          go_wp2_with fail
          with_reducible refine HTF.out.mono ?_
          rintro e w1 ⟨rfl, ev, at2, hu, hm, hg⟩
          have O1 := HO.out.other hg HC.out
          have A3 := al_any w1 (.cells (fcells noneF (.slice none 0 0)).toArray 47)
          have HU3 := Lib.hid (hu.below A3)
          have HO3 := Lib.hid (O1.below A3)
          have HM3 := Lib.hid (hm.below A3)
          have HW3 := Lib.hid (gtrans (gtrans HW.out hg) (gbelow A3 _))
          have HS3 := Lib.hid (Nat.le_trans HS.out (Nat.le_trans hg.size A3.size))
          have HL3 := Lib.hid (heap_alloc_new w1 (.cells (fcells noneF (.slice none 0 0)).toArray 47))
          clear HTF hu hm hg O1 A3 HU HO HW HS
          go_wp2_with (at_builtin; refine wpList_mark ?_)
          refine Lib.hid ?_
          refine append_fld rfl (.tmp 31) (.tmp 35) rfl B _ os rfl HO3.out w1.heap.size noneF none 0 0 rfl HL3.out (own_noneF _ _) (by have := HX.out; have := HN.out; omega) HS3.out ?_
          intro v2 w2 hown hgr
          have HW4 := Lib.hid (grown_own HW3.out HO3.out HB.out hgr)
          have HU4 := Lib.hid (cur_own HU3.out HO3.out HC.out HGL.out hgr)
          have HM4 := Lib.hid (met_own HM3.out HO3.out hgr)
          have HS4 := Lib.hid (Nat.le_trans HS3.out hgr.size)
          obtain ⟨ad2, cp2, rfl⟩ := hown.form
          clear hown hgr HO3 HW3 HU3 HS3 HL3 HM3
          have HM5 := HM4.out
          obtain ⟨b, rfl, _⟩ := HM5
          go_wp2_with fail
          go_roundg 0
          case measure => omega
          case rel => exact ⟨⟨_, _, _, rfl⟩, HW4, HS4, .inr ⟨rfl, Lib.hid (by rw [HR2.out]; exact HH0.out), _, _, b, HU4, rfl, Lib.hid (by rw [HR2.out]; exact HM4.out)⟩⟩
      · go_wp2_with fail
        with_reducible refine (left_b wr HU.out (by have := HX.out; omega)).mono ?_
        rintro e wd ⟨rfl, hb⟩
        replace HU := Lib.hid (HU.out.below hb)
        replace HO := Lib.hid (HO.out.below hb)
        replace HW := Lib.hid (gtrans HW.out (gbelow hb _))
        clear hb
        have hat : at' = xs.length := by have := HU.out.le; omega
        go_wp2_with fail
        go_ret
        subst hat
        have e := runs_end HR.out
        exact ⟨_, _, _, rfl, HW.out, .inl ⟨by rw [e], by rw [e]; exact HO.out, HU.out⟩⟩
    · by_cases hq : 0 < xs.length - at'
      · have hqi : (0 : Int) < ((xs.length - at' : Nat) : Int) := by omega
        go_wp2_with fail
        with_reducible refine (left_b wr HU.out (by have := HX.out; omega)).mono ?_
        rintro e w2 ⟨rfl, hb⟩
        have U2 := Lib.hid (HU.out.below hb)
        have M2 := Lib.hid (HM.out.below hb)
        have W2 := Lib.hid (gtrans HW.out (gbelow hb _))
        clear hb
        go_wp2_with fail
        with_reducible refine (err_any w2 U2.out).mono ?_
        rintro e w3 ⟨rfl, rfl⟩
        go_wp2_with fail
        go_ret
        exact ⟨_, _, _, rfl, W2.out, .inr ⟨HE.out, _, _, U2.out, M2.out⟩⟩
      · go_wp2_with fail
        with_reducible refine (left_b wr HU.out (by have := HX.out; omega)).mono ?_
        rintro e w2 ⟨rfl, hb⟩
        have U2 := Lib.hid (HU.out.below hb)
        have M2 := Lib.hid (HM.out.below hb)
        have W2 := Lib.hid (gtrans HW.out (gbelow hb _))
        clear hb
        go_wp2_with fail
        go_ret
        exact ⟨_, _, _, rfl, W2.out, .inr ⟨HE.out, _, _, U2.out, M2.out⟩⟩
end Inp
end Go.Proofs.YthjocmcafoifbaaDoor
