/- takeOrders of package stream: the orders that are left, taken; or the first error. -/
import Derived.Test.YtmllmmamdkjndaaDoorStrOwn
import Derived.Test.YtmllmmamdkjndaaDoorStrMore
import Derived.Test.YtmllmmamdkjndaaDoorBunOrd
namespace Go.Proofs.YtmllmmamdkjndaaDoor
open Go.RowKit Sha Cut Err Six Att Byt Apd
namespace Str
open Go.Proofs.YtmllmmamdkjndaaDoor.Ord
/-- What is told of orders, once the first one is an order. -/
theorem ords_step {z f at_ : Nat} {y : Nat} {r : List Nat} (h : (oget (y :: r) z).2.2 = 0) :
    ords z (f + 1) at_ (y :: r) = (if (ords z f (at_ + (oget (y :: r) z).2.1) ((y :: r).drop (oget (y :: r) z).2.1)).2.1 = 0 then (oget (y :: r) z).1 :: (ords z f (at_ + (oget (y :: r) z).2.1) ((y :: r).drop (oget (y :: r) z).2.1)).1 else [], (ords z f (at_ + (oget (y :: r) z).2.1) ((y :: r).drop (oget (y :: r) z).2.1)).2) := by
  by_cases h2 : (ords z f (at_ + (oget (y :: r) z).2.1) ((y :: r).drop (oget (y :: r) z).2.1)).2.1 = 0
  · simp only [ords, h, h2, ne_eq, not_true_eq_false, if_false, if_true]
  · simp only [ords, h, h2, ne_eq, not_true_eq_false, not_false_eq_true, if_false, if_true]
theorem ords_stop {z f at_ : Nat} {y : Nat} {r : List Nat} (h : (oget (y :: r) z).2.2 ≠ 0) : ords z (f + 1) at_ (y :: r) = ([], (oget (y :: r) z).2.2, at_ + (oget (y :: r) z).2.1) := by
  simp only [ords, h, ne_eq, not_false_eq_true, if_true]
/-- How things stand within the loop: os are taken, R tells what all of it tells. -/
def Runs (z : Nat) (xs : List Nat) (R : List O × Nat × Nat) (os : List O) (at_ : Nat) : Prop :=
  at_ ≤ xs.length ∧ R = (if (ords z (xs.length - at_) at_ (xs.drop at_)).2.1 = 0 then os ++ (ords z (xs.length - at_) at_ (xs.drop at_)).1 else [], (ords z (xs.length - at_) at_ (xs.drop at_)).2)
theorem runs_start (z : Nat) (xs : List Nat) (at_ : Nat) (h : at_ ≤ xs.length) : Runs z xs (ords z (xs.length - at_) at_ (xs.drop at_)) [] at_ := by
  refine ⟨h, ?_⟩
  rw [List.nil_append]
  have key : ∀ f at' ys, (ords z f at' ys).2.1 ≠ 0 → (ords z f at' ys).1 = [] := by
    intro f
    induction f with
    | zero => intro at' ys h; simp [ords] at h
    | succ f ih =>
      intro at' ys h
      cases ys with
      | nil => simp [ords] at h
      | cons y r =>
        by_cases h1 : (oget (y :: r) z).2.2 = 0
        · rw [ords_step h1] at h ⊢
          simp only at h ⊢
          rw [if_neg h]
        · rw [ords_stop h1]
  by_cases h0 : (ords z (xs.length - at_) at_ (xs.drop at_)).2.1 = 0
  · rw [if_pos h0]
  · rw [if_neg h0, ← key _ _ _ h0]
theorem runs_end {z : Nat} {xs : List Nat} {R : List O × Nat × Nat} {os : List O} (h : Runs z xs R os xs.length) : R = (os, 0, xs.length) := by
  obtain ⟨_, rfl⟩ := h
  simp [ords]
/-- A step: the order that stands there is taken. -/
theorem runs_step {z : Nat} {xs : List Nat} {R : List O × Nat × Nat} {os : List O} {at_ : Nat} (h : Runs z xs R os at_) (h8 : ∀ y ∈ xs, y < 256) (hl : at_ < xs.length) (hw : (oget (xs.drop at_) z).2.2 = 0) :
    Runs z xs R (os ++ [(oget (xs.drop at_) z).1]) (at_ + (oget (xs.drop at_) z).2.1) ∧ 0 < (oget (xs.drop at_) z).2.1 := by
  obtain ⟨_, hR⟩ := h
  have h8' : ∀ y ∈ xs.drop at_, y < 256 := fun y hy => h8 y (List.mem_of_mem_drop hy)
  obtain ⟨hw1, rest, he, htk, hend⟩ := oget_written h8' hw
  have hpos := obytes_pos hw1
  have hle := (oget_lt (z := z) h8').2.2.2
  rw [List.length_drop] at hle
  refine ⟨⟨by omega, ?_⟩, by omega⟩
  rw [hR]
  have hd := drop_cons hl
  rw [hd] at hw ⊢
  have hf : xs.length - at_ = (xs.length - (at_ + 1)) + 1 := by omega
  rw [hf, ords_step hw]
  -- the fuel: as much as bytes are left
  have key : ∀ f f' at' ys, (∀ y ∈ ys, y < 256) → ys.length ≤ f → ys.length ≤ f' → ords z f at' ys = ords z f' at' ys := by
    intro f
    induction f with
    | zero => intro f' at' ys _ h1 h2; have : ys = [] := List.eq_nil_of_length_eq_zero (by omega); subst this; cases f' <;> simp [ords]
    | succ f ih =>
      intro f' at' ys hy8 h1 h2
      cases ys with
      | nil => cases f' <;> simp [ords]
      | cons y r =>
        cases f' with
        | zero => simp at h2
        | succ f' =>
          by_cases h3 : (oget (y :: r) z).2.2 = 0
          · obtain ⟨hw2, _, _, htk2, _⟩ := oget_written hy8 h3
            have hpos2 := obytes_pos hw2
            have hl1 : ((y :: r).drop (oget (y :: r) z).2.1).length ≤ f := by rw [List.length_drop]; omega
            have hl2 : ((y :: r).drop (oget (y :: r) z).2.1).length ≤ f' := by rw [List.length_drop]; omega
            rw [ords_step h3, ords_step h3, ih f' _ _ (fun x hx => hy8 x (List.mem_of_mem_drop hx)) hl1 hl2]
          · rw [ords_stop h3, ords_stop h3]
  rw [← hd]
  rw [← hd] at hw
  have hdd : (xs.drop at_).drop (oget (xs.drop at_) z).2.1 = xs.drop (at_ + (oget (xs.drop at_) z).2.1) := List.drop_drop
  rw [hdd]
  generalize oget (xs.drop at_) z = q at *
  rw [key (xs.length - (at_ + 1)) (xs.length - (at_ + q.2.1)) _ _ (fun y hy => h8 y (List.mem_of_mem_drop hy)) (by rw [List.length_drop]; omega) (by rw [List.length_drop]; omega)]
  by_cases h0 : (ords z (xs.length - (at_ + q.2.1)) (at_ + q.2.1) (xs.drop (at_ + q.2.1))).2.1 = 0
  · simp [h0]
  · simp [h0]
theorem runs_stop {z : Nat} {xs : List Nat} {R : List O × Nat × Nat} {os : List O} {at_ : Nat} (h : Runs z xs R os at_) (hl : at_ < xs.length) (hw : (oget (xs.drop at_) z).2.2 ≠ 0) : R = ([], (oget (xs.drop at_) z).2.2, at_ + (oget (xs.drop at_) z).2.1) := by
  obtain ⟨_, hR⟩ := h
  rw [hR]
  have hd := drop_cons hl
  rw [hd] at hw ⊢
  have hf : xs.length - at_ = (xs.length - (at_ + 1)) + 1 := by omega
  rw [hf, ords_stop hw]
  simp only [if_neg hw]
theorem size_grown {w w' : World} {r : Option Nat} (h : w.grownBy w' r) : w.heap.size ≤ w'.heap.size := h.size
/-- A world that has grown by what a call of its own rows changed. -/
theorem grown_own {w a b : World} {C base : Nat} {v : Value} {os : List O} (hg : w.grownBy a (some C)) (ho : OwnOrds a base v os) (hb : w.heap.size ≤ base) (h : a.grownBy b v.ownBlock) : w.grownBy b (some C) := by
  obtain ⟨us, h1, _⟩ := ho
  refine ⟨h.os.trans hg.os, h.tape.trans hg.tape, h.output.trans hg.output, Nat.le_trans hg.size h.size, fun k hk hr => ?_⟩
  refine (h.block k (Nat.lt_of_lt_of_le hk hg.size) ?_).trans (hg.block k hk hr)
  intro e
  have := own_ge h1 k e.symm
  omega
theorem cur_own {a b : World} {C g at_ base : Nat} {xs : List Nat} {ev : Value} {v : Value} {os : List O} (hu : Cur a C g xs at_ ev) (ho : OwnOrds a base v os) (hC : C < base) (hgb : g < base) (h : a.grownBy b v.ownBlock) : Cur b C g xs at_ ev := by
  obtain ⟨us, h1, _⟩ := ho
  cases hv : v.ownBlock with
  | none => rw [hv] at h; exact hu.below (belowg h)
  | some r =>
    rw [hv] at h
    have := own_ge h1 r hv
    exact hu.other h (by omega) (by omega)
/-- What is told of an error stays behind an append to the orders: no cell of a Spot lies among them. -/
theorem met_own {a b : World} {base : Nat} {v : Value} {os : List O} {ev : Value} {c : Int} {n : Nat} (hm : Met a ev c n) (ho : OwnOrds a base v os) (h : a.grownBy b v.ownBlock) : Met b ev c n := by
  obtain ⟨us, h1, h0, h2⟩ := ho
  cases hv : v.ownBlock with
  | none => rw [hv] at h; exact hm.below (belowg h)
  | some r =>
    rw [hv] at h
    refine hm.other h fun t x hx => ?_
    by_cases hos : os = []
    · rw [h0 hos] at hv; cases hv
    · have hpos : 0 < os.length := List.length_pos_iff.2 hos
      obtain ⟨ta, tn, tc, k1, _⟩ := h2 0 hpos
      have k2 := k1 1 _ rfl
      rcases h1.2 with ⟨rfl, _⟩ | ⟨g, cap, cur, rfl, _, k3, _, _, _, k4⟩
      · cases hv
      · injection hv with hv
        simp only at hv
        subst hv
        rw [← k4, List.getElem?_take_of_lt (by omega), Array.getElem?_toList] at k2
        rw [cell_of_row a g 1 cur _ (0, 0) k3] at hx
        rw [show 0 * 8 + 1 = 1 from rfl, hx] at k2
        cases k2
set_option maxRecDepth 100000 in
set_option maxHeartbeats 8000000 in
theorem takeOrders_any {C g at_ : Nat} {xs : List Nat} (z : Nat) (w : World) (h : Cur w C g xs at_ .nilIface) (h8 : ∀ x ∈ xs, x < 256) (hx : xs.length < 1000000) (R : List O × Nat × Nat) (hR : R = ords z (xs.length - at_) at_ (xs.drop at_)) :
    Calls Tryd.prog 48 #[.pointer (some ⟨C, 0, none⟩), .int .i64 (z : Int)] w fun e w' => ∃ ad n cp, e = .returned (.slice ad n cp) ∧ w.grownBy w' (some C) ∧
      ((R.2.1 = 0 ∧ OwnOrds w' w.heap.size (.slice ad n cp) R.1 ∧ Cur w' C g xs xs.length .nilIface) ∨ (R.2.1 ≠ 0 ∧ ∃ ev at', Cur w' C g xs at' ev ∧ Met w' ev (R.2.1 : Int) R.2.2)) := by
  have HRU := Lib.hid (show Runs z xs R [] at_ by rw [hR]; exact runs_start z xs at_ h.le)
  have HC := Lib.hid h.clt
  have HG := Lib.hid h.glt
  have H8 := Lib.hid h8
  have HX := Lib.hid hx
  have HU := Lib.hid h
  have HW := Lib.hid (grefl w (some C))
  obtain ⟨B, hB⟩ : ∃ B, B = w.heap.size := ⟨_, rfl⟩
  rw [← hB] at HC HG ⊢
  have HB := Lib.hid (show w.heap.size ≤ B by rw [hB]; exact Nat.le_refl _)
  have HB2 := Lib.hid (show B ≤ w.heap.size by rw [hB]; exact Nat.le_refl _)
  clear h h8 hx hR hB
  go_enter Tryd.func48, Tryd.ntmps48
  go_wp2_with fail
  go_loopg [5] (xs.length - at_ + 1) (fun m v wr => (∃ ad n cp, v = .slice ad n cp) ∧ Hid (w.grownBy wr (some C)) ∧ Hid (B ≤ wr.heap.size) ∧ ((∃ os at', Hid (Runs z xs R os at') ∧ Hid (OwnOrds wr B v os) ∧ Hid (os.length ≤ at') ∧ Hid (Cur wr C g xs at' .nilIface) ∧ m = xs.length - at' + 1) ∨ (m = 0 ∧ Hid (R.2.1 ≠ 0) ∧ ∃ ev at' b, Hid (Cur wr C g xs at' ev) ∧ ev = .iface 61 (.pointer (some ⟨b, 0, none⟩)) ∧ Hid (Met wr ev (R.2.1 : Int) R.2.2))))
  case atStart => exact ⟨⟨_, _, _, rfl⟩, HW, HB2, .inl ⟨[], at_, HRU, Lib.hid (ownOrds_nil _ _), Lib.hid (Nat.zero_le _), HU, rfl⟩⟩
  case round =>
    clear HW HB2 HRU HU
    obtain ⟨⟨vad, vn, vcp, rfl⟩, HW, HB2, ⟨os, at', HR, HO, HN, HU, rfl⟩ | ⟨rfl, HE, ev, at', b, HU, rfl, HM⟩⟩ := hrel
    · by_cases hlt : at' < xs.length
      · go_wp2_with fail
        refine (left_b wr HU.out (by have := HX.out; omega)).mono ?_
        rintro e wd ⟨rfl, hb⟩
        replace HU := Lib.hid (HU.out.below hb)
        replace HO := Lib.hid (HO.out.below hb)
        replace HW := Lib.hid (gtrans HW.out (gbelow hb _))
        replace HB2 := Lib.hid (Nat.le_trans HB2.out hb.size)
        clear hb
        go_wp2_with fail
        refine (err_any wd HU.out).mono ?_
        rintro e w' ⟨rfl, rfl⟩
        go_wp2_with fail
        by_cases h0 : (oget (xs.drop at') z).2.2 = 0
        · have HR2 := Lib.hid (runs_step HR.out H8.out hlt h0)
          have HGET := get_right z wd HU.out H8.out (by have := HX.out; omega) h0
          generalize oget (xs.drop at') z = q at *
          obtain ⟨⟨qk, qt, qp, qn, qs, qm, qa, qc⟩, tk, why⟩ := q
          simp only at HGET HR2
          refine HGET.mono ?_
          rintro e w1 ⟨va, n, vc, rfl, ho, hu, hg⟩
          have T1 := own_mono ho HB2.out
          have O1 := HO.out.other hg HC.out
          have HS := al_any w1 (.cells (ocells ⟨qk, qt, qp, qn, qs, qm, qa, qc⟩ (.slice va n vc)).toArray 51)
          have HU3 := Lib.hid (hu.below HS)
          have HO3 := Lib.hid (O1.below HS)
          have HT3 := Lib.hid (own_below T1 HS)
          have HW3 := Lib.hid (gtrans (gtrans HW.out hg) (gbelow HS _))
          have HB3 := Lib.hid (Nat.le_trans HB2.out (Nat.le_trans hg.size HS.size))
          have HL3 := Lib.hid (heap_alloc_new w1 (.cells (ocells ⟨qk, qt, qp, qn, qs, qm, qa, qc⟩ (.slice va n vc)).toArray 51))
          clear HGET ho hu hg T1 O1 HS HU HO HW HB2 HR
          go_wp2_with (at_builtin; refine wpList_mark ?_)
          refine Lib.hid ?_
          refine append_ord rfl (.tmp 14) (.tmp 18) rfl B _ os rfl HO3.out w1.heap.size ⟨qk, qt, qp, qn, qs, qm, qa, qc⟩ va n vc rfl HL3.out HT3.out (by have := HX.out; have := HN.out; omega) HB3.out ?_
          intro v2 w2 hown hgr
          have HO4 := Lib.hid hown
          have HW4 := Lib.hid (grown_own HW3.out HO3.out HB.out hgr)
          have HU4 := Lib.hid (cur_own HU3.out HO3.out HC.out HG.out hgr)
          have HB4 := Lib.hid (Nat.le_trans HB3.out hgr.size)
          clear hown hgr HO3 HW3 HU3 HB3 HT3 HL3
          obtain ⟨ad2, cp2, rfl⟩ := HO4.out.form
          rw [List.length_append] at HO4 ⊢
          go_wp2_with fail
          go_roundg (xs.length - (at' + tk) + 1)
          case measure => have := HR2.out.2; have := HU4.out.le; omega
          case rel => exact ⟨⟨_, _, _, rfl⟩, HW4, HB4, .inl ⟨_, _, Lib.hid HR2.out.1, HO4, Lib.hid (by rw [List.length_append]; simp only [List.length_cons, List.length_nil]; have := HR2.out.2; have := HN.out; omega), HU4, rfl⟩⟩
        · have HR2 := Lib.hid (runs_stop HR.out hlt h0)
          have HGET := get_wrong z wd HU.out H8.out (by have := HX.out; omega) h0
          have HH0 := Lib.hid h0
          clear h0
          generalize oget (xs.drop at') z = q at *
          obtain ⟨_, tk, why⟩ := q
          simp only at HGET HR2 HH0
          refine HGET.mono ?_
          rintro e w1 ⟨rfl, ev, hu, hm, hg⟩
          have O1 := HO.out.other hg HC.out
          have HS := al_any w1 (.cells (ocells none_ (.slice none 0 0)).toArray 51)
          have HU3 := Lib.hid (hu.below HS)
          have HO3 := Lib.hid (O1.below HS)
          have HM3 := Lib.hid (hm.below HS)
          have HW3 := Lib.hid (gtrans (gtrans HW.out hg) (gbelow HS _))
          have HB3 := Lib.hid (Nat.le_trans HB2.out (Nat.le_trans hg.size HS.size))
          have HL3 := Lib.hid (heap_alloc_new w1 (.cells (ocells none_ (.slice none 0 0)).toArray 51))
          clear HGET hu hm hg O1 HS HU HO HW HB2 HR
          go_wp2_with (at_builtin; refine wpList_mark ?_)
          refine Lib.hid ?_
          refine append_ord rfl (.tmp 14) (.tmp 18) rfl B _ os rfl HO3.out w1.heap.size none_ none 0 0 rfl HL3.out (own_none _ _) (by have := HX.out; have := HN.out; omega) HB3.out ?_
          intro v2 w2 hown hgr
          have HW4 := Lib.hid (grown_own HW3.out HO3.out HB.out hgr)
          have HU4 := Lib.hid (cur_own HU3.out HO3.out HC.out HG.out hgr)
          have HM4 := Lib.hid (met_own HM3.out HO3.out hgr)
          have HB4 := Lib.hid (Nat.le_trans HB3.out hgr.size)
          obtain ⟨ad2, cp2, rfl⟩ := hown.form
          clear hown hgr HO3 HW3 HU3 HB3 HL3 HM3
          have HM5 := HM4.out
          obtain ⟨b, rfl, _⟩ := HM5
          go_wp2_with fail
          go_roundg 0
          case measure => omega
          case rel => exact ⟨⟨_, _, _, rfl⟩, HW4, HB4, .inr ⟨rfl, Lib.hid (by rw [HR2.out]; exact HH0.out), _, _, b, HU4, rfl, Lib.hid (by rw [HR2.out]; exact HM4.out)⟩⟩
      · go_wp2_with fail
        refine (left_b wr HU.out (by have := HX.out; omega)).mono ?_
        rintro e wd ⟨rfl, hb⟩
        replace HU := Lib.hid (HU.out.below hb)
        replace HO := Lib.hid (HO.out.below hb)
        replace HW := Lib.hid (gtrans HW.out (gbelow hb _))
        clear hb
        have hat : at' = xs.length := by have := HU.out.le; omega
        go_wp2_with fail
        go_ret
        subst hat
        have e := runs_end HR.out
        exact ⟨_, _, _, rfl, HW.out, .inl ⟨by rw [e], by rw [e]; exact HO.out, HU.out⟩⟩
    · by_cases hlt : at' < xs.length
      · go_wp2_with fail
        refine (left_b wr HU.out (by have := HX.out; omega)).mono ?_
        rintro e wd ⟨rfl, hb⟩
        replace HU := Lib.hid (HU.out.below hb)
        replace HM := Lib.hid (HM.out.below hb)
        replace HW := Lib.hid (gtrans HW.out (gbelow hb _))
        clear hb
        go_wp2_with fail
        refine (err_any wd HU.out).mono ?_
        rintro e w' ⟨rfl, rfl⟩
        go_wp2_with fail
        go_ret
        exact ⟨_, _, _, rfl, HW.out, .inr ⟨HE.out, _, _, HU.out, HM.out⟩⟩
      · go_wp2_with fail
        refine (left_b wr HU.out (by have := HX.out; omega)).mono ?_
        rintro e wd ⟨rfl, hb⟩
        replace HU := Lib.hid (HU.out.below hb)
        replace HM := Lib.hid (HM.out.below hb)
        replace HW := Lib.hid (gtrans HW.out (gbelow hb _))
        clear hb
        go_wp2_with fail
        go_ret
        exact ⟨_, _, _, rfl, HW.out, .inr ⟨HE.out, _, _, HU.out, HM.out⟩⟩
/-- Behind an error nothing is taken. -/
theorem takeOrders_met {C g at_ b wh : Nat} {c : Int} {xs : List Nat} (z : Int) (w : World) (hu : Cur w C g xs at_ (.iface 61 (.pointer (some ⟨b, 0, none⟩)))) (hm : Met w (.iface 61 (.pointer (some ⟨b, 0, none⟩))) c wh) (hx : xs.length < 1000000) :
    Calls Tryd.prog 48 #[.pointer (some ⟨C, 0, none⟩), .int .i64 z] w fun e w' => e = .returned (.slice none 0 0) ∧ Cur w' C g xs at_ (.iface 61 (.pointer (some ⟨b, 0, none⟩))) ∧ Met w' (.iface 61 (.pointer (some ⟨b, 0, none⟩))) c wh ∧ w.grownBy w' (some C) := by
  have HU := Lib.hid hu
  have HM := Lib.hid hm
  have HW := Lib.hid (grefl w (some C))
  have HX := Lib.hid hx
  clear hu hm hx
  go_enter Tryd.func48, Tryd.ntmps48
  go_wp2_with fail
  go_loopg [5] 1 (fun m v wr => m = 1 ∧ v = .slice none 0 0 ∧ wr = w)
  case atStart => exact ⟨rfl, rfl, rfl⟩
  case round =>
    obtain ⟨rfl, rfl, rfl⟩ := hrel
    by_cases hlt : at_ < xs.length
    · go_wp2_with fail
      refine (left_b wr HU.out (by have := HX.out; omega)).mono ?_
      rintro e wd ⟨rfl, hb⟩
      have HU2 := Lib.hid (HU.out.below hb)
      have HM2 := Lib.hid (HM.out.below hb)
      have HW2 := Lib.hid (gtrans HW.out (gbelow hb _))
      clear hb HU HM HW
      go_wp2_with fail
      refine (err_any wd HU2.out).mono ?_
      rintro e w' ⟨rfl, rfl⟩
      go_wp2_with fail
      go_ret
      exact ⟨rfl, HU2.out, HM2.out, HW2.out⟩
    · go_wp2_with fail
      refine (left_b wr HU.out (by have := HX.out; omega)).mono ?_
      rintro e wd ⟨rfl, hb⟩
      have HU2 := Lib.hid (HU.out.below hb)
      have HM2 := Lib.hid (HM.out.below hb)
      have HW2 := Lib.hid (gtrans HW.out (gbelow hb _))
      clear hb HU HM HW
      go_wp2_with fail
      go_ret
      exact ⟨rfl, HU2.out, HM2.out, HW2.out⟩
end Str
end Go.Proofs.YtmllmmamdkjndaaDoor
