/- ErrAsw, InpRuns, InpLets, InpText, InpField, InpFields, InpInput, InpRead in one text (by tools/bundle.py). -/
import Derived.Test.YtpdlpmbjhopnnaaGreatDoorBunErr
import Derived.Test.YtpdlpmbjhopnnaaGreatDoorBunInp
import Derived.Test.YtpdlpmbjhopnnaaGreatDoorBunByt
import Derived.Deep.Cut
import Derived.Deep.RegionHeld3
/- errors.As of a Spot at a variable for one, at whatever place (Code2's as_spot_w, for seats without api.Where). -/
namespace Go.Proofs.YtpdlpmbjhopnnaaGreatDoor
open Go.RowKit
namespace Err
theorem as_spot_v (b : Nat) (old : Value) (t : Nat) (w : World) (hg : Handle w) (ht0 : w.cell? ⟨t, 0, none⟩ = some old) (hf0 : w.frozen? ⟨t, 0, none⟩ = false) :
    Calls Tryz.prog 35 #[.iface 84 (.pointer (some ⟨b, 0, none⟩)), .iface 100 (.pointer (some ⟨t, 0, none⟩))] w fun ev w' => ev = .returned (.bool true) ∧ Below t w w' ∧ w'.cell? ⟨t, 0, none⟩ = some (.pointer (some ⟨b, 0, none⟩)) := by
  have htl : t < w.heap.size := by
    rcases Nat.lt_or_ge t w.heap.size with h | h
    · exact h
    · simp [World.cell?, Array.getElem?_eq_none h] at ht0
  refine (as_spot b ⟨t, 0, none⟩ old w hg ht0 hf0).mono ?_
  rintro e w' ⟨rfl, rfl⟩
  refine ⟨rfl, ((((Below.refl _ _).alloc (by omega) _).alloc (by simp; omega) _).alloc (by simp; omega) _).alloc (by simp; omega) _ |>.setCell (p := ⟨t, 0, none⟩) (by simp) _, ?_⟩
  refine World.cell?_setCell_same' _ _ _ ?_
  rw [World.cell?_alloc_lt _ _ ⟨t, 0, none⟩ (by simp; omega), World.cell?_alloc_lt _ _ ⟨t, 0, none⟩ (by simp; omega), World.cell?_alloc_lt _ _ ⟨t, 0, none⟩ (by simp; omega), World.cell?_alloc_lt _ _ ⟨t, 0, none⟩ htl, ht0]; rfl
end Err
end Go.Proofs.YtpdlpmbjhopnnaaGreatDoor
/- Plain: reading fields, round by round. -/
namespace Go.Proofs.YtpdlpmbjhopnnaaGreatDoor
open Six
namespace Inp
open Att Adr
def pre (os : List F) (q : List F × Nat × Nat) : List F × Nat × Nat := if q.2.1 ≠ 0 then ([], q.2) else (os ++ q.1, q.2)
/-- The fields os were read, the place is at_; Q is what will have been read of all. -/
def Runs (z : Nat) (xs : List Nat) (Q : List F × Nat × Nat) (os : List F) (at_ : Nat) : Prop := at_ ≤ xs.length ∧ ∃ f, xs.length - at_ ≤ f ∧ Q = pre os (flds z f at_ (xs.drop at_))
theorem flds_fail (z : Nat) : ∀ (f at_ : Nat) (ys : List Nat), (flds z f at_ ys).2.1 ≠ 0 → (flds z f at_ ys).1 = [] := by
  intro f at_ ys h
  cases f with
  | zero => rfl
  | succ f =>
    cases ys with
    | nil => rfl
    | cons y r =>
      simp only [flds] at h ⊢
      split
      · rfl
      · rename_i h1
        rw [if_neg h1] at h
        split
        · rfl
        · rename_i h2
          rw [if_neg h2] at h
          split
          · rfl
          · rename_i h3
            rw [if_neg h3] at h
            exact absurd h h3
theorem pre_nil (z f at_ : Nat) (ys : List Nat) : pre [] (flds z f at_ ys) = flds z f at_ ys := by
  unfold pre
  split
  · rename_i h
    have := flds_fail z f at_ ys h
    generalize flds z f at_ ys = q at *
    obtain ⟨a, b⟩ := q
    simp only at this
    rw [this]
  · simp
theorem runs_start {z : Nat} {xs : List Nat} {f at_ : Nat} (ha : at_ ≤ xs.length) (hf : xs.length - at_ ≤ f) : Runs z xs (flds z f at_ (xs.drop at_)) [] at_ := ⟨ha, f, hf, (pre_nil _ _ _ _).symm⟩
theorem rest_drop (T : List Nat) : rest T = T.drop (lets T).length := by
  conv => rhs; rw [← lets_rest T]
  rw [lets_rest]
  have := lets_rest T
  conv => rhs; arg 2; rw [← this]
  simp
theorem drop_at {xs : List Nat} {at_ : Nat} (h : at_ < xs.length) : xs.drop at_ = xs.getD at_ 0 :: xs.drop (at_ + 1) := by
  rw [List.getD_eq_getElem?_getD, List.getElem?_eq_getElem h]
  exact List.drop_eq_getElem_cons h
theorem runs_end {z : Nat} {xs : List Nat} {Q : List F × Nat × Nat} {os : List F} (h : Runs z xs Q os xs.length) : Q = (os, 0, xs.length) := by
  obtain ⟨_, f, _, rfl⟩ := h
  rw [List.drop_length]
  cases f <;> simp [flds, pre]
theorem runs_bad {z : Nat} {xs : List Nat} {Q : List F × Nat × Nat} {os : List F} {at_ : Nat} (h : Runs z xs Q os at_) (hlt : at_ < xs.length) (hb : xs.getD at_ 0 ≠ 17) : Q = ([], 3, at_) := by
  obtain ⟨_, f, hf, rfl⟩ := h
  cases f with
  | zero => omega
  | succ f => rw [drop_at hlt]; simp only [flds, if_pos hb, pre]; rfl
theorem runs_addr {z : Nat} {xs : List Nat} {Q : List F × Nat × Nat} {os : List F} {at_ : Nat} (h : Runs z xs Q os at_) (hlt : at_ < xs.length) (hb : xs.getD at_ 0 = 17) (ha : (aspec (xs.drop (at_ + 1)) z).2.1 ≠ 0) : Q = ([], (aspec (xs.drop (at_ + 1)) z).2.1, at_ + 1) := by
  obtain ⟨_, f, hf, rfl⟩ := h
  cases f with
  | zero => omega
  | succ f =>
    rw [drop_at hlt]
    simp only [flds, hb, ne_eq, not_true_eq_false, if_false, if_pos (show ¬ (aspec (xs.drop (at_ + 1)) z).2.1 = 0 from ha), pre]
theorem runs_step {z : Nat} {xs : List Nat} {Q : List F × Nat × Nat} {os : List F} {at_ : Nat} (h : Runs z xs Q os at_) (hlt : at_ < xs.length) (hb : xs.getD at_ 0 = 17) (h8 : ∀ y ∈ xs, y < 256) (ha : (aspec (xs.drop (at_ + 1)) z).2.1 = 0) :
    at_ + 3 + (lets (xs.drop (at_ + 3))).length ≤ xs.length ∧ Runs z xs Q (os ++ [⟨((aspec (xs.drop (at_ + 1)) z).1 : Int), lets (xs.drop (at_ + 3))⟩]) (at_ + 3 + (lets (xs.drop (at_ + 3))).length) := by
  obtain ⟨a, r2, _, _, hr, _⟩ := put_aspec (xs.drop (at_ + 1)) z (fun y hy => h8 y (List.mem_of_mem_drop hy)) ha
  have hl := congrArg List.length hr
  simp only [List.length_drop, List.length_cons] at hl
  have hle := congrArg List.length (lets_rest (xs.drop (at_ + 3)))
  simp only [List.length_append, List.length_drop] at hle
  have hd : (xs.drop (at_ + 1)).drop 2 = xs.drop (at_ + 3) := by rw [List.drop_drop]
  have hr3 : rest (xs.drop (at_ + 3)) = xs.drop (at_ + 3 + (lets (xs.drop (at_ + 3))).length) := by rw [rest_drop, List.drop_drop]
  have hfin : at_ + 3 + (lets (xs.drop (at_ + 3))).length ≤ xs.length := by omega
  refine ⟨hfin, hfin, ?_⟩
  obtain ⟨_, f, hf, rfl⟩ := h
  cases f with
  | zero => omega
  | succ f =>
    refine ⟨f, by omega, ?_⟩
    rw [drop_at hlt]
    simp only [flds, hb, ne_eq, not_true_eq_false, if_false, ha, hd, hr3]
    generalize flds z f _ _ = q
    unfold pre
    by_cases hq : q.2.1 = 0
    · simp [hq]
    · simp [hq]
end Inp
end Go.Proofs.YtpdlpmbjhopnnaaGreatDoor
/- Plain: letters at the beginning of bytes. -/
namespace Go.Proofs.YtpdlpmbjhopnnaaGreatDoor
namespace Inp
theorem lets_at {T : List Nat} : ∀ {k : Nat}, k ≤ (lets T).length → k < T.length → letter (T.getD k 0) = decide (k < (lets T).length) := by
  induction T with
  | nil => intro k _ h; simp at h
  | cons x T ih =>
    intro k h1 h2
    cases hx : letter x with
    | false =>
      have e : lets (x :: T) = [] := by simp [lets, hx]
      rw [e] at h1 ⊢
      have : k = 0 := by simpa using h1
      subst this
      simpa using hx
    | true =>
      have e : lets (x :: T) = x :: lets T := by simp [lets, hx]
      rw [e] at h1 ⊢
      cases k with
      | zero => simpa using hx
      | succ k =>
        simp only [List.length_cons] at h1 h2 ⊢
        rw [List.getD_cons_succ, ih (by omega) (by omega)]
        simp
theorem lets_le (T : List Nat) : (lets T).length ≤ T.length := by
  have := congrArg List.length (lets_rest T)
  simp only [List.length_append] at this; omega
end Inp
end Go.Proofs.YtpdlpmbjhopnnaaGreatDoor
/- takeAid and takeText of package input. -/
namespace Go.Proofs.YtpdlpmbjhopnnaaGreatDoor
open Go.RowKit Sha Cut Err Six Att Byt Apd
namespace Inp
/-- A world that has grown by what an append to a row of the call's own changed. -/
theorem grown_row {w a b : World} {C base e n : Nat} {sz : Nat} {v : Value} {us : List Value} (hg : w.grownBy a (some C)) (ho : a.ownsRow base e sz v n us) (hb : w.heap.size ≤ base) (h : a.grownBy b v.ownBlock) : w.grownBy b (some C) := by
  refine ⟨h.os.trans hg.os, h.tape.trans hg.tape, h.output.trans hg.output, Nat.le_trans hg.size h.size, fun k hk hr => ?_⟩
  refine (h.block k (Nat.lt_of_lt_of_le hk hg.size) ?_).trans (hg.block k hk hr)
  intro e
  have := own_ge ho k e.symm
  omega
theorem cur_row {a b : World} {C g at_ base e n : Nat} {sz : Nat} {xs : List Nat} {ev : Value} {v : Value} {us : List Value} (hu : Cur a C g xs at_ ev) (ho : a.ownsRow base e sz v n us) (hC : C < base) (hgb : g < base) (h : a.grownBy b v.ownBlock) : Cur b C g xs at_ ev := by
  cases hv : v.ownBlock with
  | none => rw [hv] at h; exact hu.below (belowg h)
  | some r =>
    rw [hv] at h
    have := own_ge ho r hv
    exact hu.other h (by omega) (by omega)
set_option maxHeartbeats 1000000 in
theorem takeAid_none {C g at_ : Nat} {xs : List Nat} (w : World) (h : Byt.Cur w C g xs at_ .nilIface) (hl : xs.length ≤ at_) :
    Calls Tryz.prog 97 #[.pointer (some ⟨C, 0, none⟩)] w fun e w' => e = .returned (.int .u8 0) ∧ ∃ ev, Cur w' C g xs at_ ev ∧ Byt.Met w' ev 2 at_ ∧ w.grownBy w' (some C) := by
  have HP := Lib.hid (peek_none w h hl)
  have HF := Lib.hid (fun m => byte_none (w.drewN m) (h.drewN m) hl)
  clear h
  go_enter Tryz.func97, Tryz.ntmps97
  go_wp2_with fail
  with_reducible refine HP.out.mono ?_
  rintro e w1 ⟨rfl, m, rfl⟩
  go_wp2_with fail
  with_reducible refine (HF.out m).mono ?_
  rintro e w2 ⟨rfl, ev, h1, h2, h3⟩
  have HR := Lib.hid (show ∃ ev, Cur w2 C g xs at_ ev ∧ Byt.Met w2 ev 2 at_ ∧ w.grownBy w2 (some C) from ⟨ev, h1, h2, gtrans (gdrewN w m _) h3⟩)
  clear h1 h2 h3 HF HP
  go_wp2_with fail
  go_ret
  exact ⟨rfl, HR.out⟩
set_option maxHeartbeats 1000000 in
theorem takeAid_bad {C g at_ : Nat} {xs : List Nat} (w : World) (h : Byt.Cur w C g xs at_ .nilIface) (hl : at_ < xs.length) (hb8 : xs.getD at_ 0 < 256) (hk : aid (xs.getD at_ 0) = false) :
    Calls Tryz.prog 97 #[.pointer (some ⟨C, 0, none⟩)] w fun e w' => e = .returned (.int .u8 0) ∧ ∃ ev, Cur w' C g xs at_ ev ∧ Byt.Met w' ev 3 at_ ∧ w.grownBy w' (some C) := by
  have HP := Lib.hid (peek_ok w h hl)
  have HF := Lib.hid (fun m => fail_new (d := 0) (.iface 71 (.int .i64 3)) 3 (w.drewN m) (h.drewN m) rfl)
  have HK := Lib.hid fun W => aid_any (xs.getD at_ 0) W hb8
  rw [hk] at HK
  clear h hk hb8
  generalize xs.getD at_ 0 = x at *
  go_enter Tryz.func97, Tryz.ntmps97
  go_wp2_with fail
  with_reducible refine HP.out.mono ?_
  rintro e w1 ⟨rfl, m, rfl⟩
  go_wp2_with fail
  with_reducible refine (HK.out _).mono ?_
  rintro e w1 ⟨rfl, rfl⟩
  go_wp2_with fail
  with_reducible refine (HF.out m).mono ?_
  rintro e w2 ⟨rfl, ev, h1, h2, h3⟩
  obtain ⟨b, rfl, h2⟩ := h2
  have HU := Lib.hid h1
  have HR := Lib.hid (show ∃ ev, Cur w2 C g xs at_ ev ∧ Byt.Met w2 ev 3 at_ ∧ w.grownBy w2 (some C) from ⟨_, h1, ⟨b, rfl, h2⟩, gtrans (gdrewN w m _) h3⟩)
  clear h1 h2 h3 HF HP HK
  go_wp2_with fail
  with_reducible refine (byte_met w2 HU.out).mono ?_
  rintro e w3 ⟨rfl, rfl⟩
  go_wp2_with fail
  go_ret
  exact ⟨rfl, HR.out⟩
set_option maxHeartbeats 1000000 in
theorem takeAid_ok {C g at_ : Nat} {xs : List Nat} (w : World) (h : Byt.Cur w C g xs at_ .nilIface) (hx : xs.length < 1000000000) (hl : at_ < xs.length) (hb8 : xs.getD at_ 0 < 256) (hk : aid (xs.getD at_ 0) = true) :
    Calls Tryz.prog 97 #[.pointer (some ⟨C, 0, none⟩)] w fun e w' => e = .returned (.int .u8 ((xs.getD at_ 0 : Nat) : Int)) ∧ Cur w' C g xs (at_ + 1) .nilIface ∧ w.grownBy w' (some C) := by
  have HP := Lib.hid (peek_ok w h hl)
  have HK := Lib.hid fun W => aid_any (xs.getD at_ 0) W hb8
  have HB := Lib.hid (fun m => byte_ok (w.drewN m) (h.drewN m) hl hx)
  rw [hk] at HK
  clear h hk hb8
  generalize xs.getD at_ 0 = x at *
  go_enter Tryz.func97, Tryz.ntmps97
  go_wp2_with fail
  with_reducible refine HP.out.mono ?_
  rintro e w1 ⟨rfl, m, rfl⟩
  go_wp2_with fail
  with_reducible refine (HK.out _).mono ?_
  rintro e w1 ⟨rfl, rfl⟩
  go_wp2_with fail
  with_reducible refine (HB.out m).mono ?_
  rintro e w2 ⟨rfl, h1, h2⟩
  have H1 := Lib.hid h1
  have H2 := Lib.hid (gtrans (gdrewN w m _) h2)
  clear h1 h2 HB HP HK
  go_wp2_with fail
  go_ret
  exact ⟨rfl, H1.out, H2.out⟩
/-- What Peek tells at a place. -/
def pk (xs : List Nat) (j : Nat) : Nat := if j < xs.length then xs.getD j 0 else 0
def pok (xs : List Nat) (j : Nat) : Bool := decide (j < xs.length)
theorem peek_any {C g at_ : Nat} {xs : List Nat} (w : World) (h : Cur w C g xs at_ .nilIface) :
    Calls Tryz.prog 112 #[.pointer (some ⟨C, 0, none⟩)] w fun e w' => e = .returned (.tuple #[.int .u8 (pk xs at_ : Int), .bool (pok xs at_)]) ∧ Below w.heap.size w w' := by
  by_cases hl : at_ < xs.length
  · refine (peek_ok w h hl).mono ?_
    rintro e w' ⟨rfl, m, rfl⟩
    refine ⟨?_, drewN_below _ _ _⟩
    unfold pk pok; rw [if_pos hl, decide_eq_true hl]
  · refine (peek_none w h (by omega)).mono ?_
    rintro e w' ⟨rfl, m, rfl⟩
    refine ⟨?_, drewN_below _ _ _⟩
    unfold pk pok; rw [if_neg hl, decide_eq_false hl]; rfl
theorem takeText_met {C g at_ b : Nat} {xs : List Nat} (w : World) (h : Cur w C g xs at_ (.iface 84 (.pointer (some ⟨b, 0, none⟩)))) :
    Calls Tryz.prog 126 #[.pointer (some ⟨C, 0, none⟩)] w fun e w' => e = .returned (.slice none 0 0) ∧ w = w' := by
  have HP := Lib.hid (peek_met w h)
  clear h
  go_enter Tryz.func126, Tryz.ntmps126
  go_wp2_with fail
  with_reducible refine HP.out.mono ?_
  rintro e w' ⟨rfl, rfl⟩
  go_wp2_with fail
  go_loopg [3, 4, 5] 1 (fun m t b ok wr => m = 1 ∧ t = .slice none 0 0 ∧ b = .int .u8 0 ∧ ok = .bool false ∧ wr = w)
  case atStart => exact ⟨rfl, rfl, rfl, rfl, rfl⟩
  case round =>
    obtain ⟨rfl, rfl, rfl, rfl, rfl⟩ := hrel
    go_wp2_with fail
    go_ret
    exact ⟨rfl, rfl⟩
theorem lets_take (T : List Nat) : lets T = T.take (lets T).length := by
  have h := lets_rest T
  conv => rhs; arg 2; rw [← h]
  rw [List.take_left]
set_option maxRecDepth 100000 in
set_option maxHeartbeats 8000000 in
theorem takeText_any {C g at_ : Nat} {xs : List Nat} (w : World) (h : Cur w C g xs at_ .nilIface) (h8 : ∀ x ∈ xs, x < 256) (hx : xs.length < 1000000) :
    Calls Tryz.prog 126 #[.pointer (some ⟨C, 0, none⟩)] w fun e w' => ∃ ta tc, e = .returned (.slice ta (lets (xs.drop at_)).length tc) ∧ w'.ownsRow w.heap.size 5 1 (.slice ta (lets (xs.drop at_)).length tc) (lets (xs.drop at_)).length (u8s (lets (xs.drop at_))) ∧ Cur w' C g xs (at_ + (lets (xs.drop at_)).length) .nilIface ∧ w.grownBy w' (some C) := by
  have HP := Lib.hid (peek_any w h)
  have HT := Lib.hid (lets_le (xs.drop at_))
  have HAT := Lib.hid (fun k => lets_at (T := xs.drop at_) (k := k))
  have HTK := Lib.hid (lets_take (xs.drop at_))
  have HD : Hid ((xs.drop at_).length = xs.length - at_) := List.length_drop
  have HG : Hid (∀ k, (xs.drop at_).getD k 0 = xs.getD (at_ + k) 0) := fun k => by simp [List.getD_eq_getElem?_getD, List.getElem?_drop]
  generalize (lets (xs.drop at_)).length = L at *
  generalize lets (xs.drop at_) = LT at *
  generalize xs.drop at_ = T at *
  have HCL := Lib.hid h.clt
  have HGL := Lib.hid h.glt
  have HLE := Lib.hid h.le
  have H8 := Lib.hid h8
  have HX := Lib.hid hx
  have HU := Lib.hid h
  obtain ⟨B, hB⟩ : ∃ B, B = w.heap.size := ⟨_, rfl⟩
  rw [← hB] at HCL HGL ⊢
  have HB := Lib.hid (show w.heap.size ≤ B by rw [hB]; exact Nat.le_refl _)
  have HB2 := Lib.hid (show B ≤ w.heap.size by rw [hB]; exact Nat.le_refl _)
  clear h h8 hx hB
  go_enter Tryz.func126, Tryz.ntmps126
  go_wp2_with fail
  with_reducible refine HP.out.mono ?_
  rintro e w1 ⟨rfl, hb⟩
  have HU1 := Lib.hid (HU.out.below hb)
  have HW1 := Lib.hid (gbelow hb (some C))
  have HS1 := Lib.hid (Nat.le_trans HB2.out hb.size)
  clear hb HP HU HB2
  go_wp2_with fail
  go_loopg [3, 4, 5] (L + 1) (fun m t b ok wr => ∃ k : Nat, k ≤ L ∧ m = L + 1 - k ∧ b = .int .u8 (pk xs (at_ + k) : Int) ∧ ok = .bool (pok xs (at_ + k)) ∧ (∃ ta tc, t = .slice ta k tc ∧ Hid (wr.ownsRow B 5 1 (.slice ta k tc) k (u8s (T.take k)))) ∧ Hid (Cur wr C g xs (at_ + k) .nilIface) ∧ Hid (w.grownBy wr (some C)) ∧ Hid (B ≤ wr.heap.size))
  case atStart => exact ⟨0, Nat.zero_le _, rfl, rfl, rfl, ⟨none, 0, rfl, Lib.hid (by simpa [u8s] using World.ownsRow_nil w1 B 5 1)⟩, HU1, HW1, HS1⟩
  case round =>
    clear HU1 HW1 HS1
    obtain ⟨k, hk, rfl, rfl, rfl, ⟨ta, tc, rfl, HO⟩, HU, HW, HS⟩ := hrel
    by_cases hlt : at_ + k < xs.length
    · have HXX := Lib.hid (HAT.out k hk (by have := HD.out; have := HLE.out; omega))
      rw [HG.out] at HXX
      have hm : xs.getD (at_ + k) 0 < 256 := by
        rw [List.getD_eq_getElem?_getD, List.getElem?_eq_getElem hlt]; exact H8.out _ (List.getElem_mem hlt)
      rw [show pk xs (at_ + k) = xs.getD (at_ + k) 0 from if_pos hlt, show pok xs (at_ + k) = true from decide_eq_true hlt]
      have HR := Lib.hid fun W => letter_any (xs.getD (at_ + k) 0) W hm
      rw [HXX.out] at HR
      have HBY := Lib.hid (byte_ok wr HU.out hlt (by have := HX.out; omega))
      have HTS := Lib.hid (show T.take (k + 1) = T.take k ++ [xs.getD (at_ + k) 0] by
        have hkT : k < T.length := by have := HD.out; have := HLE.out; omega
        rw [List.take_succ_eq_append_getElem hkT, ← HG.out, List.getD_eq_getElem?_getD, List.getElem?_eq_getElem hkT]; rfl)
      generalize xs.getD (at_ + k) 0 = b at *
      have HM := Lib.hid hm
      clear HXX hm
      by_cases hkL : k < L
      · rw [decide_eq_true hkL] at HR
        clear HU
        go_wp2_with fail
        with_reducible refine (HR.out _).mono ?_
        rintro e w1 ⟨rfl, rfl⟩
        go_wp2_with fail
        with_reducible refine HBY.out.mono ?_
        rintro e w2 ⟨rfl, hu, hg⟩
        have A3 := al_any w2 (.cells (u8s [b]).toArray 5)
        have U3 := Lib.hid (hu.below A3)
        have O3 := Lib.hid (own_below (own_other HO.out hg HCL.out) A3)
        have W3 := Lib.hid (gtrans (gtrans HW.out hg) (gbelow A3 _))
        have S3 := Lib.hid (Nat.le_trans HS.out (Nat.le_trans hg.size A3.size))
        clear A3 hu hg HBY HR HO HW HS
        go_wp2_with (at_builtin; refine wpList_mark ?_)
        refine Lib.hid ?_
        refine append_own rfl (.tmp 21) (.tmp 24) rfl B _ k _ rfl O3.out (some ⟨w2.heap.size, 0, none⟩) 1 1 [b] rfl rfl nofun (bytes_src (lit_in w2 [b])) (by have := HX.out; omega) S3.out ?_
        intro v4 w4 hown hgr _
        have U4 := Lib.hid (cur_row U3.out O3.out HCL.out HGL.out hgr)
        have W4 := Lib.hid (grown_row W3.out O3.out HB.out hgr)
        have S4 := Lib.hid (Nat.le_trans S3.out hgr.size)
        have O4 := Lib.hid (show w4.ownsRow B 5 1 v4 (k + 1) (u8s (T.take (k + 1))) by
          rw [HTS.out]
          have e2 : u8s (T.take k ++ [b]) = u8s (T.take k) ++ u8s [b] := by simp [u8s]
          rw [e2]; exact hown)
        obtain ⟨va, vc, rfl⟩ := own_form O4.out
        clear hown hgr U3 W3 S3 O3 HTS HM
        go_wp2_with fail
        with_reducible refine (peek_any w4 U4.out).mono ?_
        rintro e w5 ⟨rfl, hb⟩
        have U5 := Lib.hid (U4.out.below hb)
        have W5 := Lib.hid (gtrans W4.out (gbelow hb _))
        have S5 := Lib.hid (Nat.le_trans S4.out hb.size)
        have O5 := Lib.hid (own_below O4.out hb)
        clear hb U4 W4 S4 O4
        go_wp2_with fail
        go_roundg (L + 1 - (k + 1))
        case measure => omega
        case rel => exact ⟨k + 1, by omega, rfl, rfl, rfl, ⟨_, _, rfl, O5⟩, U5, W5, S5⟩
      · rw [decide_eq_false hkL] at HR
        obtain rfl : k = L := by omega
        rw [← HTK.out] at HO
        clear hkL hk HTS HBY
        go_wp2_with fail
        with_reducible refine (HR.out _).mono ?_
        rintro e w1 ⟨rfl, rfl⟩
        go_wp2_with fail
        go_ret
        exact ⟨_, _, rfl, HO.out, HU.out, HW.out⟩
    · have hkL : k = L := by have := HT.out; have := HD.out; have := HLE.out; omega
      rw [show pok xs (at_ + k) = false from decide_eq_false hlt]
      subst hkL
      rw [← HTK.out] at HO
      clear hk hlt
      generalize pk xs (at_ + k) = b at *
      go_wp2_with fail
      go_ret
      exact ⟨_, _, rfl, HO.out, HU.out, HW.out⟩
end Inp
end Go.Proofs.YtpdlpmbjhopnnaaGreatDoor
/- takeField of package input. -/
namespace Go.Proofs.YtpdlpmbjhopnnaaGreatDoor
open Go.RowKit Sha Cut Err Six Att Byt Apd
namespace Inp
theorem set2g {w a : World} {B : Nat} {r : Option Nat} {t : TypeId} {a0 a1 : Value} (u0 u1 : Value) (h : a.heap[B]? = some (.cells #[a0, a1] t (0, 0))) (hg : w.grownBy a r) (hB : w.heap.size ≤ B) :
    ((a.setCell ⟨B, 0, none⟩ u0).setCell ⟨B, 1, none⟩ u1).heap[B]? = some (.cells #[u0, u1] t (0, 0)) ∧
    a.grownBy ((a.setCell ⟨B, 0, none⟩ u0).setCell ⟨B, 1, none⟩ u1) (some B) ∧
    w.grownBy ((a.setCell ⟨B, 0, none⟩ u0).setCell ⟨B, 1, none⟩ u1) r := by
  have h := heap_setCell_same _ B 0 _ t u0 h
  have h := heap_setCell_same _ B 1 _ t u1 h
  have hs : a.grownBy ((a.setCell ⟨B, 0, none⟩ u0).setCell ⟨B, 1, none⟩ u1) (some B) := gtrans (gsetCell _ _ _ _) (gsetCell _ _ _ _)
  exact ⟨h, hs, gnew hg hs hB⟩
theorem cells2 {w : World} {B : Nat} {t : TypeId} {a0 a1 : Value} (h : w.heap[B]? = some (.cells #[a0, a1] t (0, 0))) : w.cell? ⟨B, 0, none⟩ = some a0 ∧ w.cell? ⟨B, 1, none⟩ = some a1 :=
  ⟨cell_of_row _ _ 0 _ _ _ h, cell_of_row _ _ 1 _ _ _ h⟩
theorem free2 {w : World} {B : Nat} {t : TypeId} {a0 a1 : Value} (h : w.heap[B]? = some (.cells #[a0, a1] t (0, 0))) : w.frozen? ⟨B, 0, none⟩ = false ∧ w.frozen? ⟨B, 1, none⟩ = false := by
  obtain ⟨h0, h1⟩ := cells2 h
  constructor <;> simp [World.frozen?, h]
set_option maxRecDepth 100000 in
set_option maxHeartbeats 8000000 in
/-- A field that stands there. -/
theorem takeField_ok {C g at_ : Nat} {xs : List Nat} (z : Nat) (w : World) (h : Cur w C g xs at_ .nilIface) (h8 : ∀ x ∈ xs, x < 256) (hx : xs.length < 1000000) (hl : at_ < xs.length) (h17 : xs.getD at_ 0 = 17) (ha : (Adr.aspec (xs.drop (at_ + 1)) z).2.1 = 0) (a : Nat) (haa : (Adr.aspec (xs.drop (at_ + 1)) z).1 = a) (T : List Nat) (hT : T = lets (xs.drop (at_ + 3))) :
    Calls Tryz.prog 127 #[.pointer (some ⟨C, 0, none⟩), .int .i64 (z : Int)] w fun e w' => ∃ ta tc, e = .returned (.agg #[.int .i64 (a : Int), .slice ta T.length tc]) ∧ w'.ownsRow w.heap.size 5 1 (.slice ta T.length tc) T.length (u8s T) ∧ Cur w' C g xs (at_ + 3 + T.length) .nilIface ∧ w.grownBy w' (some C) := by
  have HC := Lib.hid h.clt
  have HGL := Lib.hid h.glt
  have HX := Lib.hid hx
  have H8 := Lib.hid h8
  have HL := Lib.hid hl
  have HA0 := al_any w (.cells #[.int .i64 0, .slice none 0 0] 67)
  have HN := Lib.hid (heap_alloc_new w (.cells #[.int .i64 0, .slice none 0 0] 67))
  have HW0 := Lib.hid (gbelow HA0 (some C))
  have HU := Lib.hid (h.below HA0)
  have HP := Lib.hid (peek_ok _ (h.below HA0) hl)
  rw [h17] at HP
  have HBY := Lib.hid fun m => byte_ok _ ((h.below HA0).drewN m) hl (by omega)
  have HAD := Lib.hid fun W (hu : Cur W C g xs (at_ + 1) .nilIface) => addr_ok (z : Int) W hu h8 (by omega) ha
  rw [haa] at HAD
  have HTX := Lib.hid fun W (hu : Cur W C g xs (at_ + 1 + 2) .nilIface) => takeText_any W hu h8 hx
  rw [show at_ + 1 + 2 = at_ + 3 by omega, ← hT] at HTX
  have hA : w.heap.size ≤ (w.alloc (.cells #[.int .i64 0, .slice none 0 0] 67)).heap.size := HA0.size
  have HSZ := Lib.hid hA
  clear h h8 hx hl ha haa hT HA0 hA
  go_enter Tryz.func127, Tryz.ntmps127
  go_upto_region 1 with (fail)
  generalize w.alloc (.cells #[.int .i64 0, .slice none 0 0] 67) = w1 at *
  go_wp2_with fail
  with_reducible refine HP.out.mono ?_
  rintro e w2 ⟨rfl, m, rfl⟩
  go_wp2_with fail
  with_reducible refine (HBY.out m).mono ?_
  rintro e w2 ⟨rfl, hu, hg⟩
  have U2 := Lib.hid hu
  have hg2 := gtrans (gdrewN w1 m (some C)) hg
  have W2 := Lib.hid (gtrans HW0.out hg2)
  have N2 := Lib.hid (blk_g HN.out hg2 (by intro e; injection e with e; have := HC.out; omega))
  have S2 := Lib.hid (Nat.le_trans HSZ.out hg2.size)
  clear hu hg hg2 HP HBY HU HW0 HN
  go_wp2_with fail
  with_reducible refine (HAD.out _ U2.out).mono ?_
  rintro e w3 ⟨rfl, hu, hg⟩
  have U3 := Lib.hid hu
  have W3 := Lib.hid (gtrans W2.out hg)
  have N3 := Lib.hid (blk_g N2.out hg (by intro e; injection e with e; have := HC.out; omega))
  have S3 := Lib.hid (Nat.le_trans S2.out hg.size)
  clear hu hg HAD U2 W2 N2 S2
  go_wp2_with fail
  with_reducible refine (HTX.out _ U3.out).mono ?_
  rintro e w4 ⟨ta, tc, rfl, ho, hu, hg⟩
  have U4 := Lib.hid hu
  have W4 := Lib.hid (gtrans W3.out hg)
  have N4 := Lib.hid (blk_g N3.out hg (by intro e; injection e with e; have := HC.out; omega))
  have HLT := Lib.hid (there_lt N3.out)
  have O4 := Lib.hid ho
  clear hu hg HTX U3 W3 N3 ho
  obtain ⟨c0, c1⟩ := cells2 N4.out
  obtain ⟨f0, f1⟩ := free2 N4.out
  go_wp2_with fail
  clear c0 c1 f0 f1
  have SF := Lib.hid (set2g (.int .i64 (a : Int)) (.slice ta T.length tc) N4.out W4.out (Nat.le_refl _))
  generalize (w4.setCell ⟨w.heap.size, 0, none⟩ (.int .i64 (a : Int))).setCell ⟨w.heap.size, 1, none⟩ (.slice ta T.length tc) = wz at *
  refine bodyPost_ret (v := .agg #[.int .i64 (a : Int), .slice ta T.length tc]) (results_cell_row rfl _ _ w.heap.size 67 _ (0, 0) _ rfl SF.out.1 Tryz.underlying67 rfl (by kernel_rfl)) rfl ?_
  exact ⟨_, _, rfl, own_mono (own_other O4.out SF.out.2.1 HLT.out) S3.out, U4.out.other SF.out.2.1 (by have := HC.out; omega) (by have := HGL.out; omega), SF.out.2.2⟩
set_option maxRecDepth 100000 in
set_option maxHeartbeats 8000000 in
/-- A field whose address is wrong. -/
theorem takeField_addr {C g at_ : Nat} {xs : List Nat} (z : Nat) (w : World) (h : Cur w C g xs at_ .nilIface) (h8 : ∀ x ∈ xs, x < 256) (hx : xs.length < 1000000) (hl : at_ < xs.length) (h17 : xs.getD at_ 0 = 17) (k : Nat) (hk : (Adr.aspec (xs.drop (at_ + 1)) z).2.1 = k) (hk0 : k ≠ 0) :
    Calls Tryz.prog 127 #[.pointer (some ⟨C, 0, none⟩), .int .i64 (z : Int)] w fun e w' => e = .returned (.agg #[.int .i64 0, .slice none 0 0]) ∧ ∃ ev at', Cur w' C g xs at' ev ∧ Byt.Met w' ev (k : Int) (at_ + 1) ∧ w.grownBy w' (some C) := by
  have HC := Lib.hid h.clt
  have HGL := Lib.hid h.glt
  have HL := Lib.hid hl
  have HA0 := al_any w (.cells #[.int .i64 0, .slice none 0 0] 67)
  have HN := Lib.hid (heap_alloc_new w (.cells #[.int .i64 0, .slice none 0 0] 67))
  have HW0 := Lib.hid (gbelow HA0 (some C))
  have HP := Lib.hid (peek_ok _ (h.below HA0) hl)
  rw [h17] at HP
  have HBY := Lib.hid fun m => byte_ok _ ((h.below HA0).drewN m) hl (by omega)
  have HAD := Lib.hid fun W (hu : Cur W C g xs (at_ + 1) .nilIface) => addr_bad (z : Int) W hu h8 (by rw [hk]; exact hk0)
  rw [hk] at HAD
  clear h h8 hx hl hk hk0 HA0
  go_enter Tryz.func127, Tryz.ntmps127
  go_upto_region 1 with (fail)
  generalize w.alloc (.cells #[.int .i64 0, .slice none 0 0] 67) = w1 at *
  go_wp2_with fail
  with_reducible refine HP.out.mono ?_
  rintro e w2 ⟨rfl, m, rfl⟩
  go_wp2_with fail
  with_reducible refine (HBY.out m).mono ?_
  rintro e w2 ⟨rfl, hu, hg⟩
  have U2 := Lib.hid hu
  have hg2 := gtrans (gdrewN w1 m (some C)) hg
  have W2 := Lib.hid (gtrans HW0.out hg2)
  have N2 := Lib.hid (blk_g HN.out hg2 (by intro e; injection e with e; have := HC.out; omega))
  clear hu hg hg2 HP HBY HW0 HN
  go_wp2_with fail
  with_reducible refine (HAD.out _ U2.out).mono ?_
  rintro e w3 ⟨rfl, ev, hu, hm, hg⟩
  obtain ⟨b, rfl, hm⟩ := hm
  have U4 := Lib.hid hu
  have M4 : Hid (Byt.Met w3 _ (k : Int) (at_ + 1)) := Lib.hid ⟨b, rfl, hm⟩
  have W4 := Lib.hid (gtrans W2.out hg)
  have N4 := Lib.hid (blk_g N2.out hg (by intro e; injection e with e; have := HC.out; omega))
  clear hu hg HAD U2 W2 N2 hm
  go_wp2_with fail
  with_reducible refine (takeText_met w3 U4.out).mono ?_
  rintro e w4 ⟨rfl, rfl⟩
  obtain ⟨c0, c1⟩ := cells2 N4.out
  obtain ⟨f0, f1⟩ := free2 N4.out
  have D1 := Lib.hid c1
  go_wp2_with fail
  clear c0 c1 f0 f1
  have SF := Lib.hid (set2g (.int .i64 0) (.slice none 0 0) N4.out W4.out (Nat.le_refl _))
  generalize (w3.setCell ⟨w.heap.size, 0, none⟩ (.int .i64 0)).setCell ⟨w.heap.size, 1, none⟩ (.slice none 0 0) = wz at *
  refine bodyPost_ret (v := .agg #[.int .i64 0, .slice none 0 0]) (results_cell_row rfl _ _ w.heap.size 67 _ (0, 0) _ rfl SF.out.1 Tryz.underlying67 rfl (by kernel_rfl)) rfl ?_
  exact ⟨rfl, _, _, U4.out.other SF.out.2.1 (by have := HC.out; omega) (by have := HGL.out; omega), M4.out.other SF.out.2.1 (fun t x h => by rw [D1.out] at h; cases h), SF.out.2.2⟩
set_option maxRecDepth 100000 in
set_option maxHeartbeats 8000000 in
/-- No field stands there. -/
theorem takeField_bad {C g at_ : Nat} {xs : List Nat} (z : Nat) (w : World) (h : Cur w C g xs at_ .nilIface) (hl : at_ < xs.length) (h17 : xs.getD at_ 0 ≠ 17) :
    Calls Tryz.prog 127 #[.pointer (some ⟨C, 0, none⟩), .int .i64 (z : Int)] w fun e w' => e = .returned (.agg #[.int .i64 0, .slice none 0 0]) ∧ ∃ ev at', Cur w' C g xs at' ev ∧ Byt.Met w' ev 3 at_ ∧ w.grownBy w' (some C) := by
  have HC := Lib.hid h.clt
  have HGL := Lib.hid h.glt
  have HL := Lib.hid hl
  have HA0 := al_any w (.cells #[.int .i64 0, .slice none 0 0] 67)
  have HN := Lib.hid (heap_alloc_new w (.cells #[.int .i64 0, .slice none 0 0] 67))
  have HW0 := Lib.hid (gbelow HA0 (some C))
  have HP := Lib.hid (peek_ok _ (h.below HA0) hl)
  have HF := Lib.hid (fun m => fail_new (d := 0) (.iface 71 (.int .i64 3)) 3 _ ((h.below HA0).drewN m) rfl)
  clear h hl HA0
  generalize xs.getD at_ 0 = x at *
  have e17 : ((x : Int) != 17) = true := by simp; omega
  clear h17
  go_enter Tryz.func127, Tryz.ntmps127
  go_upto_region 1 with (fail)
  generalize w.alloc (.cells #[.int .i64 0, .slice none 0 0] 67) = w1 at *
  go_wp2_with fail
  with_reducible refine HP.out.mono ?_
  rintro e w2 ⟨rfl, m, rfl⟩
  go_wp2_with fail
  with_reducible refine (HF.out m).mono ?_
  rintro e w2 ⟨rfl, ev, hu, hm, hg⟩
  obtain ⟨b, rfl, hm⟩ := hm
  have U2 := Lib.hid hu
  have M2 : Hid (Byt.Met w2 _ 3 at_) := Lib.hid ⟨b, rfl, hm⟩
  have hg2 := gtrans (gdrewN w1 m (some C)) hg
  have W2 := Lib.hid (gtrans HW0.out hg2)
  have N2 := Lib.hid (blk_g HN.out hg2 (by intro e; injection e with e; have := HC.out; omega))
  clear hu hg hg2 HP HF HW0 HN hm
  go_wp2_with fail
  with_reducible refine (byte_met _ U2.out).mono ?_
  rintro e w3 ⟨rfl, rfl⟩
  go_wp2_with fail
  with_reducible refine (addr_met (z : Int) _ U2.out).mono ?_
  rintro e w3 ⟨rfl, hb⟩
  have U4 := Lib.hid (U2.out.below hb)
  have M4 := Lib.hid (M2.out.below hb)
  have W4 := Lib.hid (gtrans W2.out (gbelow hb _))
  have N4 := Lib.hid (blk N2.out hb)
  clear hb U2 W2 N2 M2
  go_wp2_with fail
  with_reducible refine (takeText_met w3 U4.out).mono ?_
  rintro e w4 ⟨rfl, rfl⟩
  obtain ⟨c0, c1⟩ := cells2 N4.out
  obtain ⟨f0, f1⟩ := free2 N4.out
  have D1 := Lib.hid c1
  go_wp2_with fail
  clear c0 c1 f0 f1
  have SF := Lib.hid (set2g (.int .i64 0) (.slice none 0 0) N4.out W4.out (Nat.le_refl _))
  generalize (w3.setCell ⟨w.heap.size, 0, none⟩ (.int .i64 0)).setCell ⟨w.heap.size, 1, none⟩ (.slice none 0 0) = wz at *
  refine bodyPost_ret (v := .agg #[.int .i64 0, .slice none 0 0]) (results_cell_row rfl _ _ w.heap.size 67 _ (0, 0) _ rfl SF.out.1 Tryz.underlying67 rfl (by kernel_rfl)) rfl ?_
  exact ⟨rfl, _, _, U4.out.other SF.out.2.1 (by have := HC.out; omega) (by have := HGL.out; omega), M4.out.other SF.out.2.1 (fun t x h => by rw [D1.out] at h; cases h), SF.out.2.2⟩
end Inp
end Go.Proofs.YtpdlpmbjhopnnaaGreatDoor
/- takeFields of package input. -/
namespace Go.Proofs.YtpdlpmbjhopnnaaGreatDoor
open Go.RowKit Sha Cut Err Six Att Byt Apd
namespace Inp
theorem own_noneF (w : World) (base : Nat) : w.ownsRow base 5 1 (.slice none 0 0) 0 (u8s []) := by simpa [u8s] using World.ownsRow_nil w base 5 1
theorem grown_own {w a b : World} {C base : Nat} {v : Value} {os : List F} (hg : w.grownBy a (some C)) (ho : OwnFlds a base v os) (hb : w.heap.size ≤ base) (h : a.grownBy b v.ownBlock) : w.grownBy b (some C) := by
  obtain ⟨us, h1, _⟩ := ho
  exact grown_row hg h1 hb h
theorem cur_own {a b : World} {C g at_ base : Nat} {xs : List Nat} {ev : Value} {v : Value} {os : List F} (hu : Cur a C g xs at_ ev) (ho : OwnFlds a base v os) (hC : C < base) (hgb : g < base) (h : a.grownBy b v.ownBlock) : Cur b C g xs at_ ev := by
  obtain ⟨us, h1, _⟩ := ho
  exact cur_row hu h1 hC hgb h
/-- What is told of an error stays behind an append to the fields: no cell of a Spot lies among them. -/
theorem met_own {a b : World} {base : Nat} {v : Value} {os : List F} {ev : Value} {c : Int} {n : Nat} (hm : Byt.Met a ev c n) (ho : OwnFlds a base v os) (h : a.grownBy b v.ownBlock) : Byt.Met b ev c n := by
  obtain ⟨us, h1, h0, h2⟩ := ho
  cases hv : v.ownBlock with
  | none => rw [hv] at h; exact hm.below (belowg h)
  | some r =>
    rw [hv] at h
    refine hm.other h fun t x hx => ?_
    by_cases hos : os = []
    · rw [h0 hos] at hv; cases hv
    · have hpos : 0 < os.length := List.length_pos_iff.2 hos
      obtain ⟨ta, tn, tc, k1, _⟩ := h2 0 hpos
      have k2 := k1 1 _ rfl
      rcases h1.2 with ⟨rfl, _⟩ | ⟨g, cap, cur, rfl, _, k3, _, _, _, k4⟩
      · cases hv
      · injection hv with hv
        simp only at hv
        subst hv
        rw [← k4, List.getElem?_take_of_lt (by omega), Array.getElem?_toList] at k2
        rw [cell_of_row a g 1 cur _ (0, 0) k3] at hx
        rw [show 0 * 2 + 1 = 1 from rfl, hx] at k2
        cases k2
set_option maxRecDepth 100000 in
set_option maxHeartbeats 4000000 in
/-- Behind an error nothing is taken. -/
theorem takeFields_met {C g at_ b : Nat} {xs : List Nat} (z : Nat) (w : World) (h : Cur w C g xs at_ (.iface 84 (.pointer (some ⟨b, 0, none⟩)))) (hx : xs.length < 1000000) :
    Calls Tryz.prog 99 #[.pointer (some ⟨C, 0, none⟩), .int .i64 (z : Int)] w fun e w' => e = .returned (.slice none 0 0) ∧ Below w.heap.size w w' := by
  have HT := Lib.hid (takeText_met w h)
  have HU := Lib.hid h
  have HX := Lib.hid hx
  clear h hx
  go_enter Tryz.func99, Tryz.ntmps99
  go_wp2_with fail
  with_reducible refine HT.out.mono ?_
  rintro e w' ⟨rfl, rfl⟩
  go_wp2_with fail
  go_loopg [5] 1 (fun m t wr => m = 1 ∧ t = .slice none 0 0 ∧ wr = w)
  case atStart => exact ⟨rfl, rfl, rfl⟩
  case round =>
    obtain ⟨rfl, rfl, rfl⟩ := hrel
    by_cases hq : 0 < xs.length - at_
    · have hqi : (0 : Int) < ((xs.length - at_ : Nat) : Int) := by omega
      go_wp2_with fail
      with_reducible refine (left_b wr HU.out (by have := HX.out; omega)).mono ?_
      rintro e w2 ⟨rfl, hb⟩
      have U2 := Lib.hid (HU.out.below hb)
      have K2 := Lib.hid hb
      clear hb
      go_wp2_with fail
      with_reducible refine (err_any w2 U2.out).mono ?_
      rintro e w3 ⟨rfl, rfl⟩
      go_wp2_with fail
      go_ret
      exact ⟨rfl, K2.out⟩
    · go_wp2_with fail
      with_reducible refine (left_b wr HU.out (by have := HX.out; omega)).mono ?_
      rintro e w2 ⟨rfl, hb⟩
      have K2 := Lib.hid hb
      clear hb
      go_wp2_with fail
      go_ret
      exact ⟨rfl, K2.out⟩
set_option maxRecDepth 100000 in
set_option maxHeartbeats 8000000 in
/-- Letters alone. -/
theorem takeFields_all {C g at_ : Nat} {xs : List Nat} (z : Nat) (w : World) (h : Cur w C g xs at_ .nilIface) (h8 : ∀ x ∈ xs, x < 256) (hx : xs.length < 1000000) (T : List Nat) (hT : T = lets (xs.drop at_)) (hT0 : 0 < T.length) (hTe : at_ + T.length = xs.length) :
    Calls Tryz.prog 99 #[.pointer (some ⟨C, 0, none⟩), .int .i64 (z : Int)] w fun e w' => ∃ va vc, e = .returned (.slice va 1 vc) ∧ w.grownBy w' (some C) ∧ OwnFlds w' w.heap.size (.slice va 1 vc) [⟨-1, T⟩] ∧ Cur w' C g xs xs.length .nilIface := by
  have HTX := Lib.hid (takeText_any w h h8 hx)
  rw [← hT] at HTX
  have HC := Lib.hid h.clt
  have HGL := Lib.hid h.glt
  have HX := Lib.hid hx
  obtain ⟨B, hB⟩ : ∃ B, B = w.heap.size := ⟨_, rfl⟩
  rw [← hB] at HC HGL HTX ⊢
  have HB := Lib.hid (show w.heap.size ≤ B by rw [hB]; exact Nat.le_refl _)
  have HB2 := Lib.hid (show B ≤ w.heap.size by rw [hB]; exact Nat.le_refl _)
  rw [hTe] at HTX
  have hTi : (0 : Int) < (T.length : Int) := by omega
  have hq : ¬ 0 < xs.length - xs.length := by omega
  clear h h8 hx hT hT0 hTe hB
  go_enter Tryz.func99, Tryz.ntmps99
  go_wp2_with fail
  with_reducible refine HTX.out.mono ?_
  rintro e w1 ⟨ta, tc, rfl, ho, hu, hg⟩
  have A2 := al_any w1 (.cells (fcells ⟨-1, T⟩ (.slice ta T.length tc)).toArray 67)
  have U2 := Lib.hid (hu.below A2)
  have T2 := Lib.hid (own_below ho A2)
  have W2 := Lib.hid (gtrans hg (gbelow A2 _))
  have S2 := Lib.hid (Nat.le_trans HB2.out (Nat.le_trans hg.size A2.size))
  have L2 := Lib.hid (heap_alloc_new w1 (.cells (fcells ⟨-1, T⟩ (.slice ta T.length tc)).toArray 67))
  clear ho hu hg A2 HTX
  go_wp2_with (at_builtin; refine wpList_mark ?_)
  refine Lib.hid ?_
  refine append_fld rfl (.tmp 12) (.tmp 15) rfl B _ [] rfl (ownFlds_nil _ _) w1.heap.size ⟨-1, T⟩ ta T.length tc rfl L2.out T2.out (by decide) S2.out ?_
  intro v3 w3 hown hgr
  have O3 := Lib.hid (show OwnFlds w3 B v3 [⟨-1, T⟩] from hown)
  have W3 := Lib.hid (grown_own W2.out (ownFlds_nil _ _) HB.out hgr)
  have U3 := Lib.hid (cur_own U2.out (ownFlds_nil _ _) HC.out HGL.out hgr)
  obtain ⟨va, vc, rfl⟩ := O3.out.form
  clear hown hgr U2 W2 S2 L2 T2
  go_wp2_with fail
  with_reducible refine (left_b w3 U3.out (by have := HX.out; omega)).mono ?_
  rintro e w4 ⟨rfl, hb⟩
  have U4 := Lib.hid (U3.out.below hb)
  have O4 := Lib.hid (O3.out.below hb)
  have W4 := Lib.hid (gtrans W3.out (gbelow hb _))
  clear hb U3 W3 O3
  go_wp2_with fail
  go_loopg [5] 1 (fun m t wr => m = 1 ∧ t = .slice va 1 vc ∧ wr = w4)
  case atStart => exact ⟨rfl, rfl, rfl⟩
  case round =>
    obtain ⟨rfl, rfl, rfl⟩ := hrel
    go_wp2_with fail
    with_reducible refine (left_b wr U4.out (by have := HX.out; omega)).mono ?_
    rintro e w5 ⟨rfl, hb⟩
    have U5 := Lib.hid (U4.out.below hb)
    have O5 := Lib.hid (O4.out.below hb)
    have W5 := Lib.hid (gtrans W4.out (gbelow hb _))
    clear hb
    go_wp2_with fail
    go_ret
    exact ⟨_, _, rfl, W5.out, O5.out, U5.out⟩
set_option maxRecDepth 100000 in
set_option maxHeartbeats 8000000 in
/-- Letters, and more behind them. -/
theorem takeFields_some {C g at_ : Nat} {xs : List Nat} (z : Nat) (w : World) (h : Cur w C g xs at_ .nilIface) (h8 : ∀ x ∈ xs, x < 256) (hx : xs.length < 1000000) (T : List Nat) (hT : T = lets (xs.drop at_)) (hT0 : 0 < T.length) (hTe : at_ + T.length < xs.length) :
    Calls Tryz.prog 99 #[.pointer (some ⟨C, 0, none⟩), .int .i64 (z : Int)] w fun e w' => ∃ va vn vc, e = .returned (.slice va vn vc) ∧ w.grownBy w' (some C) ∧ ∃ ev at', Cur w' C g xs at' ev ∧ Byt.Met w' ev 3 (at_ + T.length) := by
  have HTX := Lib.hid (takeText_any w h h8 hx)
  rw [← hT] at HTX
  have HC := Lib.hid h.clt
  have HGL := Lib.hid h.glt
  have HX := Lib.hid hx
  obtain ⟨B, hB⟩ : ∃ B, B = w.heap.size := ⟨_, rfl⟩
  rw [← hB] at HC HGL HTX
  have HB := Lib.hid (show w.heap.size ≤ B by rw [hB]; exact Nat.le_refl _)
  have HB2 := Lib.hid (show B ≤ w.heap.size by rw [hB]; exact Nat.le_refl _)
  have hTi : (0 : Int) < (T.length : Int) := by omega
  have hq : 0 < xs.length - (at_ + T.length) := by omega
  have hqi : (0 : Int) < ((xs.length - (at_ + T.length) : Nat) : Int) := by omega
  clear h h8 hx hT hT0 hTe hB
  go_enter Tryz.func99, Tryz.ntmps99
  go_wp2_with fail
  with_reducible refine HTX.out.mono ?_
  rintro e w1 ⟨ta, tc, rfl, ho, hu, hg⟩
  have A2 := al_any w1 (.cells (fcells ⟨-1, T⟩ (.slice ta T.length tc)).toArray 67)
  have U2 := Lib.hid (hu.below A2)
  have T2 := Lib.hid (own_below ho A2)
  have W2 := Lib.hid (gtrans hg (gbelow A2 _))
  have S2 := Lib.hid (Nat.le_trans HB2.out (Nat.le_trans hg.size A2.size))
  have L2 := Lib.hid (heap_alloc_new w1 (.cells (fcells ⟨-1, T⟩ (.slice ta T.length tc)).toArray 67))
  clear ho hu hg A2 HTX
  go_wp2_with (at_builtin; refine wpList_mark ?_)
  refine Lib.hid ?_
  refine append_fld rfl (.tmp 12) (.tmp 15) rfl B _ [] rfl (ownFlds_nil _ _) w1.heap.size ⟨-1, T⟩ ta T.length tc rfl L2.out T2.out (by decide) S2.out ?_
  intro v3 w3 hown hgr
  have O3 := Lib.hid (show OwnFlds w3 B v3 [⟨-1, T⟩] from hown)
  have W3 := Lib.hid (grown_own W2.out (ownFlds_nil _ _) HB.out hgr)
  have U3 := Lib.hid (cur_own U2.out (ownFlds_nil _ _) HC.out HGL.out hgr)
  obtain ⟨va, vc, rfl⟩ := O3.out.form
  clear hown hgr U2 W2 S2 L2 T2
  go_wp2_with fail
  with_reducible refine (left_b w3 U3.out (by have := HX.out; omega)).mono ?_
  rintro e w4 ⟨rfl, hb⟩
  have U4 := Lib.hid (U3.out.below hb)
  have O4 := Lib.hid (O3.out.below hb)
  have W4 := Lib.hid (gtrans W3.out (gbelow hb _))
  clear hb U3 W3 O3
  have HF := Lib.hid (fail_new (d := 0) (.iface 71 (.int .i64 3)) 3 w4 U4.out rfl)
  go_wp2_with fail
  with_reducible refine HF.out.mono ?_
  rintro e w5 ⟨rfl, ev, hu, hm, hg⟩
  obtain ⟨b, rfl, hm⟩ := hm
  have U5 := Lib.hid hu
  have M5 : Hid (Byt.Met w5 _ 3 (at_ + T.length)) := Lib.hid ⟨b, rfl, hm⟩
  have W5 := Lib.hid (gtrans W4.out hg)
  clear hu hm hg HF U4 O4 W4
  go_wp2_with fail
  go_loopg [5] 1 (fun m t wr => m = 1 ∧ t = .slice va 1 vc ∧ wr = w5)
  case atStart => exact ⟨rfl, rfl, rfl⟩
  case round =>
    obtain ⟨rfl, rfl, rfl⟩ := hrel
    go_wp2_with fail
    with_reducible refine (left_b wr U5.out (by have := HX.out; omega)).mono ?_
    rintro e w6 ⟨rfl, hb⟩
    have U6 := Lib.hid (U5.out.below hb)
    have M6 := Lib.hid (M5.out.below hb)
    have W6 := Lib.hid (gtrans W5.out (gbelow hb _))
    clear hb
    go_wp2_with fail
    with_reducible refine (err_any w6 U6.out).mono ?_
    rintro e w7 ⟨rfl, rfl⟩
    go_wp2_with fail
    go_ret
    exact ⟨_, _, _, rfl, W6.out, _, _, U6.out, M6.out⟩
set_option maxRecDepth 100000 in
set_option maxHeartbeats 8000000 in
/-- No letters: fields with addresses. -/
theorem takeFields_runs {C g at_ : Nat} {xs : List Nat} (z : Nat) (w : World) (h : Cur w C g xs at_ .nilIface) (h8 : ∀ x ∈ xs, x < 256) (hx : xs.length < 1000000) (hT : lets (xs.drop at_) = []) (Q : List F × Nat × Nat) (hQ : Runs z xs Q [] at_) :
    Calls Tryz.prog 99 #[.pointer (some ⟨C, 0, none⟩), .int .i64 (z : Int)] w fun e w' => ∃ va vn vc, e = .returned (.slice va vn vc) ∧ w.grownBy w' (some C) ∧
      ((Q.2.1 = 0 ∧ OwnFlds w' w.heap.size (.slice va vn vc) Q.1 ∧ Cur w' C g xs xs.length .nilIface) ∨ (Q.2.1 ≠ 0 ∧ ∃ ev at', Cur w' C g xs at' ev ∧ Byt.Met w' ev (Q.2.1 : Int) Q.2.2)) := by
  have HTX := Lib.hid (takeText_any w h h8 hx)
  rw [hT] at HTX
  have HTX : Hid (Calls Tryz.prog 126 #[.pointer (some ⟨C, 0, none⟩)] w fun e w' => ∃ ta tc, e = .returned (.slice ta 0 tc) ∧ w'.ownsRow w.heap.size 5 1 (.slice ta 0 tc) 0 (u8s []) ∧ Cur w' C g xs at_ .nilIface ∧ w.grownBy w' (some C)) := HTX.out
  have HC := Lib.hid h.clt
  have HGL := Lib.hid h.glt
  have HX := Lib.hid hx
  have H8 := Lib.hid h8
  have HQ := Lib.hid hQ
  obtain ⟨B, hB⟩ : ∃ B, B = w.heap.size := ⟨_, rfl⟩
  rw [← hB] at HC HGL HTX ⊢
  have HB := Lib.hid (show w.heap.size ≤ B by rw [hB]; exact Nat.le_refl _)
  have HB2 := Lib.hid (show B ≤ w.heap.size by rw [hB]; exact Nat.le_refl _)
  clear h h8 hx hT hB hQ
  go_enter Tryz.func99, Tryz.ntmps99
  go_wp2_with fail
  with_reducible refine HTX.out.mono ?_
  rintro e w1 ⟨ta, tc, rfl, _, hu, hg⟩
  have U1 := Lib.hid hu
  have W1 := Lib.hid hg
  have S1 := Lib.hid (Nat.le_trans HB2.out hg.size)
  clear hu hg HTX
  go_wp2_with fail
  go_loopg [5] (xs.length - at_ + 1) (fun m v wr => (∃ ad n cp, v = .slice ad n cp) ∧ Hid (w.grownBy wr (some C)) ∧ Hid (B ≤ wr.heap.size) ∧ ((∃ os at', Hid (Runs z xs Q os at') ∧ Hid (OwnFlds wr B v os) ∧ Hid (os.length ≤ at') ∧ Hid (Cur wr C g xs at' .nilIface) ∧ m = xs.length - at' + 1) ∨ (m = 0 ∧ Hid (Q.2.1 ≠ 0) ∧ ∃ ev at' b, Hid (Cur wr C g xs at' ev) ∧ ev = .iface 84 (.pointer (some ⟨b, 0, none⟩)) ∧ Hid (Byt.Met wr ev (Q.2.1 : Int) Q.2.2))))
  case atStart => exact ⟨⟨_, _, _, rfl⟩, W1, S1, .inl ⟨[], at_, HQ, Lib.hid (ownFlds_nil _ _), Lib.hid (Nat.zero_le _), U1, rfl⟩⟩
  case round =>
    clear W1 S1 U1 HQ
    obtain ⟨⟨vad, vn, vcp, rfl⟩, HW, HS, ⟨os, at', HR, HO, HN, HU, rfl⟩ | ⟨rfl, HE, ev, at', b, HU, rfl, HM⟩⟩ := hrel
    · by_cases hlt : at' < xs.length
      · have hq : 0 < xs.length - at' := by omega
        have hqi : (0 : Int) < ((xs.length - at' : Nat) : Int) := by omega
        go_wp2_with fail
        with_reducible refine (left_b wr HU.out (by have := HX.out; omega)).mono ?_
        rintro e wd ⟨rfl, hb⟩
        replace HU := Lib.hid (HU.out.below hb)
        replace HO := Lib.hid (HO.out.below hb)
        replace HW := Lib.hid (gtrans HW.out (gbelow hb _))
        replace HS := Lib.hid (Nat.le_trans HS.out hb.size)
        clear hb
        go_wp2_with fail
        with_reducible refine (err_any wd HU.out).mono ?_
        rintro e w' ⟨rfl, rfl⟩
        by_cases h17 : xs.getD at' 0 = 17
        · by_cases h0 : (Adr.aspec (xs.drop (at' + 1)) z).2.1 = 0
          · obtain ⟨hle, hst⟩ := runs_step HR.out hlt h17 H8.out h0
            have HR2 := Lib.hid hst
            have HLE := Lib.hid hle
            obtain ⟨T, hTT⟩ : ∃ T, T = lets (xs.drop (at' + 3)) := ⟨_, rfl⟩
            have HTF := Lib.hid (takeField_ok z wd HU.out H8.out HX.out hlt h17 h0 _ rfl T hTT)
            rw [← hTT] at HR2 HLE
            generalize (Adr.aspec (xs.drop (at' + 1)) z).1 = a at *
            clear hle hst hTT h17 h0 HR
            go_wp2_with fail
            with_reducible refine HTF.out.mono ?_
            rintro e w1 ⟨ta, tc, rfl, ho, hu, hg⟩
            have T1 := own_mono ho HS.out
            have O1 := HO.out.other hg HC.out
            have A3 := al_any w1 (.cells (fcells ⟨(a : Int), T⟩ (.slice ta T.length tc)).toArray 67)
            have HU3 := Lib.hid (hu.below A3)
            have HO3 := Lib.hid (O1.below A3)
            have HT3 := Lib.hid (own_below T1 A3)
            have HW3 := Lib.hid (gtrans (gtrans HW.out hg) (gbelow A3 _))
            have HS3 := Lib.hid (Nat.le_trans HS.out (Nat.le_trans hg.size A3.size))
            have HL3 := Lib.hid (heap_alloc_new w1 (.cells (fcells ⟨(a : Int), T⟩ (.slice ta T.length tc)).toArray 67))
            clear HTF ho hu hg T1 O1 A3 HU HO HW HS
            go_wp2_with (at_builtin; refine wpList_mark ?_)
            refine Lib.hid ?_
            refine append_fld rfl (.tmp 31) (.tmp 35) rfl B _ os rfl HO3.out w1.heap.size ⟨(a : Int), T⟩ ta T.length tc rfl HL3.out HT3.out (by have := HX.out; have := HN.out; omega) HS3.out ?_
            intro v2 w2 hown hgr
            have HO4 := Lib.hid hown
            have HW4 := Lib.hid (grown_own HW3.out HO3.out HB.out hgr)
            have HU4 := Lib.hid (cur_own HU3.out HO3.out HC.out HGL.out hgr)
            have HS4 := Lib.hid (Nat.le_trans HS3.out hgr.size)
            clear hown hgr HO3 HW3 HU3 HS3 HT3 HL3
            obtain ⟨ad2, cp2, rfl⟩ := HO4.out.form
            rw [List.length_append] at HO4 ⊢
            go_wp2_with fail
            go_roundg (xs.length - (at' + 3 + T.length) + 1)
            case measure => have := HLE.out; omega
            case rel => exact ⟨⟨_, _, _, rfl⟩, HW4, HS4, .inl ⟨_, _, HR2, HO4, Lib.hid (by rw [List.length_append]; simp only [List.length_cons, List.length_nil]; have := HN.out; omega), HU4, rfl⟩⟩
          · have HR2 := Lib.hid (runs_addr HR.out hlt h17 h0)
            obtain ⟨k, hk⟩ : ∃ k, (Adr.aspec (xs.drop (at' + 1)) z).2.1 = k := ⟨_, rfl⟩
            have HTF := Lib.hid (takeField_addr z wd HU.out H8.out HX.out hlt h17 k hk (by rw [← hk]; exact h0))
            rw [hk] at HR2 h0
            have HH0 := Lib.hid h0
            clear hk h17 h0 HR
            go_wp2_with fail
            with_reducible refine HTF.out.mono ?_
            rintro e w1 ⟨rfl, ev, at2, hu, hm, hg⟩
            have O1 := HO.out.other hg HC.out
            have A3 := al_any w1 (.cells (fcells noneF (.slice none 0 0)).toArray 67)
            have HU3 := Lib.hid (hu.below A3)
            have HO3 := Lib.hid (O1.below A3)
            have HM3 := Lib.hid (hm.below A3)
            have HW3 := Lib.hid (gtrans (gtrans HW.out hg) (gbelow A3 _))
            have HS3 := Lib.hid (Nat.le_trans HS.out (Nat.le_trans hg.size A3.size))
            have HL3 := Lib.hid (heap_alloc_new w1 (.cells (fcells noneF (.slice none 0 0)).toArray 67))
            clear HTF hu hm hg O1 A3 HU HO HW HS
            go_wp2_with (at_builtin; refine wpList_mark ?_)
            refine Lib.hid ?_
            refine append_fld rfl (.tmp 31) (.tmp 35) rfl B _ os rfl HO3.out w1.heap.size noneF none 0 0 rfl HL3.out (own_noneF _ _) (by have := HX.out; have := HN.out; omega) HS3.out ?_
            intro v2 w2 hown hgr
            have HW4 := Lib.hid (grown_own HW3.out HO3.out HB.out hgr)
            have HU4 := Lib.hid (cur_own HU3.out HO3.out HC.out HGL.out hgr)
            have HM4 := Lib.hid (met_own HM3.out HO3.out hgr)
            have HS4 := Lib.hid (Nat.le_trans HS3.out hgr.size)
            obtain ⟨ad2, cp2, rfl⟩ := hown.form
            clear hown hgr HO3 HW3 HU3 HS3 HL3 HM3
            have HM5 := HM4.out
            obtain ⟨b, rfl, _⟩ := HM5
            go_wp2_with fail
            go_roundg 0
            case measure => omega
            case rel => exact ⟨⟨_, _, _, rfl⟩, HW4, HS4, .inr ⟨rfl, Lib.hid (by rw [HR2.out]; exact HH0.out), _, _, b, HU4, rfl, Lib.hid (by rw [HR2.out]; exact HM4.out)⟩⟩
        · have HR2 := Lib.hid (runs_bad HR.out hlt h17)
          have HTF := Lib.hid (takeField_bad z wd HU.out hlt h17)
          have HH0 := Lib.hid (show (3 : Nat) ≠ 0 by decide)
          clear h17 HR
          go_wp2_with fail
          with_reducible refine HTF.out.mono ?_
          rintro e w1 ⟨rfl, ev, at2, hu, hm, hg⟩
          have O1 := HO.out.other hg HC.out
          have A3 := al_any w1 (.cells (fcells noneF (.slice none 0 0)).toArray 67)
          have HU3 := Lib.hid (hu.below A3)
          have HO3 := Lib.hid (O1.below A3)
          have HM3 := Lib.hid (hm.below A3)
          have HW3 := Lib.hid (gtrans (gtrans HW.out hg) (gbelow A3 _))
          have HS3 := Lib.hid (Nat.le_trans HS.out (Nat.le_trans hg.size A3.size))
          have HL3 := Lib.hid (heap_alloc_new w1 (.cells (fcells noneF (.slice none 0 0)).toArray 67))
          clear HTF hu hm hg O1 A3 HU HO HW HS
          go_wp2_with (at_builtin; refine wpList_mark ?_)
          refine Lib.hid ?_
          refine append_fld rfl (.tmp 31) (.tmp 35) rfl B _ os rfl HO3.out w1.heap.size noneF none 0 0 rfl HL3.out (own_noneF _ _) (by have := HX.out; have := HN.out; omega) HS3.out ?_
          intro v2 w2 hown hgr
          have HW4 := Lib.hid (grown_own HW3.out HO3.out HB.out hgr)
          have HU4 := Lib.hid (cur_own HU3.out HO3.out HC.out HGL.out hgr)
          have HM4 := Lib.hid (met_own HM3.out HO3.out hgr)
          have HS4 := Lib.hid (Nat.le_trans HS3.out hgr.size)
          obtain ⟨ad2, cp2, rfl⟩ := hown.form
          clear hown hgr HO3 HW3 HU3 HS3 HL3 HM3
          have HM5 := HM4.out
          obtain ⟨b, rfl, _⟩ := HM5
          go_wp2_with fail
          go_roundg 0
          case measure => omega
          case rel => exact ⟨⟨_, _, _, rfl⟩, HW4, HS4, .inr ⟨rfl, Lib.hid (by rw [HR2.out]; exact HH0.out), _, _, b, HU4, rfl, Lib.hid (by rw [HR2.out]; exact HM4.out)⟩⟩
      · go_wp2_with fail
        with_reducible refine (left_b wr HU.out (by have := HX.out; omega)).mono ?_
        rintro e wd ⟨rfl, hb⟩
        replace HU := Lib.hid (HU.out.below hb)
        replace HO := Lib.hid (HO.out.below hb)
        replace HW := Lib.hid (gtrans HW.out (gbelow hb _))
        clear hb
        have hat : at' = xs.length := by have := HU.out.le; omega
        go_wp2_with fail
        go_ret
        subst hat
        have e := runs_end HR.out
        exact ⟨_, _, _, rfl, HW.out, .inl ⟨by rw [e], by rw [e]; exact HO.out, HU.out⟩⟩
    · by_cases hq : 0 < xs.length - at'
      · have hqi : (0 : Int) < ((xs.length - at' : Nat) : Int) := by omega
        go_wp2_with fail
        with_reducible refine (left_b wr HU.out (by have := HX.out; omega)).mono ?_
        rintro e w2 ⟨rfl, hb⟩
        have U2 := Lib.hid (HU.out.below hb)
        have M2 := Lib.hid (HM.out.below hb)
        have W2 := Lib.hid (gtrans HW.out (gbelow hb _))
        clear hb
        go_wp2_with fail
        with_reducible refine (err_any w2 U2.out).mono ?_
        rintro e w3 ⟨rfl, rfl⟩
        go_wp2_with fail
        go_ret
        exact ⟨_, _, _, rfl, W2.out, .inr ⟨HE.out, _, _, U2.out, M2.out⟩⟩
      · go_wp2_with fail
        with_reducible refine (left_b wr HU.out (by have := HX.out; omega)).mono ?_
        rintro e w2 ⟨rfl, hb⟩
        have U2 := Lib.hid (HU.out.below hb)
        have M2 := Lib.hid (HM.out.below hb)
        have W2 := Lib.hid (gtrans HW.out (gbelow hb _))
        clear hb
        go_wp2_with fail
        go_ret
        exact ⟨_, _, _, rfl, W2.out, .inr ⟨HE.out, _, _, U2.out, M2.out⟩⟩
end Inp
end Go.Proofs.YtpdlpmbjhopnnaaGreatDoor
/- takeInput of package input. Written by tools/gen_inp_input.py. -/
namespace Go.Proofs.YtpdlpmbjhopnnaaGreatDoor
open Go.RowKit Sha Cut Err Six Att Byt Apd
namespace Inp
theorem set3g {w a : World} {B : Nat} {r : Option Nat} {t : TypeId} {a0 a1 a2 : Value} (u0 u1 u2 : Value) (h : a.heap[B]? = some (.cells #[a0, a1, a2] t (0, 0))) (hg : w.grownBy a r) (hB : w.heap.size ≤ B) :
    (((a.setCell ⟨B, 0, none⟩ u0).setCell ⟨B, 1, none⟩ u1).setCell ⟨B, 2, none⟩ u2).heap[B]? = some (.cells #[u0, u1, u2] t (0, 0)) ∧
    a.grownBy (((a.setCell ⟨B, 0, none⟩ u0).setCell ⟨B, 1, none⟩ u1).setCell ⟨B, 2, none⟩ u2) (some B) ∧
    w.grownBy (((a.setCell ⟨B, 0, none⟩ u0).setCell ⟨B, 1, none⟩ u1).setCell ⟨B, 2, none⟩ u2) r := by
  have h := heap_setCell_same _ B 0 _ t u0 h
  have h := heap_setCell_same _ B 1 _ t u1 h
  have h := heap_setCell_same _ B 2 _ t u2 h
  have hs : a.grownBy (((a.setCell ⟨B, 0, none⟩ u0).setCell ⟨B, 1, none⟩ u1).setCell ⟨B, 2, none⟩ u2) (some B) :=
    gtrans (gsetCell _ _ _ _) (gtrans (gsetCell _ _ _ _) (gsetCell _ _ _ _))
  exact ⟨h, hs, gnew hg hs hB⟩
/-- What takeInput answers where something is wrong. -/
def Wrong (w w' : World) (C g : Nat) (xs : List Nat) (e : Ending) (k : Nat) (wh : Nat) : Prop :=
  ∃ (c : Nat) (a : Int) (ad : Option Addr) (n cp : Nat), e = .returned (.agg #[.int .u8 (c : Int), .int .i64 a, .slice ad n cp]) ∧ w.grownBy w' (some C) ∧ ∃ ev at_, Cur w' C g xs at_ ev ∧ Byt.Met w' ev (k : Int) wh
/-- What takeInput answers of a submission. -/
def Gives (w w' : World) (C g : Nat) (xs : List Nat) (e : Ending) (x : I) : Prop :=
  ∃ (ad : Option Addr) (n cp : Nat), e = .returned (.agg #[.int .u8 (x.aid : Int), .int .i64 x.cur, .slice ad n cp]) ∧ w.grownBy w' (some C) ∧ FldsIn w' w.heap.size (.slice ad n cp) x.fs ∧ ∃ at_, Cur w' C g xs at_ .nilIface
set_option maxRecDepth 100000 in
set_option maxHeartbeats 8000000 in
theorem input_noaid {C g : Nat} {xs : List Nat} (z : Nat) (w : World) (h : Cur w C g xs 0 .nilIface) (hx : xs.length < 1000000) (k : Nat) (hT : ∀ W, Cur W C g xs 0 .nilIface → Calls Tryz.prog 97 #[.pointer (some ⟨C, 0, none⟩)] W fun e w' => e = .returned (.int .u8 0) ∧ ∃ ev, Cur w' C g xs 0 ev ∧ Byt.Met w' ev (k : Int) 0 ∧ W.grownBy w' (some C)) :
    Calls Tryz.prog 53 #[.pointer (some ⟨C, 0, none⟩), .int .i64 (z : Int)] w fun e w' => Wrong w w' C g xs e k 0 := by
  have HC := Lib.hid h.clt
  have HGL := Lib.hid h.glt
  have HX := Lib.hid hx
  have HA := al_any w (.cells #[.int .u8 0, .int .i64 0, .slice none 0 0] 46)
  have HN := Lib.hid (heap_alloc_new w (.cells #[.int .u8 0, .int .i64 0, .slice none 0 0] 46))
  have HW0 := Lib.hid (gbelow HA (some C))
  have HU := h.below HA
  have HTA := Lib.hid (hT _ HU)
  have HBR := Lib.hid fun W => bare_any 0 W (by decide)
  rw [show bare 0 = false by decide, show ((0 : Nat) : Int) = 0 from rfl] at HBR
  clear hT
  clear h HU HA hx
  go_enter Tryz.func53, Tryz.ntmps53
  go_upto_region 1 with (fail)
  generalize w.alloc (.cells #[.int .u8 0, .int .i64 0, .slice none 0 0] 46) = wa at *
  go_wp2_with fail
  with_reducible refine HTA.out.mono ?_
  rintro e w1 ⟨rfl, ev, hu, hm, hg⟩
  have N1 := blk_g HN.out hg (by intro e; injection e with e; have := HC.out; omega)
  have HS := al_any w1 (.cells #[.int .u8 0, .int .i64 0, .slice none 0 0] 46)
  have N2 := Lib.hid (blk N1 HS)
  have M2 := Lib.hid (heap_alloc_new w1 (.cells #[.int .u8 0, .int .i64 0, .slice none 0 0] 46))
  have U2 := Lib.hid (hu.below HS)
  have E2 := Lib.hid (hm.below HS)
  have G2 := Lib.hid (gtrans (gtrans HW0.out hg) (gbelow HS _))
  have HL := Lib.hid (show w.heap.size < w1.heap.size from there_lt N1)
  have HLS := Lib.hid (there_lt M2.out)
  clear HTA N1 hu hg HS HN HW0 hm
  go_wp2_with fail
  generalize w1.heap.size = L at *
  generalize w1.alloc (.cells #[.int .u8 0, .int .i64 0, .slice none 0 0] 46) = w2 at *
  with_reducible refine (HBR.out w2).mono ?_
  rintro e w' ⟨rfl, rfl⟩
  have EE := E2.out
  obtain ⟨b, rfl, _⟩ := EE
  go_wp2_with fail
  with_reducible refine (addr_met (z : Int) w2 U2.out).mono ?_
  rintro e w3 ⟨rfl, hb⟩
  have N3 := Lib.hid (blk N2.out hb)
  have M3 := Lib.hid (blk M2.out hb)
  have G3 := Lib.hid (gtrans G2.out (gbelow hb _))
  have U3 := Lib.hid (U2.out.below hb)
  have E3 := Lib.hid (E2.out.below hb)
  clear hb N2 M2 U2 E2 G2
  obtain ⟨c0, c1, c2⟩ := cells3 M3.out
  obtain ⟨f0, f1, f2⟩ := free3 M3.out
  have D3 := Lib.hid c1
  have N4 := Lib.hid (blk_g N3.out (gsetCell w3 L 1 (.int .i64 0)) (by intro e; injection e with e; have := HL.out; omega))
  have M4 := Lib.hid (heap_setCell_same w3 L 1 _ 46 (.int .i64 0) M3.out)
  have U4 := Lib.hid (U3.out.other (gsetCell w3 L 1 (.int .i64 0)) (by have := HL.out; have := HC.out; omega) (by have := HL.out; have := HGL.out; omega))
  have G4 := Lib.hid (gnew G3.out (gsetCell w3 L 1 (.int .i64 0)) (Nat.le_of_lt HL.out))
  have E4 := Lib.hid (E3.out.other (gsetCell w3 L 1 (.int .i64 0)) (fun t x h => by rw [D3.out] at h; cases h))
  have S4 := Lib.hid (gsetCell w3 L 1 (.int .i64 0)).size
  go_wp2_with fail
  clear c0 c1 c2 f0 f1 f2
  generalize w3.setCell ⟨L, 1, none⟩ (.int .i64 0) = w4 at *
  with_reducible refine (takeFields_met z w4 U4.out HX.out).mono ?_
  rintro e w5 ⟨rfl, hb⟩
  have N5 := Lib.hid (blk N4.out hb)
  have M5 := Lib.hid (blk M4.out hb)
  have G5 := Lib.hid (gtrans G4.out (gbelow hb _))
  have U5 := Lib.hid (U4.out.below hb)
  have E5 := Lib.hid (E4.out.below hb)
  clear hb
  obtain ⟨c0, c1, c2⟩ := cells3 M5.out
  obtain ⟨f0, f1, f2⟩ := free3 M5.out
  have D5 := Lib.hid c1
  have N6 := Lib.hid (blk_g N5.out (gsetCell w5 L 2 (.slice none 0 0)) (by intro e; injection e with e; have := HL.out; omega))
  have M6 := Lib.hid (heap_setCell_same w5 L 2 _ 46 (.slice none 0 0) M5.out)
  have U6 := Lib.hid (U5.out.other (gsetCell w5 L 2 (.slice none 0 0)) (by have := HL.out; have := HC.out; omega) (by have := HL.out; have := HGL.out; omega))
  have G6 := Lib.hid (gnew G5.out (gsetCell w5 L 2 (.slice none 0 0)) (Nat.le_of_lt HL.out))
  have E6 := Lib.hid (E5.out.other (gsetCell w5 L 2 (.slice none 0 0)) (fun t x h => by rw [D5.out] at h; cases h))
  have S6 := Lib.hid (gsetCell w5 L 2 (.slice none 0 0)).size
  go_upto_region 7 with (fail)
  clear c0 c1 c2 f0 f1 f2
  generalize w5.setCell ⟨L, 2, none⟩ (.slice none 0 0) = w6 at *
  obtain ⟨c0, c1, c2⟩ := cells3 M6.out
  obtain ⟨d0, d1, d2⟩ := cells3 N6.out
  obtain ⟨f0, f1, f2⟩ := free3 N6.out
  have D1 := Lib.hid d1
  have HNZ := Lib.hid (show w.heap.size ≠ L from Nat.ne_of_lt HL.out)
  have SF := Lib.hid (set3g (.int .u8 0) (.int .i64 0) (.slice none 0 0) N6.out G6.out (Nat.le_refl _))
  go_wp2_with fail
  clear c0 c1 c2 d0 d1 d2 f0 f1 f2
  generalize ((w6.setCell ⟨w.heap.size, 0, none⟩ (.int .u8 0)).setCell ⟨w.heap.size, 1, none⟩ (.int .i64 0)).setCell ⟨w.heap.size, 2, none⟩ (.slice none 0 0) = wz at *
  refine bodyPost_ret (v := .agg #[.int .u8 0, .int .i64 0, .slice none 0 0]) (results_cell_row rfl _ _ w.heap.size 46 _ (0, 0) _ rfl SF.out.1 Tryz.underlying46 rfl (by kernel_rfl)) rfl ?_
  exact ⟨0, _, _, _, _, rfl, SF.out.2.2, _, _, (U6.out.other SF.out.2.1 (by have := HC.out; omega) (by have := HGL.out; omega)), E6.out.other SF.out.2.1 (fun t x h => by rw [D1.out] at h; cases h)⟩
set_option maxRecDepth 100000 in
set_option maxHeartbeats 8000000 in
theorem input_bare {C g : Nat} {xs : List Nat} (z : Nat) (w : World) (h : Cur w C g xs 0 .nilIface) (hx : xs.length < 1000000) (hl : 0 < xs.length) (hb8 : xs.getD 0 0 < 256) (c : Nat) (hcm : xs.getD 0 0 = c) (hk : aid c = true) (hw : bare c = true) (h1 : xs.length = 1) :
    Calls Tryz.prog 53 #[.pointer (some ⟨C, 0, none⟩), .int .i64 (z : Int)] w fun e w' => Gives w w' C g xs e ⟨c, 0, []⟩ := by
  have HC := Lib.hid h.clt
  have HGL := Lib.hid h.glt
  have HX := Lib.hid hx
  have HA := al_any w (.cells #[.int .u8 0, .int .i64 0, .slice none 0 0] 46)
  have HN := Lib.hid (heap_alloc_new w (.cells #[.int .u8 0, .int .i64 0, .slice none 0 0] 46))
  have HW0 := Lib.hid (gbelow HA (some C))
  have HU := h.below HA
  rw [hcm] at hb8
  have HBR := Lib.hid fun W => bare_any c W hb8
  rw [hw] at HBR
  have HTC := takeAid_ok _ HU (by omega) hl (by rw [hcm]; exact hb8) (by rw [hcm]; exact hk)
  rw [hcm] at HTC
  have HTA := Lib.hid HTC
  clear HTC hk hw hcm hb8
  clear h HU HA hx
  go_enter Tryz.func53, Tryz.ntmps53
  go_upto_region 1 with (fail)
  generalize w.alloc (.cells #[.int .u8 0, .int .i64 0, .slice none 0 0] 46) = wa at *
  go_wp2_with fail
  with_reducible refine HTA.out.mono ?_
  rintro e w1 ⟨rfl, hu, hg⟩
  have N1 := blk_g HN.out hg (by intro e; injection e with e; have := HC.out; omega)
  have HS := al_any w1 (.cells #[.int .u8 (c : Int), .int .i64 0, .slice none 0 0] 46)
  have N2 := Lib.hid (blk N1 HS)
  have M2 := Lib.hid (heap_alloc_new w1 (.cells #[.int .u8 (c : Int), .int .i64 0, .slice none 0 0] 46))
  have U2 := Lib.hid (hu.below HS)
  have G2 := Lib.hid (gtrans (gtrans HW0.out hg) (gbelow HS _))
  have HL := Lib.hid (show w.heap.size < w1.heap.size from there_lt N1)
  have HLS := Lib.hid (there_lt M2.out)
  clear HTA N1 hu hg HS HN HW0
  go_wp2_with fail
  generalize w1.heap.size = L at *
  generalize w1.alloc (.cells #[.int .u8 (c : Int), .int .i64 0, .slice none 0 0] 46) = w2 at *
  with_reducible refine (HBR.out w2).mono ?_
  rintro e w' ⟨rfl, rfl⟩
  have hq : ¬ 0 < xs.length - (0 + 1) := by omega
  go_wp2_with fail
  with_reducible refine (left_b w2 U2.out (by have := HX.out; omega)).mono ?_
  rintro e w3 ⟨rfl, hb⟩
  have N3 := Lib.hid (blk N2.out hb)
  have M3 := Lib.hid (blk M2.out hb)
  have G3 := Lib.hid (gtrans G2.out (gbelow hb _))
  have U3 := Lib.hid (U2.out.below hb)
  clear hb
  obtain ⟨c0, c1, c2⟩ := cells3 M3.out
  obtain ⟨d0, d1, d2⟩ := cells3 N3.out
  obtain ⟨f0, f1, f2⟩ := free3 N3.out
  have D1 := Lib.hid d1
  have HNZ := Lib.hid (show w.heap.size ≠ L from Nat.ne_of_lt HL.out)
  have SF := Lib.hid (set3g (.int .u8 (c : Int)) (.int .i64 0) (.slice none 0 0) N3.out G3.out (Nat.le_refl _))
  go_wp2_with fail
  clear c0 c1 c2 d0 d1 d2 f0 f1 f2
  generalize ((w3.setCell ⟨w.heap.size, 0, none⟩ (.int .u8 (c : Int))).setCell ⟨w.heap.size, 1, none⟩ (.int .i64 0)).setCell ⟨w.heap.size, 2, none⟩ (.slice none 0 0) = wz at *
  refine bodyPost_ret (v := .agg #[.int .u8 (c : Int), .int .i64 0, .slice none 0 0]) (results_cell_row rfl _ _ w.heap.size 46 _ (0, 0) _ rfl SF.out.1 Tryz.underlying46 rfl (by kernel_rfl)) rfl ?_
  exact ⟨_, _, _, rfl, SF.out.2.2, fldsIn_nil _ _, _, (U3.out.other SF.out.2.1 (by have := HC.out; omega) (by have := HGL.out; omega))⟩
set_option maxRecDepth 100000 in
set_option maxHeartbeats 8000000 in
theorem input_more {C g : Nat} {xs : List Nat} (z : Nat) (w : World) (h : Cur w C g xs 0 .nilIface) (hx : xs.length < 1000000) (hl : 0 < xs.length) (hb8 : xs.getD 0 0 < 256) (c : Nat) (hcm : xs.getD 0 0 = c) (hk : aid c = true) (hw : bare c = true) (h1 : 1 < xs.length) :
    Calls Tryz.prog 53 #[.pointer (some ⟨C, 0, none⟩), .int .i64 (z : Int)] w fun e w' => Wrong w w' C g xs e 1 1 := by
  have HC := Lib.hid h.clt
  have HGL := Lib.hid h.glt
  have HX := Lib.hid hx
  have HA := al_any w (.cells #[.int .u8 0, .int .i64 0, .slice none 0 0] 46)
  have HN := Lib.hid (heap_alloc_new w (.cells #[.int .u8 0, .int .i64 0, .slice none 0 0] 46))
  have HW0 := Lib.hid (gbelow HA (some C))
  have HU := h.below HA
  rw [hcm] at hb8
  have HBR := Lib.hid fun W => bare_any c W hb8
  rw [hw] at HBR
  have HTC := takeAid_ok _ HU (by omega) hl (by rw [hcm]; exact hb8) (by rw [hcm]; exact hk)
  rw [hcm] at HTC
  have HTA := Lib.hid HTC
  clear HTC hk hw hcm hb8
  clear h HU HA hx
  go_enter Tryz.func53, Tryz.ntmps53
  go_upto_region 1 with (fail)
  generalize w.alloc (.cells #[.int .u8 0, .int .i64 0, .slice none 0 0] 46) = wa at *
  go_wp2_with fail
  with_reducible refine HTA.out.mono ?_
  rintro e w1 ⟨rfl, hu, hg⟩
  have N1 := blk_g HN.out hg (by intro e; injection e with e; have := HC.out; omega)
  have HS := al_any w1 (.cells #[.int .u8 (c : Int), .int .i64 0, .slice none 0 0] 46)
  have N2 := Lib.hid (blk N1 HS)
  have M2 := Lib.hid (heap_alloc_new w1 (.cells #[.int .u8 (c : Int), .int .i64 0, .slice none 0 0] 46))
  have U2 := Lib.hid (hu.below HS)
  have G2 := Lib.hid (gtrans (gtrans HW0.out hg) (gbelow HS _))
  have HL := Lib.hid (show w.heap.size < w1.heap.size from there_lt N1)
  have HLS := Lib.hid (there_lt M2.out)
  clear HTA N1 hu hg HS HN HW0
  go_wp2_with fail
  generalize w1.heap.size = L at *
  generalize w1.alloc (.cells #[.int .u8 (c : Int), .int .i64 0, .slice none 0 0] 46) = w2 at *
  with_reducible refine (HBR.out w2).mono ?_
  rintro e w' ⟨rfl, rfl⟩
  have hq : 0 < xs.length - (0 + 1) := by omega
  have hqi : (0 : Int) < ((xs.length - (0 + 1) : Nat) : Int) := by omega
  go_wp2_with fail
  with_reducible refine (left_b w2 U2.out (by have := HX.out; omega)).mono ?_
  rintro e w3 ⟨rfl, hb⟩
  have N3 := Lib.hid (blk N2.out hb)
  have M3 := Lib.hid (blk M2.out hb)
  have G3 := Lib.hid (gtrans G2.out (gbelow hb _))
  have U3 := Lib.hid (U2.out.below hb)
  clear hb
  have HF := Lib.hid (fail_new (d := 0) (.iface 71 (.int .i64 1)) 1 w3 U3.out rfl)
  go_wp2_with fail
  with_reducible refine HF.out.mono ?_
  rintro e w4 ⟨rfl, ev, hu, hm, hg⟩
  have N4 := Lib.hid (blk_g N3.out hg (by intro e; injection e with e; have := HC.out; omega))
  have M4 := Lib.hid (blk_g M3.out hg (by intro e; injection e with e; have := HC.out; have := HL.out; omega))
  have G4 := Lib.hid (gtrans G3.out hg)
  have U4 := Lib.hid hu
  have E4 := Lib.hid hm
  clear hu hm hg HF
  obtain ⟨c0, c1, c2⟩ := cells3 M4.out
  obtain ⟨d0, d1, d2⟩ := cells3 N4.out
  obtain ⟨f0, f1, f2⟩ := free3 N4.out
  have D1 := Lib.hid d1
  have HNZ := Lib.hid (show w.heap.size ≠ L from Nat.ne_of_lt HL.out)
  have SF := Lib.hid (set3g (.int .u8 (c : Int)) (.int .i64 0) (.slice none 0 0) N4.out G4.out (Nat.le_refl _))
  go_wp2_with fail
  clear c0 c1 c2 d0 d1 d2 f0 f1 f2
  generalize ((w4.setCell ⟨w.heap.size, 0, none⟩ (.int .u8 (c : Int))).setCell ⟨w.heap.size, 1, none⟩ (.int .i64 0)).setCell ⟨w.heap.size, 2, none⟩ (.slice none 0 0) = wz at *
  refine bodyPost_ret (v := .agg #[.int .u8 (c : Int), .int .i64 0, .slice none 0 0]) (results_cell_row rfl _ _ w.heap.size 46 _ (0, 0) _ rfl SF.out.1 Tryz.underlying46 rfl (by kernel_rfl)) rfl ?_
  exact ⟨_, _, _, _, _, rfl, SF.out.2.2, _, _, (U4.out.other SF.out.2.1 (by have := HC.out; omega) (by have := HGL.out; omega)), E4.out.other SF.out.2.1 (fun t x h => by rw [D1.out] at h; cases h)⟩
set_option maxRecDepth 100000 in
set_option maxHeartbeats 8000000 in
theorem input_addr {C g : Nat} {xs : List Nat} (z : Nat) (w : World) (h : Cur w C g xs 0 .nilIface) (hx : xs.length < 1000000) (hl : 0 < xs.length) (hb8 : xs.getD 0 0 < 256) (c : Nat) (hcm : xs.getD 0 0 = c) (hk : aid c = true) (hw : bare c = false) (h8 : ∀ x ∈ xs, x < 256) (k : Nat) (hkk : (Adr.aspec (xs.drop 1) z).2.1 = k) (hk0 : k ≠ 0) :
    Calls Tryz.prog 53 #[.pointer (some ⟨C, 0, none⟩), .int .i64 (z : Int)] w fun e w' => Wrong w w' C g xs e k 1 := by
  have HC := Lib.hid h.clt
  have HGL := Lib.hid h.glt
  have HX := Lib.hid hx
  have HA := al_any w (.cells #[.int .u8 0, .int .i64 0, .slice none 0 0] 46)
  have HN := Lib.hid (heap_alloc_new w (.cells #[.int .u8 0, .int .i64 0, .slice none 0 0] 46))
  have HW0 := Lib.hid (gbelow HA (some C))
  have HU := h.below HA
  have HAD := Lib.hid fun W (hu : Cur W C g xs (0 + 1) .nilIface) => addr_bad (z : Int) W hu h8 (by rw [show 0 + 1 = 1 from rfl, hkk]; exact hk0)
  rw [show 0 + 1 = 1 from rfl, hkk] at HAD
  clear hkk hk0
  rw [hcm] at hb8
  have HBR := Lib.hid fun W => bare_any c W hb8
  rw [hw] at HBR
  have HTC := takeAid_ok _ HU (by omega) hl (by rw [hcm]; exact hb8) (by rw [hcm]; exact hk)
  rw [hcm] at HTC
  have HTA := Lib.hid HTC
  clear HTC hk hw hcm hb8
  clear h HU HA hx
  go_enter Tryz.func53, Tryz.ntmps53
  go_upto_region 1 with (fail)
  generalize w.alloc (.cells #[.int .u8 0, .int .i64 0, .slice none 0 0] 46) = wa at *
  go_wp2_with fail
  with_reducible refine HTA.out.mono ?_
  rintro e w1 ⟨rfl, hu, hg⟩
  have N1 := blk_g HN.out hg (by intro e; injection e with e; have := HC.out; omega)
  have HS := al_any w1 (.cells #[.int .u8 (c : Int), .int .i64 0, .slice none 0 0] 46)
  have N2 := Lib.hid (blk N1 HS)
  have M2 := Lib.hid (heap_alloc_new w1 (.cells #[.int .u8 (c : Int), .int .i64 0, .slice none 0 0] 46))
  have U2 := Lib.hid (hu.below HS)
  have G2 := Lib.hid (gtrans (gtrans HW0.out hg) (gbelow HS _))
  have HL := Lib.hid (show w.heap.size < w1.heap.size from there_lt N1)
  have HLS := Lib.hid (there_lt M2.out)
  clear HTA N1 hu hg HS HN HW0
  go_wp2_with fail
  generalize w1.heap.size = L at *
  generalize w1.alloc (.cells #[.int .u8 (c : Int), .int .i64 0, .slice none 0 0] 46) = w2 at *
  with_reducible refine (HBR.out w2).mono ?_
  rintro e w' ⟨rfl, rfl⟩
  go_wp2_with fail
  with_reducible refine (HAD.out w2 U2.out).mono ?_
  rintro e w3 ⟨rfl, ev, hu, hm, hg⟩
  obtain ⟨b, rfl, hm⟩ := hm
  have N3 := Lib.hid (blk_g N2.out hg (by intro e; injection e with e; have := HC.out; omega))
  have M3 := Lib.hid (blk_g M2.out hg (by intro e; injection e with e; have := HC.out; have := HL.out; omega))
  have G3 := Lib.hid (gtrans G2.out hg)
  have U3 := Lib.hid hu
  have E3 : Hid (Byt.Met w3 _ (k : Int) 1) := Lib.hid ⟨b, rfl, hm⟩
  clear hu hm hg HAD N2 M2 U2 G2
  obtain ⟨c0, c1, c2⟩ := cells3 M3.out
  obtain ⟨f0, f1, f2⟩ := free3 M3.out
  have D3 := Lib.hid c1
  have N4 := Lib.hid (blk_g N3.out (gsetCell w3 L 1 (.int .i64 0)) (by intro e; injection e with e; have := HL.out; omega))
  have M4 := Lib.hid (heap_setCell_same w3 L 1 _ 46 (.int .i64 0) M3.out)
  have U4 := Lib.hid (U3.out.other (gsetCell w3 L 1 (.int .i64 0)) (by have := HL.out; have := HC.out; omega) (by have := HL.out; have := HGL.out; omega))
  have G4 := Lib.hid (gnew G3.out (gsetCell w3 L 1 (.int .i64 0)) (Nat.le_of_lt HL.out))
  have E4 := Lib.hid (E3.out.other (gsetCell w3 L 1 (.int .i64 0)) (fun t x h => by rw [D3.out] at h; cases h))
  have S4 := Lib.hid (gsetCell w3 L 1 (.int .i64 0)).size
  go_wp2_with fail
  clear c0 c1 c2 f0 f1 f2
  generalize w3.setCell ⟨L, 1, none⟩ (.int .i64 0) = w4 at *
  with_reducible refine (takeFields_met z w4 U4.out HX.out).mono ?_
  rintro e w5 ⟨rfl, hb⟩
  have N5 := Lib.hid (blk N4.out hb)
  have M5 := Lib.hid (blk M4.out hb)
  have G5 := Lib.hid (gtrans G4.out (gbelow hb _))
  have U5 := Lib.hid (U4.out.below hb)
  have E5 := Lib.hid (E4.out.below hb)
  clear hb
  obtain ⟨c0, c1, c2⟩ := cells3 M5.out
  obtain ⟨f0, f1, f2⟩ := free3 M5.out
  have D5 := Lib.hid c1
  have N6 := Lib.hid (blk_g N5.out (gsetCell w5 L 2 (.slice none 0 0)) (by intro e; injection e with e; have := HL.out; omega))
  have M6 := Lib.hid (heap_setCell_same w5 L 2 _ 46 (.slice none 0 0) M5.out)
  have U6 := Lib.hid (U5.out.other (gsetCell w5 L 2 (.slice none 0 0)) (by have := HL.out; have := HC.out; omega) (by have := HL.out; have := HGL.out; omega))
  have G6 := Lib.hid (gnew G5.out (gsetCell w5 L 2 (.slice none 0 0)) (Nat.le_of_lt HL.out))
  have E6 := Lib.hid (E5.out.other (gsetCell w5 L 2 (.slice none 0 0)) (fun t x h => by rw [D5.out] at h; cases h))
  have S6 := Lib.hid (gsetCell w5 L 2 (.slice none 0 0)).size
  go_upto_region 7 with (fail)
  clear c0 c1 c2 f0 f1 f2
  generalize w5.setCell ⟨L, 2, none⟩ (.slice none 0 0) = w6 at *
  obtain ⟨c0, c1, c2⟩ := cells3 M6.out
  obtain ⟨d0, d1, d2⟩ := cells3 N6.out
  obtain ⟨f0, f1, f2⟩ := free3 N6.out
  have D1 := Lib.hid d1
  have HNZ := Lib.hid (show w.heap.size ≠ L from Nat.ne_of_lt HL.out)
  have SF := Lib.hid (set3g (.int .u8 (c : Int)) (.int .i64 0) (.slice none 0 0) N6.out G6.out (Nat.le_refl _))
  go_wp2_with fail
  clear c0 c1 c2 d0 d1 d2 f0 f1 f2
  generalize ((w6.setCell ⟨w.heap.size, 0, none⟩ (.int .u8 (c : Int))).setCell ⟨w.heap.size, 1, none⟩ (.int .i64 0)).setCell ⟨w.heap.size, 2, none⟩ (.slice none 0 0) = wz at *
  refine bodyPost_ret (v := .agg #[.int .u8 (c : Int), .int .i64 0, .slice none 0 0]) (results_cell_row rfl _ _ w.heap.size 46 _ (0, 0) _ rfl SF.out.1 Tryz.underlying46 rfl (by kernel_rfl)) rfl ?_
  exact ⟨_, _, _, _, _, rfl, SF.out.2.2, _, _, (U6.out.other SF.out.2.1 (by have := HC.out; omega) (by have := HGL.out; omega)), E6.out.other SF.out.2.1 (fun t x h => by rw [D1.out] at h; cases h)⟩
set_option maxRecDepth 100000 in
set_option maxHeartbeats 8000000 in
theorem input_flds {C g : Nat} {xs : List Nat} (z : Nat) (w : World) (h : Cur w C g xs 0 .nilIface) (hx : xs.length < 1000000) (hl : 0 < xs.length) (hb8 : xs.getD 0 0 < 256) (c : Nat) (hcm : xs.getD 0 0 = c) (hk : aid c = true) (hw : bare c = false) (h8 : ∀ x ∈ xs, x < 256) (a : Nat) (haa : Adr.aspec (xs.drop 1) z = (a, 0, -1)) (k wh : Nat) (os : List F)
    (hF : ∀ W, Cur W C g xs 3 .nilIface → Calls Tryz.prog 99 #[.pointer (some ⟨C, 0, none⟩), .int .i64 (z : Int)] W fun e w' => ∃ va vn vc, e = .returned (.slice va vn vc) ∧ W.grownBy w' (some C) ∧ ((k = 0 ∧ OwnFlds w' W.heap.size (.slice va vn vc) os ∧ ∃ at', Cur w' C g xs at' .nilIface) ∨ (k ≠ 0 ∧ ∃ ev at', Cur w' C g xs at' ev ∧ Byt.Met w' ev (k : Int) wh))) :
    Calls Tryz.prog 53 #[.pointer (some ⟨C, 0, none⟩), .int .i64 (z : Int)] w fun e w' => (k = 0 ∧ Gives w w' C g xs e ⟨c, a, os⟩) ∨ (k ≠ 0 ∧ Wrong w w' C g xs e k wh) := by
  have HC := Lib.hid h.clt
  have HGL := Lib.hid h.glt
  have HX := Lib.hid hx
  have HA := al_any w (.cells #[.int .u8 0, .int .i64 0, .slice none 0 0] 46)
  have HN := Lib.hid (heap_alloc_new w (.cells #[.int .u8 0, .int .i64 0, .slice none 0 0] 46))
  have HW0 := Lib.hid (gbelow HA (some C))
  have HU := h.below HA
  have HAD := Lib.hid fun W (hu : Cur W C g xs (0 + 1) .nilIface) => addr_ok (z : Int) W hu h8 (by omega) (by rw [show 0 + 1 = 1 from rfl, haa])
  rw [show 0 + 1 = 1 from rfl, haa] at HAD
  have HFF := Lib.hid hF
  clear haa hF
  rw [hcm] at hb8
  have HBR := Lib.hid fun W => bare_any c W hb8
  rw [hw] at HBR
  have HTC := takeAid_ok _ HU (by omega) hl (by rw [hcm]; exact hb8) (by rw [hcm]; exact hk)
  rw [hcm] at HTC
  have HTA := Lib.hid HTC
  clear HTC hk hw hcm hb8
  clear h HU HA hx
  go_enter Tryz.func53, Tryz.ntmps53
  go_upto_region 1 with (fail)
  generalize w.alloc (.cells #[.int .u8 0, .int .i64 0, .slice none 0 0] 46) = wa at *
  go_wp2_with fail
  with_reducible refine HTA.out.mono ?_
  rintro e w1 ⟨rfl, hu, hg⟩
  have N1 := blk_g HN.out hg (by intro e; injection e with e; have := HC.out; omega)
  have HS := al_any w1 (.cells #[.int .u8 (c : Int), .int .i64 0, .slice none 0 0] 46)
  have N2 := Lib.hid (blk N1 HS)
  have M2 := Lib.hid (heap_alloc_new w1 (.cells #[.int .u8 (c : Int), .int .i64 0, .slice none 0 0] 46))
  have U2 := Lib.hid (hu.below HS)
  have G2 := Lib.hid (gtrans (gtrans HW0.out hg) (gbelow HS _))
  have HL := Lib.hid (show w.heap.size < w1.heap.size from there_lt N1)
  have HLS := Lib.hid (there_lt M2.out)
  clear HTA N1 hu hg HS HN HW0
  go_wp2_with fail
  generalize w1.heap.size = L at *
  generalize w1.alloc (.cells #[.int .u8 (c : Int), .int .i64 0, .slice none 0 0] 46) = w2 at *
  with_reducible refine (HBR.out w2).mono ?_
  rintro e w' ⟨rfl, rfl⟩
  go_wp2_with fail
  with_reducible refine (HAD.out w2 U2.out).mono ?_
  rintro e w3 ⟨rfl, hu, hg⟩
  have N3 := Lib.hid (blk_g N2.out hg (by intro e; injection e with e; have := HC.out; omega))
  have M3 := Lib.hid (blk_g M2.out hg (by intro e; injection e with e; have := HC.out; have := HL.out; omega))
  have G3 := Lib.hid (gtrans G2.out hg)
  have U3 := Lib.hid hu
  have HL3 := Lib.hid (Nat.le_trans HLS.out hg.size)
  clear hu hg HAD N2 M2 U2 G2
  obtain ⟨c0, c1, c2⟩ := cells3 M3.out
  obtain ⟨f0, f1, f2⟩ := free3 M3.out
  have N4 := Lib.hid (blk_g N3.out (gsetCell w3 L 1 (.int .i64 (a : Int))) (by intro e; injection e with e; have := HL.out; omega))
  have M4 := Lib.hid (heap_setCell_same w3 L 1 _ 46 (.int .i64 (a : Int)) M3.out)
  have U4 := Lib.hid (U3.out.other (gsetCell w3 L 1 (.int .i64 (a : Int))) (by have := HL.out; have := HC.out; omega) (by have := HL.out; have := HGL.out; omega))
  have G4 := Lib.hid (gnew G3.out (gsetCell w3 L 1 (.int .i64 (a : Int))) (Nat.le_of_lt HL.out))
  have S4 := Lib.hid (gsetCell w3 L 1 (.int .i64 (a : Int))).size
  have HLB := Lib.hid (Nat.lt_of_lt_of_le HL3.out S4.out)
  go_wp2_with fail
  clear c0 c1 c2 f0 f1 f2
  generalize w3.setCell ⟨L, 1, none⟩ (.int .i64 (a : Int)) = w4 at *
  with_reducible refine (HFF.out w4 U4.out).mono ?_
  rintro e w5 ⟨va, vn, vc, rfl, hg, hcase⟩
  have N5 := Lib.hid (blk_g N4.out hg (by intro e; injection e with e; have := HC.out; omega))
  have M5 := Lib.hid (blk_g M4.out hg (by intro e; injection e with e; have := HC.out; have := HL.out; omega))
  have G5 := Lib.hid (gtrans G4.out hg)
  clear hg HFF
  rcases hcase with ⟨rfl, ho, at5, hu⟩ | ⟨hk0, ev, at5, hu, hm⟩
  · have U5 := Lib.hid hu
    have O5 := Lib.hid ho
    clear hu ho
    obtain ⟨c0, c1, c2⟩ := cells3 M5.out
    obtain ⟨f0, f1, f2⟩ := free3 M5.out
    have N6 := Lib.hid (blk_g N5.out (gsetCell w5 L 2 (.slice va vn vc)) (by intro e; injection e with e; have := HL.out; omega))
    have M6 := Lib.hid (heap_setCell_same w5 L 2 _ 46 (.slice va vn vc) M5.out)
    have U6 := Lib.hid (U5.out.other (gsetCell w5 L 2 (.slice va vn vc)) (by have := HL.out; have := HC.out; omega) (by have := HL.out; have := HGL.out; omega))
    have G6 := Lib.hid (gnew G5.out (gsetCell w5 L 2 (.slice va vn vc)) (Nat.le_of_lt HL.out))
    have O6 := Lib.hid (O5.out.other (gsetCell w5 L 2 (.slice va vn vc)) HLB.out)
    have S6 := Lib.hid (gsetCell w5 L 2 (.slice va vn vc)).size
    go_upto_region 7 with (fail)
    clear c0 c1 c2 f0 f1 f2
    generalize w5.setCell ⟨L, 2, none⟩ (.slice va vn vc) = w6 at *
    obtain ⟨c0, c1, c2⟩ := cells3 M6.out
    obtain ⟨d0, d1, d2⟩ := cells3 N6.out
    obtain ⟨f0, f1, f2⟩ := free3 N6.out
    have D1 := Lib.hid d1
    have HNZ := Lib.hid (show w.heap.size ≠ L from Nat.ne_of_lt HL.out)
    have SF := Lib.hid (set3g (.int .u8 (c : Int)) (.int .i64 (a : Int)) (.slice va vn vc) N6.out G6.out (Nat.le_refl _))
    go_wp2_with fail
    clear c0 c1 c2 d0 d1 d2 f0 f1 f2
    generalize ((w6.setCell ⟨w.heap.size, 0, none⟩ (.int .u8 (c : Int))).setCell ⟨w.heap.size, 1, none⟩ (.int .i64 (a : Int))).setCell ⟨w.heap.size, 2, none⟩ (.slice va vn vc) = wz at *
    refine bodyPost_ret (v := .agg #[.int .u8 (c : Int), .int .i64 (a : Int), .slice va vn vc]) (results_cell_row rfl _ _ w.heap.size 46 _ (0, 0) _ rfl SF.out.1 Tryz.underlying46 rfl (by kernel_rfl)) rfl ?_
    exact ⟨_, _, _, rfl, SF.out.2.2, (O6.out.other SF.out.2.1 (Nat.lt_trans HL.out HLB.out)).to.mono (Nat.le_of_lt (Nat.lt_trans HL.out HLB.out)), _, (U6.out.other SF.out.2.1 (by have := HC.out; omega) (by have := HGL.out; omega))⟩
  · have U5 := Lib.hid hu
    have E5 := Lib.hid hm
    have HK0 := Lib.hid hk0
    clear hu hm hk0
    obtain ⟨c0, c1, c2⟩ := cells3 M5.out
    obtain ⟨f0, f1, f2⟩ := free3 M5.out
    have D5 := Lib.hid c1
    have N6 := Lib.hid (blk_g N5.out (gsetCell w5 L 2 (.slice va vn vc)) (by intro e; injection e with e; have := HL.out; omega))
    have M6 := Lib.hid (heap_setCell_same w5 L 2 _ 46 (.slice va vn vc) M5.out)
    have U6 := Lib.hid (U5.out.other (gsetCell w5 L 2 (.slice va vn vc)) (by have := HL.out; have := HC.out; omega) (by have := HL.out; have := HGL.out; omega))
    have G6 := Lib.hid (gnew G5.out (gsetCell w5 L 2 (.slice va vn vc)) (Nat.le_of_lt HL.out))
    have E6 := Lib.hid (E5.out.other (gsetCell w5 L 2 (.slice va vn vc)) (fun t x h => by rw [D5.out] at h; cases h))
    have S6 := Lib.hid (gsetCell w5 L 2 (.slice va vn vc)).size
    go_upto_region 7 with (fail)
    clear c0 c1 c2 f0 f1 f2
    generalize w5.setCell ⟨L, 2, none⟩ (.slice va vn vc) = w6 at *
    obtain ⟨c0, c1, c2⟩ := cells3 M6.out
    obtain ⟨d0, d1, d2⟩ := cells3 N6.out
    obtain ⟨f0, f1, f2⟩ := free3 N6.out
    have D1 := Lib.hid d1
    have HNZ := Lib.hid (show w.heap.size ≠ L from Nat.ne_of_lt HL.out)
    have SF := Lib.hid (set3g (.int .u8 (c : Int)) (.int .i64 (a : Int)) (.slice va vn vc) N6.out G6.out (Nat.le_refl _))
    go_wp2_with fail
    clear c0 c1 c2 d0 d1 d2 f0 f1 f2
    generalize ((w6.setCell ⟨w.heap.size, 0, none⟩ (.int .u8 (c : Int))).setCell ⟨w.heap.size, 1, none⟩ (.int .i64 (a : Int))).setCell ⟨w.heap.size, 2, none⟩ (.slice va vn vc) = wz at *
    refine bodyPost_ret (v := .agg #[.int .u8 (c : Int), .int .i64 (a : Int), .slice va vn vc]) (results_cell_row rfl _ _ w.heap.size 46 _ (0, 0) _ rfl SF.out.1 Tryz.underlying46 rfl (by kernel_rfl)) rfl ?_
    exact .inr ⟨HK0.out, ⟨_, _, _, _, _, rfl, SF.out.2.2, _, _, (U6.out.other SF.out.2.1 (by have := HC.out; omega) (by have := HGL.out; omega)), E6.out.other SF.out.2.1 (fun t x h => by rw [D1.out] at h; cases h)⟩⟩
end Inp
end Go.Proofs.YtpdlpmbjhopnnaaGreatDoor
/- takeInput by the plain function; Read of package input. -/
namespace Go.Proofs.YtpdlpmbjhopnnaaGreatDoor
open Go.RowKit Sha Cut Err Six Att Byt Apd
namespace Inp
theorem iread_cons (c : Nat) (r : List Nat) (z : Nat) (hl : (c :: r).length ≤ 8192) : iread (c :: r) z =
    if aid c = false then ((noneI, 3, 0) : I × Nat × Int)
    else if bare c = true then if r ≠ [] then (noneI, 1, 1) else (⟨c, 0, []⟩, 0, -1)
    else if (Adr.aspec r z).2.1 ≠ 0 then (noneI, (Adr.aspec r z).2.1, 1)
    else if lets (r.drop 2) ≠ [] then if rest (r.drop 2) ≠ [] then (noneI, 3, 3 + (lets (r.drop 2)).length) else (⟨c, ((Adr.aspec r z).1 : Int), [⟨-1, r.drop 2⟩]⟩, 0, -1)
    else if (flds z r.length 3 (r.drop 2)).2.1 ≠ 0 then (noneI, (flds z r.length 3 (r.drop 2)).2.1, ((flds z r.length 3 (r.drop 2)).2.2 : Int))
    else (⟨c, ((Adr.aspec r z).1 : Int), (flds z r.length 3 (r.drop 2)).1⟩, 0, -1) := by
  unfold iread
  rw [if_neg (by omega)]
theorem input_any {C g : Nat} {xs : List Nat} (z : Nat) (w : World) (h : Cur w C g xs 0 .nilIface) (hx : xs.length ≤ 8192) (h8 : ∀ x ∈ xs, x < 256) (R : I × Nat × Int) (hR : R = iread xs z) :
    Calls Tryz.prog 53 #[.pointer (some ⟨C, 0, none⟩), .int .i64 (z : Int)] w fun e w' => (R.2.1 = 0 ∧ Gives w w' C g xs e R.1) ∨ (R.2.1 ≠ 0 ∧ ∃ wh : Nat, Wrong w w' C g xs e R.2.1 wh ∧ (wh : Int) = R.2.2) := by
  have hx6 : xs.length < 1000000 := by omega
  cases xs with
  | nil =>
    have e : R = (noneI, 2, 0) := by rw [hR]; rfl
    subst e
    refine (input_noaid z w h hx6 2 (fun W hu => takeAid_none W hu (Nat.zero_le _))).mono ?_
    intro e w' hw
    exact .inr ⟨by show (2 : Nat) ≠ 0; decide, 0, hw, rfl⟩
  | cons c r =>
    have hc8 := h8 c (by simp)
    have hcg : (c :: r).getD 0 0 = c := rfl
    have hl0 : 0 < (c :: r).length := by simp
    rw [iread_cons c r z hx] at hR
    cases hk : aid c with
    | false =>
      rw [if_pos hk] at hR
      subst hR
      refine (input_noaid z w h hx6 3 (fun W hu => takeAid_bad W hu hl0 hc8 hk)).mono ?_
      intro e w' hw
      exact .inr ⟨by show (3 : Nat) ≠ 0; decide, 0, hw, rfl⟩
    | true =>
      rw [if_neg (by rw [hk]; decide)] at hR
      cases hb : bare c with
      | true =>
        rw [if_pos hb] at hR
        by_cases hr : r = []
        · subst hr
          rw [if_neg (by simp)] at hR
          subst hR
          refine (input_bare z w h hx6 hl0 hc8 c hcg hk hb rfl).mono ?_
          intro e w' hw
          exact .inl ⟨rfl, hw⟩
        · rw [if_pos hr] at hR
          subst hR
          have hpos : 0 < r.length := List.length_pos_iff.2 hr
          refine (input_more z w h hx6 hl0 hc8 c hcg hk hb (by simp only [List.length_cons]; omega)).mono ?_
          intro e w' hw
          exact .inr ⟨by show (1 : Nat) ≠ 0; decide, 1, hw, rfl⟩
      | false =>
        rw [if_neg (by rw [hb]; decide)] at hR
        by_cases hs : (Adr.aspec r z).2.1 = 0
        · rw [if_neg (by rw [hs]; simp)] at hR
          obtain ⟨a, r2, _, _, hr, hsp⟩ := Adr.put_aspec r z (fun x hx => h8 x (List.mem_cons_of_mem _ hx)) hs
          have hd : (c :: r).drop 3 = r.drop 2 := rfl
          have haa : Adr.aspec ((c :: r).drop 1) z = (a, 0, -1) := hsp
          rw [hsp, ← hd] at hR
          have h3 : 3 ≤ (c :: r).length := by rw [hr]; simp
          have hdl : ((c :: r).drop 3).length = (c :: r).length - 3 := List.length_drop
          have hlr := congrArg List.length (lets_rest ((c :: r).drop 3))
          simp only [List.length_append] at hlr
          by_cases hn : lets ((c :: r).drop 3) = []
          · rw [if_neg (by simpa using hn)] at hR
            obtain ⟨Q, hQ⟩ : ∃ Q, Q = flds z r.length 3 ((c :: r).drop 3) := ⟨_, rfl⟩
            rw [← hQ] at hR
            have hRuns : Runs z (c :: r) Q [] 3 := by rw [hQ]; exact runs_start h3 (by simp only [List.length_cons]; omega)
            refine (input_flds z w h hx6 hl0 hc8 c hcg hk hb h8 a haa Q.2.1 Q.2.2 Q.1 (fun W hu => (takeFields_runs z W hu h8 hx6 hn Q hRuns).mono ?_)).mono ?_
            · rintro e w' ⟨va, vn, vc, he, hg, hcase⟩
              rcases hcase with ⟨h0, ho, hu⟩ | hE
              · exact ⟨va, vn, vc, he, hg, .inl ⟨h0, ho, _, hu⟩⟩
              · exact ⟨va, vn, vc, he, hg, .inr hE⟩
            · rintro e w' (⟨h0, hw⟩ | ⟨h0, hw⟩)
              · rw [if_neg (by rw [h0]; simp)] at hR
                subst hR
                exact .inl ⟨rfl, hw⟩
              · rw [if_pos h0] at hR
                subst hR
                exact .inr ⟨h0, _, hw, rfl⟩
          · rw [if_pos hn] at hR
            have hpos : 0 < (lets ((c :: r).drop 3)).length := List.length_pos_iff.2 hn
            by_cases hrs : rest ((c :: r).drop 3) = []
            · rw [if_neg (by simpa using hrs)] at hR
              have hall := lets_rest ((c :: r).drop 3)
              rw [hrs, List.append_nil] at hall
              rw [hrs, List.length_nil, Nat.add_zero] at hlr
              refine (input_flds z w h hx6 hl0 hc8 c hcg hk hb h8 a haa 0 0 [⟨-1, (c :: r).drop 3⟩] (fun W hu => (takeFields_all z W hu h8 hx6 _ rfl hpos (by omega)).mono ?_)).mono ?_
              · rintro e w' ⟨va, vc, he, hg, ho, hu⟩
                rw [hall] at ho
                exact ⟨va, 1, vc, he, hg, .inl ⟨rfl, ho, _, hu⟩⟩
              · rintro e w' (⟨_, hw⟩ | ⟨h0, _⟩)
                · subst hR
                  exact .inl ⟨rfl, hw⟩
                · exact absurd rfl h0
            · rw [if_pos hrs] at hR
              have hpr : 0 < (rest ((c :: r).drop 3)).length := List.length_pos_iff.2 hrs
              refine (input_flds z w h hx6 hl0 hc8 c hcg hk hb h8 a haa 3 (3 + (lets ((c :: r).drop 3)).length) [] (fun W hu => (takeFields_some z W hu h8 hx6 _ rfl hpos (by omega)).mono ?_)).mono ?_
              · rintro e w' ⟨va, vn, vc, he, hg, ev, at', hu, hm⟩
                exact ⟨va, vn, vc, he, hg, .inr ⟨by decide, ev, at', hu, hm⟩⟩
              · rintro e w' (⟨h0, _⟩ | ⟨h0, hw⟩)
                · cases h0
                · subst hR
                  exact .inr ⟨h0, _, hw, by simp⟩
        · rw [if_pos hs] at hR
          subst hR
          refine (input_addr z w h hx6 hl0 hc8 c hcg hk hb h8 _ rfl hs).mono ?_
          intro e w' hw
          exact .inr ⟨hs, 1, hw, rfl⟩
theorem set3c (a : World) (B : Nat) (t : TypeId) (a0 a1 a2 u0 u1 u2 : Value) {w : World} (h : a.heap[B]? = some (.cells #[a0, a1, a2] t (0, 0))) (hb : Below w.heap.size w a) (hB : w.heap.size ≤ B) :
    (((a.setCell ⟨B, 0, none⟩ u0).setCell ⟨B, 1, none⟩ u1).setCell ⟨B, 2, none⟩ u2).heap[B]? = some (.cells #[u0, u1, u2] t (0, 0)) ∧
    a.grownBy (((a.setCell ⟨B, 0, none⟩ u0).setCell ⟨B, 1, none⟩ u1).setCell ⟨B, 2, none⟩ u2) (some B) ∧
    Below w.heap.size w (((a.setCell ⟨B, 0, none⟩ u0).setCell ⟨B, 1, none⟩ u1).setCell ⟨B, 2, none⟩ u2) := by
  obtain ⟨h1, h2, _⟩ := set3g u0 u1 u2 h (gbelow hb none) hB
  exact ⟨h1, h2, hb.grown h2 hb.size (by intro k hk; injection hk with hk; omega)⟩
set_option maxRecDepth 100000 in
set_option maxHeartbeats 4000000 in
theorem read_long {xs : List Nat} (ad : Option Addr) (cap z : Nat) (w : World) (hl : 8192 < xs.length) (hx : xs.length < 1000000) :
    Calls Tryz.prog 21 #[.slice ad xs.length cap, .int .i64 (z : Int)] w fun e w' => ∃ b, e = .returned (.tuple #[.agg #[.int .u8 0, .int .i64 0, .slice none 0 0], .iface 84 (.pointer (some ⟨b, 0, none⟩))]) ∧ Err.Told w' (.iface 84 (.pointer (some ⟨b, 0, none⟩))) 6 8192 ∧ Below w.heap.size w w' := by
  have HA := Lib.hid (al_any w (.cells #[.int .u8 0, .int .i64 0, .slice none 0 0] 46))
  have HN := Lib.hid (heap_alloc_new w (.cells #[.int .u8 0, .int .i64 0, .slice none 0 0] 46))
  have hg : (8192 : Int) < (xs.length : Int) := by omega
  have HX := Lib.hid hx
  clear hl hx
  go_enter Tryz.func21, Tryz.ntmps21
  go_upto_region 2 with (fail)
  generalize w.alloc (.cells #[.int .u8 0, .int .i64 0, .slice none 0 0] 46) = w1 at *
  have l1 : w.heap.size < w1.heap.size := there_lt HN.out
  obtain ⟨d0, d1, d2⟩ := cells3 HN.out
  obtain ⟨f0, f1, f2⟩ := free3 HN.out
  have D1 := Lib.hid d1
  go_wp2_with fail
  clear d0 d1 d2 f0 f1 f2
  have SF := Lib.hid (set3c w1 w.heap.size 46 _ _ _ (.int .u8 0) (.int .i64 0) (.slice none 0 0) HN.out HA.out (Nat.le_refl _))
  have hs : (((w1.setCell ⟨w.heap.size, 0, none⟩ (.int .u8 0)).setCell ⟨w.heap.size, 1, none⟩ (.int .i64 0)).setCell ⟨w.heap.size, 2, none⟩ (.slice none 0 0)).heap.size = w1.heap.size := by simp [World.setCell]
  generalize ((w1.setCell ⟨w.heap.size, 0, none⟩ (.int .u8 0)).setCell ⟨w.heap.size, 1, none⟩ (.int .i64 0)).setCell ⟨w.heap.size, 2, none⟩ (.slice none 0 0) = wz at *
  have HS := al_any wz (.cells #[.int .i64 8192, .iface 71 (.int .i64 6)] 86)
  have HL := heap_alloc_new wz (.cells #[.int .i64 8192, .iface 71 (.int .i64 6)] 86)
  rw [hs] at HL
  have HZ := blk SF.out.1 HS
  have HB2 := kept_trans SF.out.2.2 HS
  generalize wz.alloc _ = wy at *
  refine bodyPost_ret (v := .tuple #[.agg #[.int .u8 0, .int .i64 0, .slice none 0 0], .iface 84 (.pointer (some ⟨w1.heap.size, 0, none⟩))]) (results_cell_row_tmp rfl _ _ _ w.heap.size _ rfl (run_loadVar_row wy w.heap.size 46 46 _ (0, 0) _ HZ Tryz.underlying46 rfl (by kernel_rfl)) (.iface 84 (.pointer (some ⟨w1.heap.size, 0, none⟩))) rfl) rfl ?_
  have c0 := cell_of_row wy w1.heap.size 0 _ _ (0, 0) HL
  have c1 := cell_of_row wy w1.heap.size 1 _ _ (0, 0) HL
  exact ⟨_, rfl, .inr (.inr ⟨0, w1.heap.size, rfl, c0, _, _, _, rfl, c0, c1, rfl⟩), HB2⟩
set_option maxRecDepth 100000 in
set_option maxHeartbeats 8000000 in
theorem read_ok {xs : List Nat} (ad : Option Addr) (cap z : Nat) (w : World) (hB : BytesIn w (.slice ad xs.length cap) xs) (h8 : ∀ x ∈ xs, x < 256) (hn : ad = none → xs.length = 0 ∧ cap = 0) (hl : xs.length ≤ 8192) (R : I × Nat × Int) (hR : R = iread xs z) (hE : R.2.1 = 0) :
    Calls Tryz.prog 21 #[.slice ad xs.length cap, .int .i64 (z : Int)] w fun e w' => ∃ oa k oc, e = .returned (.tuple #[.agg #[.int .u8 (R.1.aid : Int), .int .i64 R.1.cur, .slice oa k oc], .nilIface]) ∧ FldsIn w' w.heap.size (.slice oa k oc) R.1.fs ∧ Below w.heap.size w w' := by
  have HA := Lib.hid (al_any w (.cells #[.int .u8 0, .int .i64 0, .slice none 0 0] 46))
  have HN := Lib.hid (heap_alloc_new w (.cells #[.int .u8 0, .int .i64 0, .slice none 0 0] 46))
  have hg : ¬ (8192 : Int) < (xs.length : Int) := by omega
  have HNEW := Lib.hid (fun W hb => new_any ad xs.length cap xs W (bytes_below hB hb) hn (by omega))
  have HIN := Lib.hid (fun (W : World) (C g : Nat) (hu : Cur W C g xs 0 .nilIface) => (input_any z W hu hl h8 R hR).mono (fun e w' h => h.elim (fun h => h.2) (fun h => absurd hE h.1)))
  clear hB h8 hn hE hl hR
  obtain ⟨⟨cc, ca, cos⟩, cb, cw⟩ := R
  simp only at HIN ⊢
  go_enter Tryz.func21, Tryz.ntmps21
  go_upto_region 1 with (fail)
  generalize w.alloc (.cells #[.int .u8 0, .int .i64 0, .slice none 0 0] 46) = w1 at *
  go_wp2_with fail
  with_reducible refine (HNEW.out _ HA.out).mono ?_
  rintro e w2 ⟨C, g, rfl, hu, hC, hG, hb⟩
  have K2 := kept_hid HA hb
  have N2 := Lib.hid (blk HN.out hb)
  have U2 := Lib.hid hu
  have HRC := Lib.hid (show w.heap.size < C from Nat.lt_of_lt_of_le (there_lt HN.out) hC)
  have HRG := Lib.hid (show w.heap.size < g from Nat.lt_of_lt_of_le (there_lt HN.out) hG)
  clear hu hC hG hb HNEW HA HN
  go_wp2_with fail
  with_reducible refine (HIN.out w2 C g U2.out).mono ?_
  rintro e w3 ⟨oa, n, cp, rfl, hg3, ho, at_, hu⟩
  have N3 := blk_g N2.out hg3 (by intro e; injection e with e; have := HRC.out; omega)
  have K3 := Lib.hid (K2.out.grown hg3 K2.out.size (by intro k hk; injection hk with hk; have := HRC.out; omega))
  have HS := al_any w3 (.cells #[.int .u8 (cc : Int), .int .i64 ca, .slice oa n cp] 46)
  have N4 := Lib.hid (blk N3 HS)
  have L4 := Lib.hid (heap_alloc_new w3 (.cells #[.int .u8 (cc : Int), .int .i64 ca, .slice oa n cp] 46))
  have U4 := Lib.hid (hu.below HS)
  have K4 := kept_hid K3 HS
  have O4 := Lib.hid (ho.below HS)
  have HOB := Lib.hid (there_lt N2.out)
  clear HS N3 K3 hu hg3 U2 HIN N2 ho
  go_upto_region 5 with (fail)
  generalize w3.alloc (.cells #[.int .u8 (cc : Int), .int .i64 ca, .slice oa n cp] 46) = w4 at *
  have A5 := al_any w4 (.cells #[.pointer none] 84)
  have N5 := Lib.hid (blk N4.out A5)
  have L5 := Lib.hid (blk L4.out A5)
  have U5 := Lib.hid (U4.out.below A5)
  have K5 := kept_hid K4 A5
  have O5 := Lib.hid (O4.out.below A5)
  clear A5 N4 L4 U4 K4 O4
  go_upto_region 6 with (fail)
  generalize w4.alloc (.cells #[.pointer none] 84) = w5 at *
  generalize w4.heap.size = V at *
  generalize w3.heap.size = L at *
  go_wp2_with fail
  with_reducible refine (err_any w5 U5.out).mono ?_
  rintro e w' ⟨rfl, rfl⟩
  go_wp2_with fail
  with_reducible refine (as_nil _ w5).mono ?_
  rintro e w' ⟨rfl, hw⟩
  obtain rfl : w5 = w' := hw.symm
  obtain ⟨c0, c1, c2⟩ := cells3 L5.out
  obtain ⟨d0, d1, d2⟩ := cells3 N5.out
  obtain ⟨f0, f1, f2⟩ := free3 N5.out
  go_wp2_with fail
  clear c0 c1 c2 d0 d1 d2 f0 f1 f2
  have SF := Lib.hid (set3c w5 w.heap.size 46 _ _ _ (.int .u8 (cc : Int)) (.int .i64 ca) (.slice oa n cp) N5.out K5.out (Nat.le_refl _))
  generalize ((w5.setCell ⟨w.heap.size, 0, none⟩ (.int .u8 (cc : Int))).setCell ⟨w.heap.size, 1, none⟩ (.int .i64 ca)).setCell ⟨w.heap.size, 2, none⟩ (.slice oa n cp) = wz at *
  refine bodyPost_ret (v := .tuple #[.agg #[.int .u8 (cc : Int), .int .i64 ca, .slice oa n cp], .nilIface]) (results_cell_row_tmp rfl _ _ _ w.heap.size _ rfl (run_loadVar_row wz w.heap.size 46 46 _ (0, 0) _ SF.out.1 Tryz.underlying46 rfl (by kernel_rfl)) .nilIface rfl) rfl ?_
  exact ⟨_, _, _, rfl, (O5.out.grown SF.out.2.1 HOB.out).mono (Nat.le_of_lt HOB.out), SF.out.2.2⟩
set_option maxRecDepth 100000 in
set_option maxHeartbeats 8000000 in
theorem read_bad {xs : List Nat} (ad : Option Addr) (cap z : Nat) (w : World) (hH : Handle w) (hB : BytesIn w (.slice ad xs.length cap) xs) (h8 : ∀ x ∈ xs, x < 256) (hn : ad = none → xs.length = 0 ∧ cap = 0) (hl : xs.length ≤ 8192) (R : I × Nat × Int) (hR : R = iread xs z) (hE : R.2.1 ≠ 0) :
    Calls Tryz.prog 21 #[.slice ad xs.length cap, .int .i64 (z : Int)] w fun e w' => ∃ b, e = .returned (.tuple #[.agg #[.int .u8 0, .int .i64 0, .slice none 0 0], .iface 84 (.pointer (some ⟨b, 0, none⟩))]) ∧ Err.Told w' (.iface 84 (.pointer (some ⟨b, 0, none⟩))) (R.2.1 : Int) R.2.2 ∧ Below w.heap.size w w' := by
  have HA := Lib.hid (al_any w (.cells #[.int .u8 0, .int .i64 0, .slice none 0 0] 46))
  have HN := Lib.hid (heap_alloc_new w (.cells #[.int .u8 0, .int .i64 0, .slice none 0 0] 46))
  have hg : ¬ (8192 : Int) < (xs.length : Int) := by omega
  have HNEW := Lib.hid (fun W hb => new_any ad xs.length cap xs W (bytes_below hB hb) hn (by omega))
  have HIN := Lib.hid (fun (W : World) (C g : Nat) (hu : Cur W C g xs 0 .nilIface) => (input_any z W hu hl h8 R hR).mono (fun e w' h => h.elim (fun h => absurd h.1 hE) (fun h => h.2)))
  have HH := Lib.hid hH
  clear hB h8 hn hE hl hR hH
  obtain ⟨_, cb, cw⟩ := R
  simp only at HIN ⊢
  go_enter Tryz.func21, Tryz.ntmps21
  go_upto_region 1 with (fail)
  generalize w.alloc (.cells #[.int .u8 0, .int .i64 0, .slice none 0 0] 46) = w1 at *
  go_wp2_with fail
  with_reducible refine (HNEW.out _ HA.out).mono ?_
  rintro e w2 ⟨C, g, rfl, hu, hC, hG, hb⟩
  have K2 := kept_hid HA hb
  have N2 := Lib.hid (blk HN.out hb)
  have U2 := Lib.hid hu
  have HRC := Lib.hid (show w.heap.size < C from Nat.lt_of_lt_of_le (there_lt HN.out) hC)
  clear hu hC hG hb HNEW HA HN
  go_wp2_with fail
  with_reducible refine (HIN.out w2 C g U2.out).mono ?_
  rintro e w3 ⟨wh, ⟨cc, ca, oa, n, cp, rfl, hg3, ev, at_, hu, hm⟩, hwh⟩
  obtain ⟨b, rfl, hm⟩ := hm
  subst hwh
  have N3 := blk_g N2.out hg3 (by intro e; injection e with e; have := HRC.out; omega)
  have K3 := Lib.hid (K2.out.grown hg3 K2.out.size (by intro k hk; injection hk with hk; have := HRC.out; omega))
  have HS := al_any w3 (.cells #[.int .u8 (cc : Int), .int .i64 ca, .slice oa n cp] 46)
  have N4 := Lib.hid (blk N3 HS)
  have U4 := Lib.hid (hu.below HS)
  have K4 := kept_hid K3 HS
  have M4 : Hid (Err.Told (w3.alloc (.cells #[.int .u8 (cc : Int), .int .i64 ca, .slice oa n cp] 46)) _ (cb : Int) (wh : Int)) := Lib.hid (hm.below HS)
  clear HS N3 K3 hu hg3 U2 HIN N2 hm HRC
  go_upto_region 5 with (fail)
  generalize w3.alloc (.cells #[.int .u8 (cc : Int), .int .i64 ca, .slice oa n cp] 46) = w4 at *
  have A5 := al_any w4 (.cells #[.pointer none] 84)
  have V5 := Lib.hid (heap_alloc_new w4 (.cells #[.pointer none] 84))
  have U5 := Lib.hid (U4.out.below A5)
  have K5 := kept_hid K4 A5
  have HAA := Lib.hid A5
  clear A5
  go_upto_region 6 with (fail)
  generalize w4.alloc (.cells #[.pointer none] 84) = w5 at *
  have H5 := Lib.hid (hand_of HH.out K5.out)
  go_wp2_with fail
  with_reducible refine (err_any w5 U5.out).mono ?_
  rintro e w' ⟨rfl, rfl⟩
  go_wp2_with fail
  have hv0 : w5.cell? ⟨w4.heap.size, 0, none⟩ = some (.pointer none) := cell_of_row _ _ 0 _ _ _ V5.out
  have hv1 : w5.frozen? ⟨w4.heap.size, 0, none⟩ = false := by simp [World.frozen?, V5.out]
  have HAS := Lib.hid (as_spot_v b (.pointer none) w4.heap.size w5 H5.out hv0 hv1)
  clear hv0 hv1
  with_reducible refine HAS.out.mono ?_
  rintro e w6 ⟨rfl, hb, hc⟩
  have B6 := Lib.hid (HAA.out.trans hb)
  have N6 := Lib.hid (blk N4.out B6.out)
  have K6 := kept_hid K4 B6.out
  have M6 := Lib.hid (M4.out.below B6.out)
  have HVL := Lib.hid (there_lt N4.out)
  clear hb HAA U5 U4 V5 K5 N4 K4 M4 H5 HAS
  generalize w4.heap.size = V at *
  obtain ⟨d0, d1, d2⟩ := cells3 N6.out
  obtain ⟨f0, f1, f2⟩ := free3 N6.out
  have D1 := Lib.hid d1
  have hne : w.heap.size ≠ V := Nat.ne_of_lt HVL.out
  go_wp2_with fail
  go_region
  go_wp2_with fail
  clear d0 d1 d2 f0 f1 f2
  have SF := Lib.hid (set3c w6 w.heap.size 46 _ _ _ (.int .u8 0) (.int .i64 0) (.slice none 0 0) N6.out K6.out (Nat.le_refl _))
  generalize ((w6.setCell ⟨w.heap.size, 0, none⟩ (.int .u8 0)).setCell ⟨w.heap.size, 1, none⟩ (.int .i64 0)).setCell ⟨w.heap.size, 2, none⟩ (.slice none 0 0) = wz at *
  have HD : Below wz.heap.size wz wz.drew := (Below.refl _ _).drew
  refine bodyPost_ret (v := .tuple #[.agg #[.int .u8 0, .int .i64 0, .slice none 0 0], (.iface 84 (.pointer (some ⟨b, 0, none⟩)))]) (results_cell_row_tmp rfl _ _ _ w.heap.size _ rfl (run_loadVar_row _ w.heap.size 46 46 _ (0, 0) _ (blk SF.out.1 HD) Tryz.underlying46 rfl (by kernel_rfl)) (.iface 84 (.pointer (some ⟨b, 0, none⟩))) rfl) rfl ?_
  exact ⟨_, rfl, (Told.other M6.out SF.out.2.1 (fun t x h => by rw [D1.out] at h; cases h)).below HD, kept_trans SF.out.2.2 HD⟩
theorem iread_right {xs : List Nat} {z : Nat} (h : (iread xs z).2.1 = 0) : (iread xs z).2.2 = -1 := by
  unfold iread at h ⊢
  by_cases hl : 8192 < xs.length
  · rw [if_pos hl] at h; cases h
  rw [if_neg hl] at h ⊢
  cases xs with
  | nil => cases h
  | cons c r =>
    simp only at h ⊢
    by_cases ha : aid c = false
    · rw [if_pos ha] at h; cases h
    rw [if_neg ha] at h ⊢
    by_cases hb : bare c = true
    · rw [if_pos hb] at h ⊢
      by_cases hr : r ≠ []
      · rw [if_pos hr] at h; cases h
      · rw [if_neg hr]
    rw [if_neg hb] at h ⊢
    by_cases hs : (Adr.aspec r z).2.1 ≠ 0
    · rw [if_pos hs] at h; exact absurd h hs
    rw [if_neg hs] at h ⊢
    by_cases h3 : lets (r.drop 2) ≠ []
    · rw [if_pos h3] at h ⊢
      by_cases h5 : rest (r.drop 2) ≠ []
      · rw [if_pos h5] at h; cases h
      · rw [if_neg h5]
    · rw [if_neg h3] at h ⊢
      by_cases h4 : (flds z r.length 3 (r.drop 2)).2.1 ≠ 0
      · rw [if_pos h4] at h; exact absurd h h4
      · rw [if_neg h4]
/-- An error, as Read answers it. -/
def errR (k b : Nat) : Value := if k = 0 then .nilIface else .iface 84 (.pointer (some ⟨b, 0, none⟩))
/-- Read of whatever bytes. -/
theorem read_any {xs : List Nat} (ad : Option Addr) (len cap z : Nat) (w : World) (hH : Handle w) (hB : BytesIn w (.slice ad len cap) xs) (h8 : ∀ x ∈ xs, x < 256) (hn : ad = none → len = 0 ∧ cap = 0) (hx : xs.length < 1000000) (R : I × Nat × Int) (hR : R = iread xs z) :
    Calls Tryz.prog 21 #[.slice ad len cap, .int .i64 (z : Int)] w fun e w' => ∃ oa k oc b, e = .returned (.tuple #[.agg #[.int .u8 (R.1.aid : Int), .int .i64 R.1.cur, .slice oa k oc], errR R.2.1 b]) ∧ FldsIn w' w.heap.size (.slice oa k oc) R.1.fs ∧ Err.Told w' (errR R.2.1 b) (R.2.1 : Int) R.2.2 ∧ Below w.heap.size w w' := by
  have hlen : len = xs.length := by
    obtain ⟨_, _, hv, _⟩ := hB
    injection hv
  subst hlen
  by_cases hl : 8192 < xs.length
  · have e : R = (noneI, 6, 8192) := by rw [hR]; unfold iread; rw [if_pos hl]
    subst e
    refine (read_long ad cap z w hl hx).mono ?_
    rintro e w' ⟨b, rfl, ht, hb⟩
    exact ⟨none, 0, 0, b, rfl, fldsIn_nil _ _, ht, hb⟩
  · by_cases hE : R.2.1 = 0
    · refine (read_ok ad cap z w hB h8 hn (by omega) R hR hE).mono ?_
      rintro e w' ⟨oa, k, oc, rfl, ho, hb⟩
      have hp : R.2.2 = -1 := by rw [hR] at hE ⊢; exact iread_right hE
      refine ⟨oa, k, oc, 0, ?_, ho, ?_, hb⟩
      · unfold errR; rw [if_pos hE]
      · unfold errR; rw [if_pos hE, hE, hp]; exact .inl ⟨rfl, rfl, rfl⟩
    · refine (read_bad ad cap z w hH hB h8 hn (by omega) R hR hE).mono ?_
      rintro e w' ⟨b, rfl, ht, hb⟩
      have hno : R.1 = noneI := by rw [hR] at hE ⊢; exact (iread_fail h8 hE).1
      refine ⟨none, 0, 0, b, ?_, ?_, ?_, hb⟩
      · unfold errR; rw [if_neg hE, hno]; rfl
      · rw [hno]; exact fldsIn_nil _ _
      · unfold errR; rw [if_neg hE]; exact ht
end Inp
end Go.Proofs.YtpdlpmbjhopnnaaGreatDoor
