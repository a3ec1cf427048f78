/- BytesActs returns true. -/
import Derived.Test.YtblkimpneeeiaaaDoorBytAwake
import Derived.Test.YtblkimpneeeiaaaDoorSame
import Derived.Test.YtblkimpneeeiaaaDoorAttrRchar
import Derived.Deep.CutBlock
namespace Go.Proofs.YtblkimpneeeiaaaDoor
open Go.RowKit Sha Cut Err Six Apd Att
namespace Byt
/-- A slice of what is to be done: pairs of numbers. -/
def ActsIn (w : World) (v : Value) (l : List (Int × Int)) : Prop :=
  ∃ ad cap, v = .slice ad l.length cap ∧ (l = [] ∨ ∃ g o, ad = some ⟨g, o, none⟩ ∧ ∀ j, j < l.length → w.cell? ⟨g, o + j * 2, none⟩ = some (.int .i64 (l.getD j (0, 0)).1) ∧ w.cell? ⟨g, o + j * 2 + 1, none⟩ = some (.int .i64 (l.getD j (0, 0)).2))
/-- How the cursor stands, and what has been told of it so far. -/
structure St (w0 w : World) (C g : Nat) (xs : List Nat) (at_ : Nat) (ev : Value) (code wh : Int) : Prop where
  cur : Cur w C g xs at_ ev
  old : Below w0.heap.size w0 w
  how : (ev = .nilIface ∧ code = 0 ∧ wh = -1) ∨ (code ≠ 0 ∧ ∃ b, ev = .iface 55 (.pointer (some ⟨b, 0, none⟩)) ∧ Err.Told w ev code wh)
theorem St.below {w0 w w1 : World} {C g at_ : Nat} {xs : List Nat} {ev : Value} {c n : Int} (h : St w0 w C g xs at_ ev c n) (hb : Below w.heap.size w w1) : St w0 w1 C g xs at_ ev c n := by
  refine ⟨h.cur.below hb, h.old.trans (hb.mono h.old.size), ?_⟩
  rcases h.how with h | ⟨h1, b, h2, h3⟩
  · exact .inl h
  · exact .inr ⟨h1, b, h2, h3.below hb⟩
theorem St.told {w0 w : World} {C g at_ : Nat} {xs : List Nat} {ev : Value} {c n : Int} (h : St w0 w C g xs at_ ev c n) : Err.Told w ev c n := by
  rcases h.how with ⟨rfl, rfl, rfl⟩ | ⟨_, _, _, h⟩
  · exact .inl ⟨rfl, rfl, rfl⟩
  · exact h
theorem st_ok {w0 w w1 : World} {C g a0 at_ : Nat} {xs : List Nat} {ev : Value} {c n : Int} (h : St w0 w C g xs a0 ev c n) (hu : Cur w1 C g xs at_ .nilIface) (hg : w.grownBy w1 (some C)) (hC : w0.heap.size ≤ C) : St w0 w1 C g xs at_ .nilIface 0 (-1) :=
  ⟨hu, below_set h.old hg hC, .inl ⟨rfl, rfl, rfl⟩⟩
theorem st_met {w0 w w1 : World} {C g a0 at_ : Nat} {xs : List Nat} {ev e1 : Value} {c n : Int} {k : Int} (h : St w0 w C g xs a0 ev c n) (hu : Cur w1 C g xs at_ e1) (hm : Met w1 e1 k at_) (hg : w.grownBy w1 (some C)) (hC : w0.heap.size ≤ C) (hk : k ≠ 0) : St w0 w1 C g xs at_ e1 k at_ := by
  obtain ⟨b, h1, h2⟩ := hm
  exact ⟨hu, below_set h.old hg hC, .inr ⟨hk, b, h1, h2⟩⟩
theorem take_one {xs : List Nat} {k : Nat} (h : k < xs.length) : (xs.drop k).take 1 = [xs.getD k 0] := by
  rw [List.drop_eq_getElem_cons h, List.getD_eq_getElem?_getD, List.getElem?_eq_getElem h]; rfl
theorem kp_al (w : World) (o : Obj) : Below w.heap.size w (w.alloc o) := (Below.refl _ _).alloc (Nat.le_refl _) o
theorem aspec_zero {ys : List Nat} {n : Int} (h : (Adr.aspec ys n).2.1 ≠ 0) : (Adr.aspec ys n).1 = 0 := by
  unfold Adr.aspec at h ⊢
  by_cases h1 : n < 1 ∨ 16383 < n
  · rw [if_pos h1]
  rw [if_neg h1] at h ⊢
  by_cases h2 : ys.length < 2
  · rw [if_pos h2]
  rw [if_neg h2] at h ⊢
  by_cases h3 : n ≤ 4096
  · rw [if_pos h3] at h ⊢
    by_cases h4 : isGraphic (ys.getD 0 0) = false
    · rw [if_pos h4]
    rw [if_neg h4] at h ⊢
    by_cases h5 : isGraphic (ys.getD 1 0) = false
    · rw [if_pos h5]
    rw [if_neg h5] at h ⊢
    by_cases h6 : n ≤ ((64 * (ys.getD 0 0 % 64) + ys.getD 1 0 % 64 : Nat) : Int)
    · rw [if_pos h6]
    rw [if_neg h6] at h
    exact absurd rfl h
  · rw [if_neg h3] at h ⊢
    by_cases h4 : 64 ≤ ys.getD 0 0
    · rw [if_pos h4]
    rw [if_neg h4] at h ⊢
    by_cases h6 : n ≤ ((256 * ys.getD 0 0 + ys.getD 1 0 : Nat) : Int)
    · rw [if_pos h6]
    rw [if_neg h6] at h
    exact absurd rfl h
set_option maxRecDepth 100000 in
set_option maxHeartbeats 40000000 in
theorem acts_main (a0 : Option Addr) (len0 cap0 : Nat) (m : Int) (a2 : Option Addr) (len2 cap2 : Nat) (w : World) (h0 : len0 ≤ 300) (h2 : len2 ≤ 60) (xs : List Nat) (l : List (Int × Int)) (hx : xs.length = len0) (hl : l.length = len2)
    (hx8 : ∀ x ∈ xs, x < 256) (hbx : BytesIn w (.slice a0 len0 cap0) xs) (hbl : ActsIn w (.slice a2 len2 cap2) l) (hn0 : a0 = none → len0 = 0 ∧ cap0 = 0) (hg0 : Handle w) :
    Calls Tryd.prog 3 #[.slice a0 len0 cap0, .int .i64 m, .slice a2 len2 cap2] w fun e w' => e = .returned (.bool true) ∧ Below w.heap.size w w' := by
  have hg : decide ((300 : Int) < (len0 : Int)) = false := by simp; omega
  have hg' : decide ((60 : Int) < (len2 : Int)) = false := by simp; omega
  have HX := Lib.hid (show xs.length ≤ 300 by omega)
  have HX9 := Lib.hid (show xs.length < 1000000000 by omega)
  have HL6 := Lib.hid (show l.length ≤ 60 by omega)
  have HX8 := Lib.hid hx8
  have HBX := Lib.hid hbx
  have HBL := Lib.hid hbl
  have HN0 := Lib.hid hn0
  have HHG := Lib.hid hg0
  subst hx hl
  clear hx8 hbx hbl hn0 h0 h2
  go_enter Tryd.func3, Tryd.ntmps3
  go_wp2_with fail
  refine (awake_any _ hg0).mono ?_
  rintro e w1 ⟨rfl, hb1⟩
  have H1 := Lib.hid hb1
  clear hb1 hg0
  go_wp2_with fail
  refine (new_any _ _ _ _ _ (bytes_below HBX.out H1.out) HN0.out HX9.out).mono ?_
  rintro e w2 ⟨C, g, rfl, hc, hC, _, hb⟩
  have HC := Lib.hid (Nat.le_trans H1.out.size hC)
  have S2 := Lib.hid (show St w w2 C g xs 0 .nilIface 0 (-1) from ⟨hc, kept_hid H1 hb, .inl ⟨rfl, rfl, rfl⟩⟩)
  clear hc hC hb H1 HN0
  go_wp2_with fail
  go_loopg [8, 9, 10, 11] (l.length + 1) (fun n va vc vw vi wr => ∃ (k at_ : Nat) (code wh : Int) (ev : Value), k ≤ l.length ∧ n = l.length + 1 - k ∧ vi = .int .i64 k ∧ va = .int .i64 at_ ∧ vc = .int .i64 code ∧ vw = .int .i64 wh ∧ Hid (St w wr C g xs at_ ev code wh))
  case atStart => exact ⟨0, 0, 0, -1, .nilIface, Nat.zero_le _, rfl, rfl, rfl, rfl, rfl, S2⟩
  case round =>
    obtain ⟨k, at_, code, wh, ev, hk, rfl, rfl, rfl, rfl, rfl, S⟩ := hrel
    clear S2
    by_cases hlt : k < l.length
    · obtain ⟨g2, o2, rfl, HDD, c0, c1⟩ : ∃ g2 o2, a2 = some ⟨g2, o2, none⟩ ∧ Hid (w.cell? ⟨g2, o2 + k * 2, none⟩ = some (.int .i64 (l.getD k (0, 0)).1) ∧ w.cell? ⟨g2, o2 + k * 2 + 1, none⟩ = some (.int .i64 (l.getD k (0, 0)).2)) ∧ wr.cell? ⟨g2, o2 + k * 2, none⟩ = some (.int .i64 (l.getD k (0, 0)).1) ∧ wr.cell? ⟨g2, o2 + k * 2 + 1, none⟩ = some (.int .i64 (l.getD k (0, 0)).2) := by
        obtain ⟨_, _, hv, hc⟩ := HBL.out
        injection hv with hv1 _ _
        rcases hc with h0 | ⟨g1, o, hg, hc⟩
        · rw [h0] at hlt; simp at hlt
        · obtain ⟨d0, d1⟩ := hc k hlt
          exact ⟨g1, o, hv1.trans hg, ⟨d0, d1⟩, (S.out.old.cell (p := ⟨g1, o + k * 2, none⟩) (block_lt d0)).trans d0, (S.out.old.cell (p := ⟨g1, o + k * 2 + 1, none⟩) (block_lt d1)).trans d1⟩
      generalize (l.getD k (0, 0)).1 = d at c0 HDD
      generalize (l.getD k (0, 0)).2 = n at c1 HDD
      have HC0 := Lib.hid c0
      have HC1 := Lib.hid c1
      have hi0 : (0 : Int) ≤ (k : Int) := by omega
      have hi1 : (k : Int) < (l.length : Int) := by omega
      have ek : IntKind.i64.wrap ((k : Int) + 1) = (k : Int) + 1 := by
        have := HL6.out
        rw [IntWalk.i64_in] <;> omega
      have HD0 := Lib.hid HDD.out.1
      have HD1 := Lib.hid HDD.out.2
      have HCAP := Lib.hid (show xs.length ≤ cap0 from by obtain ⟨_, _, hv, hh, _⟩ := HBX.out; injection hv with _ _ e3; omega)
      clear HDD
      go_upto_block 2 with fail
      go_cut [8, 9, 10] from 40 to 262 (fun va vc vw wx => ∃ (at_ : Nat) (code wh : Int) (ev : Value), va = .int .i64 at_ ∧ vc = .int .i64 code ∧ vw = .int .i64 wh ∧ Hid (St w wx C g xs at_ ev code wh))
      case rest =>
        as_aux_lemma =>
          obtain ⟨at1, code1, wh1, ev1, rfl, rfl, rfl, S1⟩ := hcut
          clear c0 c1 S
          have hle := S1.out.cur.le
          have hxl := HX.out
          have el : ((xs.length - at1 : Nat) : Int) = (xs.length : Int) - (at1 : Int) := by omega
          go_wp2_with fail
          refine (at_any _ S1.out.cur).mono ?_
          rintro e w' ⟨rfl, rfl⟩
          go_wp2_with fail
          have HLB := left_b _ S1.out.cur HX9.out
          rw [el] at HLB
          refine HLB.mono ?_
          rintro e w3 ⟨rfl, hb⟩
          have S3 := Lib.hid (S1.out.below hb)
          clear hb S1 HLB el
          go_wp2_with fail
          refine (err_any _ S3.out.cur).mono ?_
          rintro e w' ⟨rfl, rfl⟩
          go_wp2_with fail
          refine (code_told _ _ _ _ (hand_of HHG.out S3.out.old) S3.out.told).mono ?_
          rintro e w4 ⟨rfl, hb⟩
          have S4 := Lib.hid (S3.out.below hb)
          clear hb S3
          go_wp2_with fail
          refine (err_any _ S4.out.cur).mono ?_
          rintro e w' ⟨rfl, rfl⟩
          go_wp2_with fail
          refine (where_told _ _ _ _ (hand_of HHG.out S4.out.old) S4.out.told).mono ?_
          rintro e w5 ⟨rfl, hb⟩
          have S5 := Lib.hid (S4.out.below hb)
          clear hb S4
          go_wp2_with fail
          go_roundg (l.length + 1 - (k + 1))
          case measure => omega
          case rel => exact ⟨k + 1, at1, code1, wh1, ev1, by omega, rfl, by go_num, rfl, rfl, rfl, S5⟩
      case first =>
        have hle := S.out.cur.le
        have hxl := HX.out
        clear HC0 HC1
        by_cases hd0 : d = 0
        · subst hd0
          as_aux_lemma =>
            rcases S.out.how with ⟨rfl, rfl, rfl⟩ | ⟨hc0, b, rfl, ht⟩
            · by_cases hat : at_ < xs.length
              · have HBY := Lib.hid (byte_ok _ S.out.cur hat HX9.out)
                have HT1 := Lib.hid (take_one hat)
                have hx256 := byte_lt HX8.out (by decide) at_
                have hS : ∀ w, (Instr.slice 22 (.slice a0 xs.length cap0) (some (.int .i64 (at_ : Int))) (some (.int .i64 ((at_ : Int) + 1))) none).run Tryd.prog w = .ok (.slice (cutA a0 at_ cap0) 1 (cap0 - at_)) w := fun w => run_lh a0 xs.length cap0 at_ 1 (by have := HCAP.out; omega) w
                have HCT := Lib.hid (bytes_lh (n := 1) HBX.out (show at_ + 1 ≤ xs.length from hat))
                rw [HT1.out] at HCT
                generalize xs.getD at_ 0 = x at HBY HCT hx256
                clear HT1
                go_wp2_with fail
                refine HBY.out.mono ?_
                rintro e w3 ⟨rfl, hu, hgr⟩
                have S3 := Lib.hid (st_ok S.out hu hgr HC.out)
                have hal := kp_al w3 (.cells (u8s [x]).toArray 5)
                have S4 := Lib.hid (S3.out.below hal)
                have HLT := Lib.hid (lit_bytes w3 [x])
                clear hu hgr S HBY hal
                go_wp2_with fail
                refine (Sam.same_b _ _ [x] _ HLT.out (bytes_below HCT.out S4.out.old) (by simpa using hx256) (by simp)).mono ?_
                rintro e w5 ⟨rfl, hb⟩
                have S5 := Lib.hid (S4.out.below hb)
                clear hb S4 S3 HLT HCT hS
                go_wp2_with fail
                go_meet
                exact ⟨at_ + 1, 0, -1, .nilIface, rfl, rfl, rfl, S5⟩
              · go_wp2_with fail
                refine (byte_none _ S.out.cur (by omega)).mono ?_
                rintro e w3 ⟨rfl, ev, hu, hm, hgr⟩
                have S3 := Lib.hid (st_met S.out hu hm hgr HC.out (by decide))
                have S4 := Lib.hid (S3.out.below (kp_al w3 (.cells (u8s [0]).toArray 5)))
                have hge : (xs.length : Int) - (at_ : Int) < 1 := by omega
                have q0 := (S3.out.old.cell (p := ⟨g2, o2 + k * 2, none⟩) (block_lt HD0.out)).trans HD0.out
                have q1 := (S3.out.old.cell (p := ⟨g2, o2 + k * 2 + 1, none⟩) (block_lt HD1.out)).trans HD1.out
                have qs := block_lt q0
                clear hu hm hgr S c0 c1
                go_wp2_with fail
                go_meet
                exact ⟨at_, 2, at_, ev, rfl, rfl, rfl, S4⟩
            · have ec : (code == 0) = false := by simpa using hc0
              have ec1 : (code != 0) = true := by simpa using hc0
              clear ht hc0
              go_wp2_with fail
              refine (byte_met _ S.out.cur).mono ?_
              rintro e w3 ⟨rfl, rfl⟩
              have S4 := Lib.hid (S.out.below (kp_al wr (.cells (u8s [0]).toArray 5)))
              have qs := block_lt c0
              go_wp2_with fail
              go_meet
              exact ⟨at_, code, wh, _, rfl, rfl, rfl, S4⟩
        have e0 : (d == 0) = false := by simpa using hd0
        by_cases hd1 : d = 1
        · subst hd1
          as_aux_lemma =>
            rcases S.out.how with ⟨rfl, rfl, rfl⟩ | ⟨hc0, b, rfl, ht⟩
            · by_cases hn : n < 0
              · go_wp2_with fail
                refine (take_bad n _ S.out.cur (.inl hn)).mono ?_
                rintro e w3 ⟨rfl, ev, hu, hm, hgr⟩
                have S3 := Lib.hid (st_met S.out hu hm hgr HC.out (by decide))
                have q0 := (S3.out.old.cell (p := ⟨g2, o2 + k * 2, none⟩) (block_lt HD0.out)).trans HD0.out
                have q1 := (S3.out.old.cell (p := ⟨g2, o2 + k * 2 + 1, none⟩) (block_lt HD1.out)).trans HD1.out
                have qs := block_lt q0
                clear hu hm hgr S c0 c1
                go_wp2_with fail
                go_meet
                exact ⟨at_, 2, at_, ev, rfl, rfl, rfl, S3⟩
              · obtain ⟨N, rfl⟩ := Int.eq_ofNat_of_zero_le (a := n) (by omega)
                clear hn
                by_cases hN : xs.length - at_ < N
                · go_wp2_with fail
                  refine (take_bad N _ S.out.cur (.inr (by omega))).mono ?_
                  rintro e w3 ⟨rfl, ev, hu, hm, hgr⟩
                  have S3 := Lib.hid (st_met S.out hu hm hgr HC.out (by decide))
                  have q0 := (S3.out.old.cell (p := ⟨g2, o2 + k * 2, none⟩) (block_lt HD0.out)).trans HD0.out
                  have q1 := (S3.out.old.cell (p := ⟨g2, o2 + k * 2 + 1, none⟩) (block_lt HD1.out)).trans HD1.out
                  have qs := block_lt q0
                  clear hu hm hgr S c0 c1
                  have hN2 : ((xs.length : Int) - (at_ : Int) < (N : Int)) := by omega
                  go_wp2_with fail
                  go_meet
                  exact ⟨at_, 2, at_, ev, rfl, rfl, rfl, S3⟩
                · have hN2 : at_ + N ≤ xs.length := by omega
                  have hS : ∀ w, (Instr.slice 22 (.slice a0 xs.length cap0) (some (.int .i64 (at_ : Int))) (some (.int .i64 ((at_ : Int) + (N : Int)))) none).run Tryd.prog w = .ok (.slice (cutA a0 at_ cap0) N (cap0 - at_)) w := fun w => run_lh a0 xs.length cap0 at_ N (by have := HCAP.out; omega) w
                  have HCT := Lib.hid (bytes_lh HBX.out hN2)
                  have HLN := Lib.hid (show ((xs.drop at_).take N).length < 1000000 by have := HX.out; rw [List.length_take, List.length_drop]; omega)
                  have HT8 := Lib.hid (show ∀ x ∈ (xs.drop at_).take N, x < 256 from fun x hx => HX8.out x (List.mem_of_mem_drop (List.mem_of_mem_take hx)))
                  have HTK := Lib.hid (take_ok N _ S.out.cur hN2 HX9.out)
                  generalize (xs.drop at_).take N = ys at HCT HLN HT8 HTK
                  clear hN
                  go_wp2_with fail
                  refine HTK.out.mono ?_
                  rintro e w3 ⟨v, rfl, ho, hu, hgr⟩
                  have S3 := Lib.hid (st_ok S.out hu hgr HC.out)
                  have HO := Lib.hid (own_bytes ho)
                  obtain ⟨va, vc, rfl⟩ := own_form ho
                  clear ho hu hgr S HTK c0 c1
                  go_wp2_with fail
                  refine (Sam.same_b _ _ ys _ HO.out (bytes_below HCT.out S3.out.old) HT8.out HLN.out).mono ?_
                  rintro e w5 ⟨rfl, hb⟩
                  have S5 := Lib.hid (S3.out.below hb)
                  clear hb S3 HO HCT hS
                  go_wp2_with fail
                  go_meet
                  exact ⟨at_ + N, 0, -1, .nilIface, rfl, rfl, rfl, S5⟩
            · have ec : (code == 0) = false := by simpa using hc0
              have ec1 : (code != 0) = true := by simpa using hc0
              clear ht hc0
              go_wp2_with fail
              refine (take_met n _ S.out.cur).mono ?_
              rintro e w3 ⟨rfl, rfl⟩
              go_wp2_with fail
              go_meet
              exact ⟨at_, code, wh, _, rfl, rfl, rfl, S⟩
        have e1 : (d == 1) = false := by simpa using hd1
        by_cases hd2 : d = 2
        · subst hd2
          as_aux_lemma =>
            rcases S.out.how with ⟨rfl, rfl, rfl⟩ | ⟨hc0, b, rfl, ht⟩
            · have hS : ∀ w, (Instr.slice 22 (.slice a0 xs.length cap0) (some (.int .i64 (at_ : Int))) none none).run Tryd.prog w = .ok (.slice (cutA a0 at_ cap0) (xs.length - at_) (cap0 - at_)) w := fun w => run_l a0 xs.length cap0 at_ hle w
              have HCT := Lib.hid (bytes_l HBX.out hle)
              have HR := Lib.hid (fun W hB => Adr.rget_all (cutA a0 at_ cap0) (xs.length - at_) (cap0 - at_) (xs.drop at_) m W hB (fun y hy => HX8.out y (List.mem_of_mem_drop hy)))
              by_cases hw : (Adr.aspec (xs.drop at_) m).2.1 = 0
              · have HA := Lib.hid (addr_ok m _ S.out.cur HX8.out HX9.out hw)
                rw [hw] at HR
                clear hw
                generalize ((Adr.aspec (xs.drop at_) m).1 : Int) = a at HA HR
                generalize (Adr.aspec (xs.drop at_) m).2.2 = wx at HR
                go_wp2_with fail
                refine HA.out.mono ?_
                rintro e w3 ⟨rfl, hu, hgr⟩
                have S3 := Lib.hid (st_ok S.out hu hgr HC.out)
                have h2 := S3.out.cur.le
                clear hu hgr S HA c0 c1
                go_wp2_with fail
                refine (HR.out _ (bytes_below HCT.out S3.out.old)).mono ?_
                rintro e w4 ⟨rfl, hb⟩
                have S4 := Lib.hid (S3.out.below hb)
                clear hb S3 HR HCT hS
                go_wp2_with fail
                go_meet
                exact ⟨at_ + 2, 0, -1, .nilIface, rfl, rfl, rfl, S4⟩
              · have HA := Lib.hid (addr_bad m _ S.out.cur HX8.out hw)
                have hz : (Adr.aspec (xs.drop at_) m).1 = 0 := aspec_zero hw
                rw [hz] at HR
                have HW := Lib.hid hw
                clear hw hz
                generalize (Adr.aspec (xs.drop at_) m).2.1 = why at HA HR HW
                generalize (Adr.aspec (xs.drop at_) m).2.2 = wx at HR
                have ew : (((why : Nat) : Int) != 0) = true := by have := HW.out; simp; omega
                go_wp2_with fail
                refine HA.out.mono ?_
                rintro e w3 ⟨rfl, ev, hu, hm, hgr⟩
                have S3 := Lib.hid (st_met S.out hu hm hgr HC.out (by have := HW.out; omega))
                clear hu hm hgr S HA c0 c1
                go_wp2_with fail
                refine (HR.out _ (bytes_below HCT.out S3.out.old)).mono ?_
                rintro e w4 ⟨rfl, hb⟩
                have S4 := Lib.hid (S3.out.below hb)
                clear hb S3 HR HCT hS
                go_wp2_with fail
                go_meet
                exact ⟨at_, why, at_, ev, rfl, rfl, rfl, S4⟩
            · have ec : (code == 0) = false := by simpa using hc0
              have ec1 : (code != 0) = true := by simpa using hc0
              clear ht hc0
              go_wp2_with fail
              refine (addr_met m _ S.out.cur).mono ?_
              rintro e w3 ⟨rfl, hb⟩
              have S3 := Lib.hid (S.out.below hb)
              clear hb S c0 c1
              go_wp2_with fail
              go_meet
              exact ⟨at_, code, wh, _, rfl, rfl, rfl, S3⟩
        have e2 : (d == 2) = false := by simpa using hd2
        by_cases hd3 : d = 3
        · subst hd3
          as_aux_lemma =>
            rcases S.out.how with ⟨rfl, rfl, rfl⟩ | ⟨hc0, b, rfl, ht⟩
            · have hS : ∀ r : Nat, r ≤ xs.length - at_ → ∀ w, (Instr.slice 22 (.slice a0 xs.length cap0) (some (.int .i64 (at_ : Int))) (some (.int .i64 ((at_ : Int) + (r : Int)))) none).run Tryd.prog w = .ok (.slice (cutA a0 at_ cap0) r (cap0 - at_)) w := fun r hr w => run_lh a0 xs.length cap0 at_ r (by have := HCAP.out; omega) w
              have HS := Lib.hid hS
              have HCH := Lib.hid (chars_ok _ S.out.cur HX8.out HX9.out)
              have HRL := Lib.hid (show crun (xs.drop at_) ≤ xs.length - at_ by have := crun_le (xs.drop at_); rwa [List.length_drop] at this)
              have HRA := Lib.hid (crun_at (xs.drop at_))
              have HDR := Lib.hid (show (xs.drop at_).length = xs.length - at_ from List.length_drop)
              have HZ8 := Lib.hid (show ∀ y ∈ xs.drop at_, y < 256 from fun y hy => HX8.out y (List.mem_of_mem_drop hy))
              have HGD := Lib.hid (fun (j : Nat) => (show xs.getD (at_ + j) 0 = (xs.drop at_).getD j 0 by simp [List.getD_eq_getElem?_getD]))
              have HCT := Lib.hid (bytes_lh (n := crun (xs.drop at_)) HBX.out (show at_ + crun (xs.drop at_) ≤ xs.length by have := HRL.out; omega))
              have HLN := Lib.hid (show ((xs.drop at_).take (crun (xs.drop at_))).length < 1000000 by have := HX.out; rw [List.length_take, List.length_drop]; omega)
              have HT8 := Lib.hid (show ∀ x ∈ (xs.drop at_).take (crun (xs.drop at_)), x < 256 from fun x hx => HX8.out x (List.mem_of_mem_drop (List.mem_of_mem_take hx)))
              clear hS
              generalize (xs.drop at_).take (crun (xs.drop at_)) = ys at HCH HCT HLN HT8
              generalize crun (xs.drop at_) = r at HCH HRL HRA HCT
              generalize xs.drop at_ = zs at HRA HDR HGD HZ8
              go_wp2_with fail
              refine HCH.out.mono ?_
              rintro e w3 ⟨v, rfl, ho, hu, hgr⟩
              have S3 := Lib.hid (st_ok S.out hu hgr HC.out)
              have HO := Lib.hid (own_bytes ho)
              obtain ⟨va, vc, rfl⟩ := own_form ho
              have hS := HS.out r HRL.out
              have HB3 := Lib.hid (bytes_below HBX.out S3.out.old)
              clear ho hu hgr S HCH c0 c1 HS
              obtain ⟨wo, hwo⟩ : ∃ wo : World, wo = w3 := ⟨_, rfl⟩
              subst hwo
              go_wp2_with fail
              go_loopg [20] (r + 1) (fun n v wx => ∃ j : Nat, j ≤ r ∧ n = r + 1 - j ∧ v = .int .i64 j ∧ wx = wo)
              case atStart => exact ⟨0, Nat.zero_le _, rfl, rfl, rfl⟩
              case round =>
                obtain ⟨j, hj, rfl, rfl, rfl⟩ := hrel
                have hrl := HRL.out
                by_cases hjr : j < r
                · obtain ⟨g1, o1, rfl, d0⟩ : ∃ g1 o1, a0 = some ⟨g1, o1, none⟩ ∧ wr.cell? ⟨g1, o1 + (at_ + j), none⟩ = some (.int .u8 ((xs.getD (at_ + j) 0 : Nat) : Int)) := by
                    obtain ⟨_, _, hv, _, hc⟩ := HB3.out
                    injection hv with hv1 _ _
                    rcases hc with h0 | ⟨g1, o, hg, hc⟩
                    · rw [h0] at hrl; simp at hrl; omega
                    · exact ⟨g1, o, hv1.trans hg, hc (at_ + j) (by omega)⟩
                  have hcj := HRA.out.1 j hjr
                  rw [HGD.out j] at d0
                  have hb := byte_lt HZ8.out (by decide) j
                  generalize zs.getD j 0 = b at d0 hcj hb
                  have HRC := rchar_any b wr hb
                  rw [hcj] at HRC
                  have HRC := Lib.hid HRC
                  have hj0 : (0 : Int) ≤ (at_ : Int) + (j : Int) := by omega
                  have hj1 : (at_ : Int) + (j : Int) < (xs.length : Int) := by omega
                  have ej : IntKind.i64.wrap ((j : Int) + 1) = (j : Int) + 1 := by rw [IntWalk.i64_in] <;> omega
                  have HJR := Lib.hid hjr
                  clear hcj hjr
                  go_wp2_with fail
                  refine HRC.out.mono ?_
                  rintro e w4 ⟨rfl, rfl⟩
                  clear HRC
                  go_wp2_with fail
                  go_roundg (r + 1 - (j + 1))
                  case measure => have := HJR.out; omega
                  case rel => exact ⟨j + 1, by have := HJR.out; omega, rfl, by go_num, rfl⟩
                · obtain rfl : j = r := by omega
                  clear hjr
                  by_cases hend : at_ + j < xs.length
                  · obtain ⟨g1, o1, rfl, d0⟩ : ∃ g1 o1, a0 = some ⟨g1, o1, none⟩ ∧ wr.cell? ⟨g1, o1 + (at_ + j), none⟩ = some (.int .u8 ((xs.getD (at_ + j) 0 : Nat) : Int)) := by
                      obtain ⟨_, _, hv, _, hc⟩ := HB3.out
                      injection hv with hv1 _ _
                      rcases hc with h0 | ⟨g1, o, hg, hc⟩
                      · rw [h0] at hend; simp at hend
                      · exact ⟨g1, o, hv1.trans hg, hc (at_ + j) hend⟩
                    have hcj := HRA.out.2 (by have := HDR.out; omega)
                    rw [HGD.out j] at d0
                    have hb := byte_lt HZ8.out (by decide) j
                    generalize zs.getD j 0 = b at d0 hcj hb
                    have HRC := rchar_any b wr hb
                    rw [hcj] at HRC
                    have HRC := Lib.hid HRC
                    have hj0 : (0 : Int) ≤ (at_ : Int) + (j : Int) := by omega
                    have hj1 : (at_ : Int) + (j : Int) < (xs.length : Int) := by omega
                    clear hcj
                    go_wp2_with fail
                    refine HRC.out.mono ?_
                    rintro e w4 ⟨rfl, rfl⟩
                    clear HRC
                    go_wp2_with fail
                    refine (Sam.same_b _ _ ys _ HO.out (bytes_below HCT.out S3.out.old) HT8.out HLN.out).mono ?_
                    rintro e w5 ⟨rfl, hb⟩
                    have S5 := Lib.hid (S3.out.below hb)
                    clear hb S3 HO HCT hS
                    go_wp2_with fail
                    go_meet
                    exact ⟨at_ + j, 0, -1, .nilIface, rfl, rfl, rfl, S5⟩
                  · have hj2 : (xs.length : Int) ≤ (at_ : Int) + (j : Int) := by omega
                    clear hend
                    go_wp2_with fail
                    refine (Sam.same_b _ _ ys _ HO.out (bytes_below HCT.out S3.out.old) HT8.out HLN.out).mono ?_
                    rintro e w5 ⟨rfl, hb⟩
                    have S5 := Lib.hid (S3.out.below hb)
                    clear hb S3 HO HCT hS
                    go_wp2_with fail
                    go_meet
                    exact ⟨at_ + j, 0, -1, .nilIface, rfl, rfl, rfl, S5⟩
            · have ec : (code == 0) = false := by simpa using hc0
              have ec1 : (code != 0) = true := by simpa using hc0
              have hS : ∀ w, (Instr.slice 22 (.slice a0 xs.length cap0) (some (.int .i64 (at_ : Int))) (some (.int .i64 (at_ : Int))) none).run Tryd.prog w = .ok (.slice (cutA a0 at_ cap0) 0 (cap0 - at_)) w := fun w => by
                have := run_lh a0 xs.length cap0 at_ 0 (by have := HCAP.out; omega) w
                simpa using this
              have HCT := Lib.hid (bytes_lh (n := 0) HBX.out (by omega))
              clear ht hc0
              go_wp2_with fail
              refine (chars_met _ S.out.cur).mono ?_
              rintro e w3 ⟨rfl, rfl⟩
              go_wp2_with fail
              refine wp_loop_rounds 1 ?_
              rw [rounds_succ]
              go_wp2_with fail
              refine (Sam.same_b _ _ [] _ ⟨none, 0, rfl, Nat.le_refl _, .inl rfl⟩ (bytes_below (by simpa using HCT.out) S.out.old) (by simp) (by simp)).mono ?_
              rintro e w5 ⟨rfl, hb⟩
              have S5 := Lib.hid (S.out.below hb)
              clear hb S HCT hS
              go_wp2_with fail
              go_meet
              exact ⟨at_, code, wh, _, rfl, rfl, rfl, S5⟩
        have e3 : (d == 3) = false := by simpa using hd3
        by_cases hd4 : d = 4
        · subst hd4
          as_aux_lemma =>
            rcases S.out.how with ⟨rfl, rfl, rfl⟩ | ⟨hc0, b, rfl, ht⟩
            · go_wp2_with fail
              refine (fail_new (d := 0) (.iface 38 (.int .i64 5)) 5 _ S.out.cur rfl).mono ?_
              rintro e w3 ⟨rfl, ev, hu, hm, hgr⟩
              have S3 := Lib.hid (st_met S.out hu hm hgr HC.out (by decide))
              clear hu hm hgr S c0 c1
              go_wp2_with fail
              go_meet
              exact ⟨at_, 5, at_, ev, rfl, rfl, rfl, S3⟩
            · have ec : (code == 0) = false := by simpa using hc0
              have ec1 : (code != 0) = true := by simpa using hc0
              clear ht hc0
              go_wp2_with fail
              refine (fail_met _ _ S.out.cur).mono ?_
              rintro e w3 ⟨rfl, rfl⟩
              go_wp2_with fail
              go_meet
              exact ⟨at_, code, wh, _, rfl, rfl, rfl, S⟩
        have e4 : (d == 4) = false := by simpa using hd4
        as_aux_lemma =>
          rcases S.out.how with ⟨rfl, rfl, rfl⟩ | ⟨hc0, b, rfl, ht⟩
          · by_cases hat : at_ < xs.length
            · obtain ⟨g1, o1, rfl, d0⟩ : ∃ g1 o1, a0 = some ⟨g1, o1, none⟩ ∧ wr.cell? ⟨g1, o1 + at_, none⟩ = some (.int .u8 ((xs.getD at_ 0 : Nat) : Int)) := by
                obtain ⟨_, _, hv, _, hc⟩ := bytes_below HBX.out S.out.old
                injection hv with hv1 _ _
                rcases hc with h0 | ⟨g1, o, hg, hc⟩
                · rw [h0] at hat; simp at hat
                · exact ⟨g1, o, hv1.trans hg, hc at_ hat⟩
              have HP := Lib.hid (peek_ok _ S.out.cur hat)
              generalize xs.getD at_ 0 = x at HP d0
              have hj0 : (0 : Int) ≤ (at_ : Int) := by omega
              have hj1 : (at_ : Int) < (xs.length : Int) := by omega
              go_wp2_with fail
              refine HP.out.mono ?_
              rintro e w3 ⟨rfl, m1, rfl⟩
              have S3 := Lib.hid (S.out.below (drewN_below _ m1 _))
              clear S HP c0 c1
              go_wp2_with fail
              go_meet
              exact ⟨at_, 0, -1, .nilIface, rfl, rfl, rfl, S3⟩
            · go_wp2_with fail
              refine (peek_none _ S.out.cur (by omega)).mono ?_
              rintro e w3 ⟨rfl, m1, rfl⟩
              have S3 := Lib.hid (S.out.below (drewN_below _ m1 _))
              clear S c0 c1
              go_wp2_with fail
              go_meet
              exact ⟨at_, 0, -1, .nilIface, rfl, rfl, rfl, S3⟩
          · have ec : (code == 0) = false := by simpa using hc0
            have ec1 : (code != 0) = true := by simpa using hc0
            clear ht hc0
            go_wp2_with fail
            refine (peek_met _ S.out.cur).mono ?_
            rintro e w3 ⟨rfl, rfl⟩
            go_wp2_with fail
            go_meet
            exact ⟨at_, code, wh, _, rfl, rfl, rfl, S⟩
    · have hge : l.length ≤ k := by omega
      clear hlt
      go_wp2_with fail
      go_ret
      exact ⟨rfl, S.out.old⟩
end Byt
end Go.Proofs.YtblkimpneeeiaaaDoor
