/- 'awake' of the statements about package bytes answers true. -/
import Derived.Test.YtblkimpneeeiaaaDoorBytByte
import Derived.Test.YtblkimpneeeiaaaDoorBytChars
import Derived.Test.YtblkimpneeeiaaaDoorKept
namespace Go.Proofs.YtblkimpneeeiaaaDoor
open Go.RowKit Sha Cut Err Six Apd Att
namespace Byt
theorem below_set {w a b : World} {C : Nat} (h : Below w.heap.size w a) (hg : a.grownBy b (some C)) (hC : w.heap.size ≤ C) : Below w.heap.size w b :=
  h.grown hg h.size (by intro k hk; injection hk with hk; omega)
theorem lit_bytes (w : World) (l : List Nat) : BytesIn (w.alloc (.cells (u8s l).toArray 5)) (.slice (some ⟨w.heap.size, 0, none⟩) l.length l.length) l := by
  refine ⟨_, _, rfl, Nat.le_refl _, .inr ⟨w.heap.size, 0, rfl, fun j hj => ?_⟩⟩
  rw [cell_of_row _ _ (0 + j) _ _ _ (heap_alloc_new w _), Nat.zero_add]
  exact u8s_at hj
theorem own_cell {w : World} {base n i : Nat} {v : Value} {m : List Nat} (h : w.ownsRow base 5 1 v n (u8s m)) (hi : i < n) : ∃ g c, v = .slice (some ⟨g, 0, none⟩) n c ∧ w.cell? ⟨g, i, none⟩ = some (.int .u8 ((m.getD i 0 : Nat) : Int)) := by
  have hl := own_len h
  obtain ⟨ad, c, rfl, hnn, hs⟩ := own_spot h
  obtain ⟨ad', c', hv, hlc, hr⟩ := own_bytes h
  injection hv with e1 e2 e3
  subst e1 e3
  rcases hr with h0 | ⟨g, off, rfl, hc⟩
  · rw [h0] at hl; simp at hl; omega
  · obtain ⟨h1, _⟩ := hs _ rfl
    injection h1 with _ e2
    subst e2
    have := hc i (by omega)
    rw [Nat.zero_add] at this
    exact ⟨g, c, rfl, this⟩
set_option maxRecDepth 100000 in
set_option maxHeartbeats 4000000 in
theorem awake_any (w : World) (hg : Handle w) :
    Calls Tryd.prog 7 #[] w fun e w' => e = .returned (.bool true) ∧ Below w.heap.size w w' := by
  have HG := Lib.hid hg
  have HN := Lib.hid (new_any _ _ _ _ _ (lit_bytes w [64, 193, 17]) nofun (by decide))
  have HA := Lib.hid (show Below w.heap.size w (w.alloc (.cells (u8s [64, 193, 17]).toArray 5)) from (Below.refl _ _).alloc (Nat.le_refl _) _)
  clear hg
  go_enter Tryd.func7, Tryd.ntmps7
  go_wp2_with fail
  refine HN.out.mono ?_
  rintro e w1 ⟨C, g, rfl, hc, hC, _, hb⟩
  have H1 := Lib.hid (show Below w.heap.size w w1 from HA.out.trans (hb.mono HA.out.size))
  have U1 := Lib.hid hc
  have HC := Lib.hid (Nat.le_trans HA.out.size hC)
  clear hc hC hb HN HA
  go_wp2_with fail
  refine (chars_ok w1 U1.out (by decide) (by decide)).mono ?_
  rintro e w2 ⟨v, rfl, ho, hc, hgr⟩
  have H2 := Lib.hid (below_set H1.out hgr HC.out)
  have U2 := Lib.hid (show Cur w2 C g [64, 193, 17] 2 .nilIface from hc)
  have HO := Lib.hid (show w2.ownsRow w1.heap.size 5 1 v 2 (u8s [64, 193]) from ho)
  have HC2 := Lib.hid U1.out.clt
  obtain ⟨g1, c, rfl, d0⟩ := own_cell HO.out (show 1 < 2 by decide)
  clear hc hgr ho H1 U1 d0
  go_wp2_with fail
  refine (byte_ok w2 U2.out (by decide) (by decide)).mono ?_
  rintro e w3 ⟨rfl, hc, hgr⟩
  have H3 := Lib.hid (below_set H2.out hgr HC.out)
  have U3 := Lib.hid (show Cur w3 C g [64, 193, 17] 3 .nilIface from hc)
  have HO3 := Lib.hid (own_other HO.out hgr HC2.out)
  clear hc hgr H2 U2 HO
  go_wp2_with fail
  refine (byte_none w3 U3.out (by decide)).mono ?_
  rintro e w4 ⟨rfl, ev, hc, hm, hgr⟩
  have H4 := Lib.hid (below_set H3.out hgr HC.out)
  have U4 := Lib.hid hc
  have HM := Lib.hid hm
  have HO4 := Lib.hid (own_other HO3.out hgr HC2.out)
  obtain ⟨g2, c2, hv, d0⟩ := own_cell HO4.out (show 1 < 2 by decide)
  injection hv with e1 _ e3
  injection e1 with e1
  injection e1 with e1
  subst e1 e3
  clear hc hm hgr H3 U3 HO3
  have d0 : w4.cell? ⟨g1, 1, none⟩ = some (.int .u8 193) := d0
  go_wp2_with fail
  refine (err_any w4 U4.out).mono ?_
  rintro e w5 ⟨rfl, rfl⟩
  clear d0
  go_wp2_with fail
  refine (code_told ev 2 3 w4 (hand_of HG.out H4.out) HM.out.told).mono ?_
  rintro e w5 ⟨rfl, hb⟩
  have H5 := kept_hid H4 hb
  have U5 := Lib.hid (U4.out.below hb)
  have HM5 := Lib.hid (HM.out.below hb)
  clear hb H4 U4 HM
  go_wp2_with fail
  refine (err_any w5 U5.out).mono ?_
  rintro e w6 ⟨rfl, rfl⟩
  go_wp2_with fail
  refine (where_told ev 2 3 w5 (hand_of HG.out H5.out) HM5.out.told).mono ?_
  rintro e w6 ⟨rfl, hb⟩
  have H6 := kept_hid H5 hb
  have U6 := Lib.hid (U5.out.below hb)
  clear hb H5 U5 HM5
  go_wp2_with fail
  refine (at_any w6 U6.out).mono ?_
  rintro e w7 ⟨rfl, rfl⟩
  go_wp2_with fail
  go_ret
  exact ⟨rfl, H6.out⟩
end Byt
end Go.Proofs.YtblkimpneeeiaaaDoor
