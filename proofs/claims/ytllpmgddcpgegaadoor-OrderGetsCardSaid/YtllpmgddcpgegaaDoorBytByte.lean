/- Peek, Byte and Addr of a cursor. -/
import Derived.Test.YtllpmgddcpgegaaDoorBytStep
import Derived.Test.YtllpmgddcpgegaaDoorAddrAll
namespace Go.Proofs.YtllpmgddcpgegaaDoor
open Go.RowKit Sha Cut Err Six Apd
namespace Byt
theorem drop_head (xs : List Nat) (k : Nat) : (xs.drop k).getD 0 0 = xs.getD k 0 ∧ (xs.drop k).length = xs.length - k := by
  refine ⟨?_, List.length_drop⟩
  simp [List.getD_eq_getElem?_getD]
set_option maxRecDepth 100000 in
set_option maxHeartbeats 1000000 in
theorem peek_ok {C g at_ : Nat} {xs : List Nat} (w : World) (h : Cur w C g xs at_ .nilIface) (hl : at_ < xs.length) :
    Calls Tryd.prog 57 #[.pointer (some ⟨C, 0, none⟩)] w fun e w' => e = .returned (.tuple #[.int .u8 ((xs.getD at_ 0 : Nat) : Int), .bool true]) ∧ ∃ m, w' = w.drewN m := by
  have HN := Lib.hid (next_ok w h)
  obtain ⟨h1, h2⟩ := drop_head xs at_
  have H1 := Lib.hid h1
  have H2 := Lib.hid h2
  have HK := Lib.hid (show 0 < xs.length - at_ by omega)
  clear h h1 h2 hl
  generalize xs.getD at_ 0 = x at H1 ⊢
  generalize xs.drop at_ = ys at HN H1 H2
  generalize xs.length - at_ = k at HN H2 HK
  have e0 : ((k : Int) == 0) = false := by have := HK.out; simp; omega
  have e1 : (0 : Int) < (k : Int) := by have := HK.out; omega
  go_enter Tryd.func57, Tryd.ntmps57
  go_wp2_with fail
  refine HN.out.mono ?_
  rintro e w1 ⟨ad, cap, rfl, hb, m, rfl⟩
  clear HN
  obtain ⟨g1, o, rfl, hc⟩ : ∃ g1 o, ad = some ⟨g1, o, none⟩ ∧ w.cell? ⟨g1, o, none⟩ = some (.int .u8 (x : Int)) := by
    obtain ⟨_, _, hv, _, hc⟩ := hb
    injection hv with hv1 _ _
    have h2 := H2.out
    have hk := HK.out
    rcases hc with h0 | ⟨g1, o, hg, hc⟩
    · rw [h0] at h2; simp at h2; omega
    · have := hc 0 (by omega)
      rw [H1.out] at this
      exact ⟨g1, o, hv1.trans hg, this⟩
  have c0 : (w.drewN m).cell? ⟨g1, o, none⟩ = _ := hc
  clear hc hb
  go_wp2_with fail
  go_ret2
  exact ⟨rfl, _, rfl⟩
set_option maxHeartbeats 1000000 in
theorem peek_none {C g at_ : Nat} {xs : List Nat} (w : World) (h : Cur w C g xs at_ .nilIface) (hl : xs.length ≤ at_) :
    Calls Tryd.prog 57 #[.pointer (some ⟨C, 0, none⟩)] w fun e w' => e = .returned (.tuple #[.int .u8 0, .bool false]) ∧ ∃ m, w' = w.drewN m := by
  have HN := next_ok w h
  rw [show xs.length - at_ = 0 by omega] at HN
  have HN := Lib.hid HN
  clear h hl
  go_enter Tryd.func57, Tryd.ntmps57
  go_wp2_with fail
  refine HN.out.mono ?_
  rintro e w1 ⟨ad, cap, rfl, _, m, rfl⟩
  clear HN
  go_wp2_with fail
  go_ret2
  exact ⟨rfl, _, rfl⟩
theorem peek_met {C g at_ b : Nat} {xs : List Nat} (w : World) (h : Cur w C g xs at_ (.iface 78 (.pointer (some ⟨b, 0, none⟩)))) :
    Calls Tryd.prog 57 #[.pointer (some ⟨C, 0, none⟩)] w fun e w' => e = .returned (.tuple #[.int .u8 0, .bool false]) ∧ w = w' := by
  have HN := Lib.hid (next_met w h)
  clear h
  go_enter Tryd.func57, Tryd.ntmps57
  go_wp2_with fail
  refine HN.out.mono ?_
  rintro e w1 ⟨rfl, rfl⟩
  clear HN
  go_wp2_with fail
  go_ret2
  exact ⟨rfl, rfl⟩
set_option maxHeartbeats 1000000 in
theorem byte_ok {C g at_ : Nat} {xs : List Nat} (w : World) (h : Cur w C g xs at_ .nilIface) (hl : at_ < xs.length) (hx : xs.length < 1000000000) :
    Calls Tryd.prog 59 #[.pointer (some ⟨C, 0, none⟩)] w fun e w' => e = .returned (.int .u8 ((xs.getD at_ 0 : Nat) : Int)) ∧ Cur w' C g xs (at_ + 1) .nilIface ∧ w.grownBy w' (some C) := by
  have HP := Lib.hid (peek_ok w h hl)
  have HU := Lib.hid (fun m => (h.drewN m).moved 1 hl)
  obtain ⟨ad, cap, c0, c1, c2, f1, _⟩ := h.cells
  have ew : IntKind.i64.wrap ((at_ : Int) + 1) = (at_ : Int) + 1 := by rw [IntWalk.i64_in] <;> omega
  clear h
  generalize xs.getD at_ 0 = x at HP ⊢
  go_enter Tryd.func59, Tryd.ntmps59
  go_wp2_with fail
  refine HP.out.mono ?_
  rintro e w1 ⟨rfl, m, rfl⟩
  clear HP
  go_wp2_with fail
  go_ret
  exact ⟨rfl, HU.out m, gtrans (gdrewN w m _) (gsetCell _ _ _ _)⟩
set_option maxHeartbeats 1000000 in
theorem byte_none {C g at_ : Nat} {xs : List Nat} (w : World) (h : Cur w C g xs at_ .nilIface) (hl : xs.length ≤ at_) :
    Calls Tryd.prog 59 #[.pointer (some ⟨C, 0, none⟩)] w fun e w' => e = .returned (.int .u8 0) ∧ ∃ ev, Cur w' C g xs at_ ev ∧ Met w' ev 2 at_ ∧ w.grownBy w' (some C) := by
  have HP := Lib.hid (peek_none w h hl)
  have HF := Lib.hid (fun m => fail_new (d := 0) (.iface 57 (.int .i64 2)) 2 (w.drewN m) (h.drewN m) rfl)
  clear h
  go_enter Tryd.func59, Tryd.ntmps59
  go_wp2_with fail
  refine HP.out.mono ?_
  rintro e w1 ⟨rfl, m, rfl⟩
  clear HP
  go_wp2_with fail
  refine (HF.out m).mono ?_
  rintro e w2 ⟨rfl, ev, h1, h2, h3⟩
  have HR := Lib.hid (show ∃ ev, Cur w2 C g xs at_ ev ∧ Met w2 ev 2 at_ ∧ w.grownBy w2 (some C) from ⟨ev, h1, h2, gtrans (gdrewN w m _) h3⟩)
  clear h1 h2 h3 HF
  go_wp2_with fail
  go_ret
  exact ⟨rfl, HR.out⟩
theorem byte_met {C g at_ b : Nat} {xs : List Nat} (w : World) (h : Cur w C g xs at_ (.iface 78 (.pointer (some ⟨b, 0, none⟩)))) :
    Calls Tryd.prog 59 #[.pointer (some ⟨C, 0, none⟩)] w fun e w' => e = .returned (.int .u8 0) ∧ w = w' := by
  have HP := Lib.hid (peek_met w h)
  have HF := Lib.hid (fail_met (.iface 57 (.int .i64 2)) w h)
  clear h
  go_enter Tryd.func59, Tryd.ntmps59
  go_wp2_with fail
  refine HP.out.mono ?_
  rintro e w1 ⟨rfl, rfl⟩
  clear HP
  go_wp2_with fail
  refine HF.out.mono ?_
  rintro e w2 ⟨rfl, rfl⟩
  clear HF
  go_wp2_with fail
  go_ret
  exact ⟨rfl, rfl⟩
set_option maxHeartbeats 1000000 in
theorem addr_ok {C g at_ : Nat} {xs : List Nat} (n : Int) (w : World) (h : Cur w C g xs at_ .nilIface) (h8 : ∀ x ∈ xs, x < 256) (hx : xs.length < 1000000000) (hw : (Adr.aspec (xs.drop at_) n).2.1 = 0) :
    Calls Tryd.prog 41 #[.pointer (some ⟨C, 0, none⟩), .int .i64 n] w fun e w' => e = .returned (.int .i64 ((Adr.aspec (xs.drop at_) n).1 : Int)) ∧ Cur w' C g xs (at_ + 2) .nilIface ∧ w.grownBy w' (some C) := by
  have hle : at_ + 2 ≤ xs.length := by
    have : ¬ (xs.drop at_).length < 2 := by
      intro hh
      unfold Adr.aspec at hw
      by_cases h1 : n < 1 ∨ 16383 < n
      · rw [if_pos h1] at hw; simp at hw
      · rw [if_neg h1, if_pos hh] at hw; simp at hw
    rw [List.length_drop] at this
    omega
  have HP := Lib.hid (next_ok w h)
  have HG := Lib.hid (fun ad len cap W hB => Adr.get_all ad len cap (xs.drop at_) n W hB (fun y hy => h8 y (List.mem_of_mem_drop hy)))
  obtain ⟨ad, cap, c0, c1, c2, f1, _⟩ := h.cells
  have hC := h.clt
  have HU := Lib.hid h
  have HW := Lib.hid hw
  have HL := Lib.hid hle
  have ew : IntKind.i64.wrap ((at_ : Int) + 2) = (at_ : Int) + 2 := by rw [IntWalk.i64_in] <;> omega
  have HC1 := Lib.hid c1
  have HF1 := Lib.hid f1
  clear h hw h8 hx hle c0 c1 c2 f1
  generalize (Adr.aspec (xs.drop at_) n).1 = a at HG ⊢
  generalize (Adr.aspec (xs.drop at_) n).2.1 = why at HG HW
  generalize (Adr.aspec (xs.drop at_) n).2.2 = wh at HG
  go_enter Tryd.func41, Tryd.ntmps41
  go_wp2_with fail
  refine HP.out.mono ?_
  rintro e w1 ⟨ad1, cap1, rfl, hB, m, rfl⟩
  clear HP
  have HB := Lib.hid (bytes_below hB (drewN_below _ m w))
  clear hB
  go_wp2_with fail
  refine (HG.out _ _ _ _ HB.out).mono ?_
  rintro e w2 ⟨ev, rfl, hb, _, hn⟩
  obtain rfl := hn HW.out
  have HB2 := Lib.hid (show Below w.heap.size w w2 from (drewN_below _ _ _).trans hb)
  have d1 := (HB2.out.cell (p := ⟨C, 1, none⟩) hC).trans HC1.out
  have g1 := (HB2.out.frozen (p := ⟨C, 1, none⟩) hC).trans HF1.out
  clear hb hn HG HB
  go_wp2_with fail
  go_ret
  exact ⟨rfl, (HU.out.below HB2.out).moved 2 HL.out, gtrans (gbelow HB2.out _) (gsetCell _ _ _ _)⟩
set_option maxHeartbeats 1000000 in
theorem addr_bad {C g at_ : Nat} {xs : List Nat} (n : Int) (w : World) (h : Cur w C g xs at_ .nilIface) (h8 : ∀ x ∈ xs, x < 256) (hw : (Adr.aspec (xs.drop at_) n).2.1 ≠ 0) :
    Calls Tryd.prog 41 #[.pointer (some ⟨C, 0, none⟩), .int .i64 n] w fun e w' => e = .returned (.int .i64 0) ∧ ∃ ev, Cur w' C g xs at_ ev ∧ Met w' ev ((Adr.aspec (xs.drop at_) n).2.1 : Int) at_ ∧ w.grownBy w' (some C) := by
  have HP := Lib.hid (next_ok w h)
  have HG := Lib.hid (fun ad len cap W hB => Adr.get_all ad len cap (xs.drop at_) n W hB (fun y hy => h8 y (List.mem_of_mem_drop hy)))
  have HU := Lib.hid h
  have HW := Lib.hid hw
  clear h hw h8
  generalize (Adr.aspec (xs.drop at_) n).1 = a at HG
  generalize (Adr.aspec (xs.drop at_) n).2.1 = why at HG HW ⊢
  generalize (Adr.aspec (xs.drop at_) n).2.2 = wh at HG
  go_enter Tryd.func41, Tryd.ntmps41
  go_wp2_with fail
  refine HP.out.mono ?_
  rintro e w1 ⟨ad1, cap1, rfl, hB, m, rfl⟩
  clear HP
  have HB := Lib.hid (bytes_below hB (drewN_below _ m w))
  clear hB
  go_wp2_with fail
  refine (HG.out _ _ _ _ HB.out).mono ?_
  rintro e w2 ⟨ev, rfl, hb, ht, _⟩
  obtain ⟨d, hch⟩ := Adr.told_cases ht (by have := HW.out; omega)
  have HB2 := Lib.hid (show Below w.heap.size w w2 from (drewN_below _ _ _).trans hb)
  have HF := Lib.hid (fail_new ev why w2 (HU.out.below HB2.out) hch)
  clear hb ht HG HB
  rcases hch.form with ⟨_, rfl⟩ | ⟨b, rfl⟩
  · clear hch
    go_wp2_with fail
    refine HF.out.mono ?_
    rintro e w3 ⟨rfl, u, h1, h2, h3⟩
    have HR := Lib.hid (show ∃ ev, Cur w3 C g xs at_ ev ∧ Met w3 ev why at_ ∧ w.grownBy w3 (some C) from ⟨u, h1, h2, gtrans (gbelow HB2.out _) h3⟩)
    clear h1 h2 h3 HF
    go_wp2_with fail
    go_ret
    exact ⟨rfl, HR.out⟩
  · clear hch
    go_wp2_with fail
    refine HF.out.mono ?_
    rintro e w3 ⟨rfl, u, h1, h2, h3⟩
    have HR := Lib.hid (show ∃ ev, Cur w3 C g xs at_ ev ∧ Met w3 ev why at_ ∧ w.grownBy w3 (some C) from ⟨u, h1, h2, gtrans (gbelow HB2.out _) h3⟩)
    clear h1 h2 h3 HF
    go_wp2_with fail
    go_ret
    exact ⟨rfl, HR.out⟩
set_option maxHeartbeats 1000000 in
theorem addr_met {C g at_ b : Nat} {xs : List Nat} (n : Int) (w : World) (h : Cur w C g xs at_ (.iface 78 (.pointer (some ⟨b, 0, none⟩)))) :
    Calls Tryd.prog 41 #[.pointer (some ⟨C, 0, none⟩), .int .i64 n] w fun e w' => e = .returned (.int .i64 0) ∧ Below w.heap.size w w' := by
  have HP := Lib.hid (next_met w h)
  have HG := Lib.hid (Adr.get_all none 0 0 [] n w ⟨none, 0, rfl, Nat.le_refl _, .inl rfl⟩ (by simp))
  have HW := Lib.hid (show ((Adr.aspec [] n).1 = 0 ∧ (Adr.aspec [] n).2.1 ≠ 0) from by unfold Adr.aspec; split <;> simp)
  have HU := Lib.hid h
  clear h
  generalize (Adr.aspec [] n).1 = a at HG HW
  generalize (Adr.aspec [] n).2.1 = why at HG HW
  generalize (Adr.aspec [] n).2.2 = wh at HG
  obtain ⟨h1, h2⟩ := HW.out
  subst h1
  have HW := Lib.hid h2
  clear h2
  go_enter Tryd.func41, Tryd.ntmps41
  go_wp2_with fail
  refine HP.out.mono ?_
  rintro e w1 ⟨rfl, rfl⟩
  clear HP
  go_wp2_with fail
  refine HG.out.mono ?_
  rintro e w2 ⟨ev, rfl, hb, ht, _⟩
  obtain ⟨d, hch⟩ := Adr.told_cases ht (by have := HW.out; omega)
  have HB2 := Lib.hid hb
  have HF := Lib.hid (fail_met ev w2 (HU.out.below HB2.out))
  clear hb ht HG HW HU
  rcases hch.form with ⟨_, rfl⟩ | ⟨b, rfl⟩
  · clear hch
    go_wp2_with fail
    refine HF.out.mono ?_
    rintro e w3 ⟨rfl, rfl⟩
    clear HF
    go_wp2_with fail
    go_ret
    exact ⟨rfl, HB2.out⟩
  · clear hch
    go_wp2_with fail
    refine HF.out.mono ?_
    rintro e w3 ⟨rfl, rfl⟩
    clear HF
    go_wp2_with fail
    go_ret
    exact ⟨rfl, HB2.out⟩
end Byt
end Go.Proofs.YtllpmgddcpgegaaDoor
