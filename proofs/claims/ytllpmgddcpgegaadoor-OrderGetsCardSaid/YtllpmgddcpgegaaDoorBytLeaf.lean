/- The small functions of package bytes. -/
import Derived.Test.YtllpmgddcpgegaaDoorBytCur
import Derived.Test.YtllpmgddcpgegaaDoorAppend
import Derived.Test.YtllpmgddcpgegaaDoorKeep
import Derived.Deep.RegionHeld3
namespace Go.Proofs.YtllpmgddcpgegaaDoor
open Go.RowKit Sha Cut Err Six Apd
namespace Byt
theorem nil_eq (w : World) : (binOp BinOp.eql 22 (.slice none 0 0) (.slice none 0 0)).run Tryd.prog w = .ok (.bool true) w := by kernel_rfl
theorem nil_ne (a : Addr) (n c : Nat) (w : World) : (binOp BinOp.eql 22 (.slice (some a) n c) (.slice none 0 0)).run Tryd.prog w = .ok (.bool false) w := by kernel_rfl
set_option maxRecDepth 100000 in
set_option maxHeartbeats 1000000 in
theorem clone_any (ad : Option Addr) (len cap : Nat) (xs : List Nat) (w : World) (hB : BytesIn w (.slice ad len cap) xs) (hn : ad = none → len = 0 ∧ cap = 0) (hl : xs.length < 1000000000) :
    Calls Tryd.prog 23 #[.slice ad len cap] w fun e w' => ∃ v, e = .returned v ∧ w'.ownsRow w.heap.size 5 1 v xs.length (u8s xs) ∧ Below w.heap.size w w' := by
  have hx : len = xs.length := by
    obtain ⟨_, _, hv, _⟩ := hB
    injection hv
  subst hx
  cases ad with
  | none =>
    obtain ⟨h0, rfl⟩ := hn rfl
    have hx : xs = [] := List.eq_nil_of_length_eq_zero h0
    subst hx
    clear hB hn hl h0
    have e0 := nil_eq
    go_enter Tryd.func23, Tryd.ntmps23
    go_wp2
    go_ret
    exact ⟨_, rfl, World.ownsRow_nil _ _ _ _, Below.refl _ _⟩
  | some a =>
    have HS := Lib.hid (bytes_src (bytes_below hB ((Below.refl w.heap.size w).alloc (Nat.le_refl _) (.cells #[] 5))))
    have HO := Lib.hid (World.ownsRow_lit (e := 5) (size := 1) w #[] 0 (Nat.le_refl _) (Nat.zero_le _) rfl)
    have HL := Lib.hid hl
    have HB := Lib.hid ((Below.refl w.heap.size w).alloc (Nat.le_refl _) (.cells #[] 5))
    clear hB hn hl
    have e0 := nil_ne
    go_enter Tryd.func23, Tryd.ntmps23
    go_wp2_with (at_builtin; refine wpList_mark ?_)
    refine Lib.hid ?_
    refine append_own rfl (.tmp 5) (.tmp 6) rfl w.heap.size (.slice (some ⟨w.heap.size, 0, none⟩) 0 0) 0 [] rfl HO.out (some a) xs.length cap xs rfl rfl (fun h => by cases h) HS.out (by have := HL.out; omega) HB.out.size ?_
    intro v' w' hown hgr _
    have HR := Lib.hid (show w'.ownsRow w.heap.size 5 1 v' xs.length (u8s xs) from by simpa using hown)
    have HW := Lib.hid (HB.out.grown hgr HB.out.size (by intro k hk; simp [Value.ownBlock] at hk; omega))
    clear hown hgr HS HO HB HL
    obtain ⟨va, vc, rfl⟩ := own_form HR.out
    go_wp2_with fail
    go_ret
    exact ⟨_, rfl, HR.out, HW.out⟩
theorem new_any (ad : Option Addr) (len cap : Nat) (xs : List Nat) (w : World) (hB : BytesIn w (.slice ad len cap) xs) (hn : ad = none → len = 0 ∧ cap = 0) (hl : xs.length < 1000000000) :
    Calls Tryd.prog 13 #[.slice ad len cap] w fun e w' => ∃ C g, e = .returned (.pointer (some ⟨C, 0, none⟩)) ∧ Cur w' C g xs 0 .nilIface ∧ w.heap.size ≤ C ∧ w.heap.size ≤ g ∧ Below w.heap.size w w' := by
  have HC := Lib.hid (clone_any ad len cap xs w hB hn hl)
  clear hB hn hl
  go_enter Tryd.func13, Tryd.ntmps13
  go_wp2_with fail
  refine HC.out.mono ?_
  rintro e w1 ⟨v, rfl, ho, hb⟩
  obtain ⟨g, hg, hc⟩ := cur_new hb ho
  have HG := Lib.hid hg
  have HU := Lib.hid hc
  have HB := Lib.hid hb
  clear hb hc hg
  obtain ⟨va, vc, rfl⟩ := own_form ho
  clear ho HC
  go_wp2_with fail
  go_ret
  exact ⟨_, g, rfl, HU.out, HB.out.size, HG.out, HB.out.alloc HB.out.size _⟩
theorem err_any {C g at_ : Nat} {xs : List Nat} {ev : Value} (w : World) (h : Cur w C g xs at_ ev) :
    Calls Tryd.prog 19 #[.pointer (some ⟨C, 0, none⟩)] w fun e w' => e = .returned ev ∧ w = w' := by
  obtain ⟨ad, cap, c0, c1, c2, _⟩ := h.cells
  clear h
  go_enter Tryd.func19, Tryd.ntmps19
  go_wp2
  go_ret
  exact ⟨rfl, rfl⟩
theorem left_any {C g at_ : Nat} {xs : List Nat} {ev : Value} (w : World) (h : Cur w C g xs at_ ev) (hl : xs.length < 1000000000) :
    Calls Tryd.prog 21 #[.pointer (some ⟨C, 0, none⟩)] w fun e w' => e = .returned (.int .i64 ((xs.length - at_ : Nat) : Int)) ∧ ∃ m, w' = w.drewN m := by
  obtain ⟨ad, cap, c0, c1, c2, _⟩ := h.cells
  have hle := h.le
  have HE := Lib.hid (show ((xs.length : Int) - (at_ : Int)) = ((xs.length - at_ : Nat) : Int) by omega)
  clear h
  go_enter Tryd.func21, Tryd.ntmps21
  go_wp2_with fail
  go_quiet (fail)
  go_wp2_with fail
  go_ret
  refine ⟨?_, _, rfl⟩
  rw [← HE.out]; rfl
theorem left_b {C g at_ : Nat} {xs : List Nat} {ev : Value} (w : World) (h : Cur w C g xs at_ ev) (hl : xs.length < 1000000000) :
    Calls Tryd.prog 21 #[.pointer (some ⟨C, 0, none⟩)] w fun e w' => e = .returned (.int .i64 ((xs.length - at_ : Nat) : Int)) ∧ Below w.heap.size w w' :=
  (left_any w h hl).mono fun _ _ ⟨he, m, hw⟩ => ⟨he, by rw [hw]; exact drewN_below _ _ _⟩
theorem next_ok {C g at_ : Nat} {xs : List Nat} (w : World) (h : Cur w C g xs at_ .nilIface) :
    Calls Tryd.prog 35 #[.pointer (some ⟨C, 0, none⟩)] w fun e w' => ∃ ad cap, e = .returned (.slice ad (xs.length - at_) cap) ∧ BytesIn w (.slice ad (xs.length - at_) cap) (xs.drop at_) ∧ ∃ m, w' = w.drewN m := by
  obtain ⟨ad, cap, c0, c1, c2, _, _, hB, _⟩ := h.cells
  have hS := run_l ad xs.length cap at_ h.le
  have HB := Lib.hid (bytes_l hB h.le)
  clear h hB
  go_enter Tryd.func35, Tryd.ntmps35
  go_wp2_with fail
  go_quiet (fail)
  go_wp2_with fail
  go_ret
  exact ⟨_, _, rfl, HB.out, _, rfl⟩
theorem next_met {C g at_ b : Nat} {xs : List Nat} (w : World) (h : Cur w C g xs at_ (.iface 78 (.pointer (some ⟨b, 0, none⟩)))) :
    Calls Tryd.prog 35 #[.pointer (some ⟨C, 0, none⟩)] w fun e w' => e = .returned (.slice none 0 0) ∧ w = w' := by
  obtain ⟨ad, cap, c0, c1, c2, _⟩ := h.cells
  clear h
  go_enter Tryd.func35, Tryd.ntmps35
  go_wp2_with fail
  go_ret
  exact ⟨rfl, rfl⟩
/-- A cursor that has met an error meets no other. -/
theorem fail_met {C g at_ b : Nat} {xs : List Nat} (u : Value) (w : World) (h : Cur w C g xs at_ (.iface 78 (.pointer (some ⟨b, 0, none⟩)))) :
    Calls Tryd.prog 36 #[.pointer (some ⟨C, 0, none⟩), u] w fun e w' => e = .returned (.tuple #[]) ∧ w = w' := by
  obtain ⟨ad, cap, c0, c1, c2, _⟩ := h.cells
  clear h
  go_enter Tryd.func36, Tryd.ntmps36
  go_wp2_with fail
  exact bodyPost_ret (results_none rfl _ _ _) rfl ⟨rfl, rfl⟩
theorem fail_nil {C g at_ : Nat} {xs : List Nat} (w : World) (h : Cur w C g xs at_ .nilIface) :
    Calls Tryd.prog 36 #[.pointer (some ⟨C, 0, none⟩), .nilIface] w fun e w' => e = .returned (.tuple #[]) ∧ w = w' := by
  obtain ⟨ad, cap, c0, c1, c2, _⟩ := h.cells
  clear h
  go_enter Tryd.func36, Tryd.ntmps36
  go_wp2_with fail
  exact bodyPost_ret (results_none rfl _ _ _) rfl ⟨rfl, rfl⟩
theorem fail_new {C g at_ d : Nat} {xs : List Nat} (u : Value) (k : Int) (w : World) (h : Cur w C g xs at_ .nilIface) (hc : Chain w k d u) :
    Calls Tryd.prog 36 #[.pointer (some ⟨C, 0, none⟩), u] w fun e w' => e = .returned (.tuple #[]) ∧ ∃ ev, Cur w' C g xs at_ ev ∧ Met w' ev k at_ ∧ w.grownBy w' (some C) := by
  obtain ⟨ev, hev, hr⟩ := h.meets hc
  have HR := Lib.hid hr
  obtain ⟨ad, cap, c0, c1, c2, f1, f2, _⟩ := h.cells
  have hC := h.clt
  clear h hr
  rcases hc.form with ⟨_, rfl⟩ | ⟨b, rfl⟩
  · clear hc
    go_enter Tryd.func36, Tryd.ntmps36
    go_wp2_with fail
    go_end0
    rw [hev, World.setCell_alloc_past _ _ _ _ hC] at HR
    exact ⟨rfl, _, HR.out⟩
  · clear hc
    go_enter Tryd.func36, Tryd.ntmps36
    go_wp2_with fail
    go_end0
    rw [hev, World.setCell_alloc_past _ _ _ _ hC] at HR
    exact ⟨rfl, _, HR.out⟩
end Byt
end Go.Proofs.YtllpmgddcpgegaaDoor
