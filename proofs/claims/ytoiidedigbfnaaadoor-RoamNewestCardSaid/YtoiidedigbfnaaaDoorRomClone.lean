/- bytes.Clone. -/
import Derived.Test.YtoiidedigbfnaaaDoorBunBase
import Derived.Test.YtoiidedigbfnaaaDoorBunBase
import Derived.Test.YtoiidedigbfnaaaDoorBunBase
import Derived.Deep.RegionHeld3
namespace Go.Proofs.YtoiidedigbfnaaaDoor
open Go.RowKit Sha Cut Err Six Apd
namespace Rom
theorem nil_eq (w : World) : (binOp BinOp.eql 22 (.slice none 0 0) (.slice none 0 0)).run Tryd.prog w = .ok (.bool true) w := by kernel_rfl
theorem nil_ne (a : Addr) (n c : Nat) (w : World) : (binOp BinOp.eql 22 (.slice (some a) n c) (.slice none 0 0)).run Tryd.prog w = .ok (.bool false) w := by kernel_rfl
set_option maxRecDepth 100000 in
set_option maxHeartbeats 1000000 in
theorem clone_any (ad : Option Addr) (len cap : Nat) (xs : List Nat) (w : World) (hB : BytesIn w (.slice ad len cap) xs) (hn : ad = none → len = 0 ∧ cap = 0) (hl : xs.length < 1000000000) :
    Calls Tryd.prog 14 #[.slice ad len cap] w fun e w' => ∃ v, e = .returned v ∧ w'.ownsRow w.heap.size 5 1 v xs.length (u8s xs) ∧ Below w.heap.size w w' := by
  have hx : len = xs.length := by
    obtain ⟨_, _, hv, _⟩ := hB
    injection hv
  subst hx
  cases ad with
  | none =>
    obtain ⟨h0, rfl⟩ := hn rfl
    have hx : xs = [] := List.eq_nil_of_length_eq_zero h0
    subst hx
    clear hB hn hl h0
    have e0 := nil_eq
    go_enter Tryd.func14, Tryd.ntmps14
    go_wp2
    go_ret
    exact ⟨_, rfl, World.ownsRow_nil _ _ _ _, Below.refl _ _⟩
  | some a =>
    have HS := Lib.hid (bytes_src (bytes_below hB ((Below.refl w.heap.size w).alloc (Nat.le_refl _) (.cells #[] 5))))
    have HO := Lib.hid (World.ownsRow_lit (e := 5) (size := 1) w #[] 0 (Nat.le_refl _) (Nat.zero_le _) rfl)
    have HL := Lib.hid hl
    have HB := Lib.hid ((Below.refl w.heap.size w).alloc (Nat.le_refl _) (.cells #[] 5))
    clear hB hn hl
    have e0 := nil_ne
    go_enter Tryd.func14, Tryd.ntmps14
    go_wp2_with (at_builtin; refine wpList_mark ?_)
    refine Lib.hid ?_
    refine append_own rfl (.tmp 5) (.tmp 6) rfl w.heap.size (.slice (some ⟨w.heap.size, 0, none⟩) 0 0) 0 [] rfl HO.out (some a) xs.length cap xs rfl rfl (fun h => by cases h) HS.out (by have := HL.out; omega) HB.out.size ?_
    intro v' w' hown hgr _
    have HR := Lib.hid (show w'.ownsRow w.heap.size 5 1 v' xs.length (u8s xs) from by simpa using hown)
    have HW := Lib.hid (HB.out.grown hgr HB.out.size (by intro k hk; simp [Value.ownBlock] at hk; omega))
    clear hown hgr HS HO HB HL
    obtain ⟨va, vc, rfl⟩ := own_form HR.out
    go_wp2_with fail
    go_ret
    exact ⟨_, rfl, HR.out, HW.out⟩
end Rom
end Go.Proofs.YtoiidedigbfnaaaDoor
