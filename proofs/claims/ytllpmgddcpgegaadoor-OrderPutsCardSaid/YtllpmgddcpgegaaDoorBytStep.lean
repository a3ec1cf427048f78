/- step, Take, Peek and Byte of a cursor. -/
import Derived.Test.YtllpmgddcpgegaaDoorBytLeaf
namespace Go.Proofs.YtllpmgddcpgegaaDoor
open Go.RowKit Sha Cut Err Six Apd
namespace Byt
theorem step_zero (C : Nat) (w : World) :
    Calls Tryd.prog 37 #[.pointer (some ⟨C, 0, none⟩), .int .i64 0] w fun e w' => e = .returned (.slice none 0 0) ∧ w = w' := by
  go_enter Tryd.func37, Tryd.ntmps37
  go_wp2
  go_ret
  exact ⟨rfl, rfl⟩
theorem step_held {w1 w' : World} {C : Nat} {a b : Value} (h0 : w1.cell? ⟨C, 0, none⟩ = some a) (h1 : w1.cell? ⟨C, 1, none⟩ = some b) (h : Below w1.heap.size w1 w') :
    Below w1.heap.size w1 w' ∧ w'.cell? ⟨C, 0, none⟩ = some a ∧ w'.cell? ⟨C, 1, none⟩ = some b :=
  ⟨h, (h.cell (p := ⟨C, 0, none⟩) (block_lt h0)).trans h0, (h.cell (p := ⟨C, 1, none⟩) (block_lt h1)).trans h1⟩
set_option maxHeartbeats 2000000 in
theorem step_some {C g at_ : Nat} {xs : List Nat} (n : Nat) (w : World) (h : Cur w C g xs at_ .nilIface) (hn : 0 < n) (hl : at_ + n ≤ xs.length) (hx : xs.length < 1000000000) :
    Calls Tryd.prog 37 #[.pointer (some ⟨C, 0, none⟩), .int .i64 (n : Int)] w fun e w' => ∃ v, e = .returned v ∧ w'.ownsRow w.heap.size 5 1 v n (u8s ((xs.drop at_).take n)) ∧ Cur w' C g xs (at_ + n) .nilIface ∧ w.grownBy w' (some C) := by
  obtain ⟨ad, cap, c0, c1, c2, f1, _, hB, hlc, hna⟩ := h.cells
  have hS := run_lh ad xs.length cap at_ n (by omega)
  have hC := h.clt
  have HU := Lib.hid h
  have HC0 := Lib.hid c0
  have HC1 := Lib.hid c1
  have HN := Lib.hid (show cutA ad at_ cap = none → n = 0 ∧ cap - at_ = 0 from fun hh => by have := hna (cutA_none hh); omega)
  have HLen := Lib.hid (show ((xs.drop at_).take n).length = n by rw [List.length_take, List.length_drop]; omega)
  have HB := Lib.hid (bytes_lh hB hl)
  have HX := Lib.hid hx
  have HL := Lib.hid hl
  have e0 : ((n : Int) == 0) = false := by simp; omega
  have ew : IntKind.i64.wrap ((at_ : Int) + (n : Int)) = (at_ : Int) + (n : Int) := by rw [IntWalk.i64_in] <;> omega
  clear h hB hna hx
  go_enter Tryd.func37, Tryd.ntmps37
  go_wp2_with fail
  go_region_held3 (fun w' => Below w.heap.size w w' ∧ w'.cell? ⟨C, 0, none⟩ = some (.slice ad xs.length cap) ∧ w'.cell? ⟨C, 1, none⟩ = some (.int .i64 (at_ : Int)))
    (first | exact step_held HC0.out HC1.out (Below.refl _ _).drew | exact step_held HC0.out HC1.out (Below.refl _ _) | exact step_held HC0.out HC1.out (kept_trans (And.left (by assumption)) hb))
    ((go_at_call 23; have hS := And.left (by assumption : Below w.heap.size w _ ∧ _); refine (clone_any _ _ _ _ _ (bytes_below HB.out hS) HN.out (by rw [HLen.out]; have := HL.out; have := HX.out; omega)).mono ?_; rintro e wb ⟨v, rfl, ho, hb⟩; rw [HLen.out] at ho))
  have hS2 := (by assumption : Below w.heap.size w _ ∧ _)
  obtain ⟨hW, d0, d1⟩ := hS2
  have hg1 := (hW.frozen (p := ⟨C, 1, none⟩) hC).trans f1
  have HO := Lib.hid (show wb.ownsRow w.heap.size 5 1 v n (u8s ((xs.drop at_).take n)) from ho)
  have HW := Lib.hid hW
  have HU2 := Lib.hid ((HU.out.below hW).moved n HL.out)
  clear hW ho hb hS HU
  obtain ⟨va, vc, rfl⟩ := own_form HO.out
  go_wp2_with fail
  go_ret
  exact ⟨_, rfl, own_other HO.out (gsetCell _ _ _ _) hC, HU2.out, gtrans (gbelow HW.out _) (gsetCell _ _ _ _)⟩
/-- What is taken: new memory; the place moves on. -/
theorem step_any {C g at_ : Nat} {xs : List Nat} (n : Nat) (w : World) (h : Cur w C g xs at_ .nilIface) (hl : at_ + n ≤ xs.length) (hx : xs.length < 1000000000) :
    Calls Tryd.prog 37 #[.pointer (some ⟨C, 0, none⟩), .int .i64 (n : Int)] w fun e w' => ∃ v, e = .returned v ∧ w'.ownsRow w.heap.size 5 1 v n (u8s ((xs.drop at_).take n)) ∧ Cur w' C g xs (at_ + n) .nilIface ∧ w.grownBy w' (some C) := by
  by_cases h0 : n = 0
  · subst h0
    refine (step_zero C w).mono ?_
    rintro e w' ⟨rfl, rfl⟩
    exact ⟨_, rfl, by simpa [u8s] using World.ownsRow_nil w w.heap.size 5 1, h, grefl _ _⟩
  · exact step_some n w h (by omega) hl hx
end Byt
end Go.Proofs.YtllpmgddcpgegaaDoor
