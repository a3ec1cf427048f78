/- Next, Prev of package field. -/
import Derived.Test.YtoacookbfpcncaaFldFirst
namespace Go.Proofs.Ytoacookbfpcncaa
open Go.RowKit Sha Six Apd Cut Err Att Grd
set_option linter.unusedVariables false
namespace Fld
theorem ffc_cases (cs : List C) (a m st : Int) : (∃ i, i < cs.length ∧ opener cs (on cs.length a (m + (i : Int) * st)) = true ∧ (∀ j, j < i → opener cs (on cs.length a (m + (j : Int) * st)) = false) ∧ ffc cs a m st = ((on cs.length ((on cs.length a (m + (i : Int) * st) : Nat) : Int) 1 : Nat) : Int)) ∨ ((∀ j, j < cs.length → opener cs (on cs.length a (m + (j : Int) * st)) = false) ∧ ffc cs a m st = -1) := by
  cases h : firstK (fun i => opener cs (on cs.length a (m + (i : Int) * st))) 0 cs.length with
  | some i =>
    obtain ⟨_, h2, h3, h4⟩ := firstK_some h
    exact .inl ⟨i, by omega, h3, fun j hj => h4 j (Nat.zero_le _) hj, by unfold ffc; rw [h]⟩
  | none => exact .inr ⟨fun j hj => firstK_none h j (Nat.zero_le _) (by omega), by unfold ffc; rw [h]⟩
theorem ffc_next (cs : List C) (a : Nat) : ffc cs (a : Int) 1 1 = next cs a := by
  rcases ffc_cases cs a 1 1 with ⟨i, h1, h2, h3, h4⟩ | ⟨h1, h2⟩
  · rw [h4, next_at (q := i + 1) (by omega) (by omega) (by rw [show ((i + 1 : Nat) : Int) = 1 + (i : Int) * 1 by omega]; exact h2) (fun j hj1 hj2 => by
      rw [show (j : Int) = 1 + ((j - 1 : Nat) : Int) * 1 by omega]; exact h3 _ (by omega))]
    rw [show ((i + 1 : Nat) : Int) = 1 + (i : Int) * 1 by omega]
  · rw [h2, next_no (fun j hj1 hj2 => by rw [show (j : Int) = 1 + ((j - 1 : Nat) : Int) * 1 by omega]; exact h1 _ (by omega))]
theorem ffc_prev (cs : List C) (a : Nat) : ffc cs (a : Int) (-2) (-1) = prev cs a := by
  rcases ffc_cases cs a (-2) (-1) with ⟨i, h1, h2, h3, h4⟩ | ⟨h1, h2⟩
  · rw [h4, prev_at (q := i + 2) (by omega) (by omega) (by rw [show -((i + 2 : Nat) : Int) = -2 + (i : Int) * (-1) by omega]; exact h2) (fun j hj1 hj2 => by
      rw [show -(j : Int) = -2 + ((j - 2 : Nat) : Int) * (-1) by omega]; exact h3 _ (by omega))]
    rw [show -((i + 2 : Nat) : Int) = -2 + (i : Int) * (-1) by omega]
  · rw [h2, prev_no (fun j hj1 hj2 => by rw [show -(j : Int) = -2 + ((j - 2 : Nat) : Int) * (-1) by omega]; exact h1 _ (by omega))]
set_option maxRecDepth 100000 in
set_option maxHeartbeats 8000000 in
theorem fnext_any (s : S) (ad : Option Addr) (k : Nat) (a : Nat) (w : World) (h : CelsIn w (.slice ad s.cs.length k) s.cs) (h8 : Sound s.cs) (hz : 0 < s.cs.length) (hl : s.cs.length < 10000) (ha : a < s.cs.length) :
    Calls Try.prog 22 #[.agg #[.int .i64 s.rows, .int .i64 s.cols, .slice ad s.cs.length k, .int .i64 s.cur, .bool s.lk, .bool s.ins], .int .i64 (a : Int)] w fun e w' => e = .returned (.int .i64 (next s.cs a)) ∧ Below w.heap.size w w' := by
  have HB := Lib.hid (al_any w (.cells (sbox s ad k) 24))
  have HX := Lib.hid (heap_alloc_new w (.cells (sbox s ad k) 24))
  have HI := Lib.hid (h.below HB.out)
  have HF := Lib.hid fun (W W' : World) (hb : Below (w.alloc (.cells (sbox s ad k) 24)).heap.size (w.alloc (.cells (sbox s ad k) 24)) W') (hx : Boxes W' W.heap.size (sbox s ad k) (a : Int) (1) (1)) => ffirst_any s ad k W.heap.size (a : Int) (1) (1) W' (HI.out.below hb) h8 hz hl (by omega) (by omega) (by omega) hx
  have HE := Lib.hid (ffc_next s.cs a)
  clear h hz hl ha
  generalize next s.cs a = res at *
  generalize ffc s.cs (a : Int) (1) (1) = rv at *
  go_enter Try.func22, Try.ntmps22
  go_upto_region 1 with (fail)
  change Code.wp _ _ _ _ (w.alloc (.cells (sbox s ad k) 24))
  generalize w.alloc _ = w1 at *
  first
    | go_region_held3 (fun W' => Below w1.heap.size w1 W' ∧ W'.cell? ⟨w.heap.size, 0, none⟩ = some (.int .i64 s.rows) ∧ W'.cell? ⟨w.heap.size, 1, none⟩ = some (.int .i64 s.cols) ∧ W'.cell? ⟨w.heap.size, 2, none⟩ = some (.slice ad s.cs.length k) ∧ W'.cell? ⟨w.heap.size, 3, none⟩ = some (.int .i64 s.cur) ∧ W'.cell? ⟨w.heap.size, 4, none⟩ = some (.bool s.lk) ∧ W'.cell? ⟨w.heap.size, 5, none⟩ = some (.bool s.ins))
        (first | with_reducible exact below6 HX.out _ (Below.refl _ _).drew | with_reducible exact below6 HX.out _ (Below.refl _ _) | with_reducible exact below6 HX.out _ (And.left (by assumption)) | with_reducible exact below6 HX.out _ (kept_trans (And.left (by assumption)) hb))
        (first
          | (go_at_call 31; refine (walk_any _ _ _ _ _ _ _ _ _ _ _ _).mono ?_; rintro e wa ⟨rfl, hx, hb, _⟩)
          | (go_at_call 33; refine (HF.out _ _ (And.left (by assumption)) hx).mono ?_; rintro e wb ⟨rfl, hb⟩))
    | fail "no"
  have hS := And.left (by assumption : Below w1.heap.size w1 wb ∧ _)
  have K2 := kept_hid HB hS
  clear hS hb HF HX HI
  go_wp2_with fail
  go_ret
  exact ⟨by rw [← HE.out]; rfl, K2.out⟩
set_option maxRecDepth 100000 in
set_option maxHeartbeats 8000000 in
theorem fprev_any (s : S) (ad : Option Addr) (k : Nat) (a : Nat) (w : World) (h : CelsIn w (.slice ad s.cs.length k) s.cs) (h8 : Sound s.cs) (hz : 0 < s.cs.length) (hl : s.cs.length < 10000) (ha : a < s.cs.length) :
    Calls Try.prog 24 #[.agg #[.int .i64 s.rows, .int .i64 s.cols, .slice ad s.cs.length k, .int .i64 s.cur, .bool s.lk, .bool s.ins], .int .i64 (a : Int)] w fun e w' => e = .returned (.int .i64 (prev s.cs a)) ∧ Below w.heap.size w w' := by
  have HB := Lib.hid (al_any w (.cells (sbox s ad k) 24))
  have HX := Lib.hid (heap_alloc_new w (.cells (sbox s ad k) 24))
  have HI := Lib.hid (h.below HB.out)
  have HF := Lib.hid fun (W W' : World) (hb : Below (w.alloc (.cells (sbox s ad k) 24)).heap.size (w.alloc (.cells (sbox s ad k) 24)) W') (hx : Boxes W' W.heap.size (sbox s ad k) (a : Int) (-2) (-1)) => ffirst_any s ad k W.heap.size (a : Int) (-2) (-1) W' (HI.out.below hb) h8 hz hl (by omega) (by omega) (by omega) hx
  have HE := Lib.hid (ffc_prev s.cs a)
  clear h hz hl ha
  generalize prev s.cs a = res at *
  generalize ffc s.cs (a : Int) (-2) (-1) = rv at *
  go_enter Try.func24, Try.ntmps24
  go_upto_region 1 with (fail)
  change Code.wp _ _ _ _ (w.alloc (.cells (sbox s ad k) 24))
  generalize w.alloc _ = w1 at *
  first
    | go_region_held3 (fun W' => Below w1.heap.size w1 W' ∧ W'.cell? ⟨w.heap.size, 0, none⟩ = some (.int .i64 s.rows) ∧ W'.cell? ⟨w.heap.size, 1, none⟩ = some (.int .i64 s.cols) ∧ W'.cell? ⟨w.heap.size, 2, none⟩ = some (.slice ad s.cs.length k) ∧ W'.cell? ⟨w.heap.size, 3, none⟩ = some (.int .i64 s.cur) ∧ W'.cell? ⟨w.heap.size, 4, none⟩ = some (.bool s.lk) ∧ W'.cell? ⟨w.heap.size, 5, none⟩ = some (.bool s.ins))
        (first | with_reducible exact below6 HX.out _ (Below.refl _ _).drew | with_reducible exact below6 HX.out _ (Below.refl _ _) | with_reducible exact below6 HX.out _ (And.left (by assumption)) | with_reducible exact below6 HX.out _ (kept_trans (And.left (by assumption)) hb))
        (first
          | (go_at_call 31; refine (walk_any _ _ _ _ _ _ _ _ _ _ _ _).mono ?_; rintro e wa ⟨rfl, hx, hb, _⟩)
          | (go_at_call 33; refine (HF.out _ _ (And.left (by assumption)) hx).mono ?_; rintro e wb ⟨rfl, hb⟩))
    | fail "no"
  have hS := And.left (by assumption : Below w1.heap.size w1 wb ∧ _)
  have K2 := kept_hid HB hS
  clear hS hb HF HX HI
  go_wp2_with fail
  go_ret
  exact ⟨by rw [← HE.out]; rfl, K2.out⟩
end Fld
end Go.Proofs.Ytoacookbfpcncaa
