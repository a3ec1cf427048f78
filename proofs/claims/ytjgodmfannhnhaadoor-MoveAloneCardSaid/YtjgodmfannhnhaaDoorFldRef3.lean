/- The document's Prev of layer 11. -/
import Derived.Test.YtjgodmfannhnhaaDoorBunFld
import Derived.Deep.RegionHeld3
namespace Go.Proofs.YtjgodmfannhnhaaDoor
open Go.RowKit Sha Six Apd Cut Err Att Grd
set_option linter.unusedVariables false
namespace Fld
set_option maxRecDepth 100000 in
set_option maxHeartbeats 8000000 in
theorem rprevf_any (s : S) (ad : Option Addr) (k : Nat) (a : Nat) (w : World) (h : CelsIn w (.slice ad s.cs.length k) s.cs) (hz : 0 < s.cs.length) (hl : s.cs.length < 100000000) (ha : a < s.cs.length) :
    Calls Tryd.prog 36 #[.agg #[.int .i64 s.rows, .int .i64 s.cols, .slice ad s.cs.length k, .int .i64 s.cur, .bool s.lk, .bool s.ins], .int .i64 (a : Int)] w fun e w' => e = .returned (.int .i64 (prev s.cs a)) ∧ Below w.heap.size w w' := by
  have HB := Lib.hid (al_any w (.cells #[.int .i64 s.rows, .int .i64 s.cols, .slice ad s.cs.length k, .int .i64 s.cur, .bool s.lk, .bool s.ins] 24))
  have HX := Lib.hid (heap_alloc_new w (.cells #[.int .i64 s.rows, .int .i64 s.cols, .slice ad s.cs.length k, .int .i64 s.cur, .bool s.lk, .bool s.ins] 24))
  have HI := Lib.hid (h.below HB.out)
  have HZ := Lib.hid hz
  have HL := Lib.hid hl
  have HA := Lib.hid ha
  have HF := Lib.hid fun W hb (i : Nat) (hi : i < s.cs.length) => rfirst_any s ad k i W (HI.out.below hb) hz hl hi
  clear h hz hl ha
  have hlb : (s.cs.length : Int) < 100000000 := by have := HL.out; omega
  go_enter Tryd.func36, Tryd.ntmps36
  go_upto_region 1 with (fail)
  generalize w.alloc _ = w1 at *
  go_wp2_with fail
  go_loopg [5] (s.cs.length + 2) (fun m i wr => ∃ q : Nat, 2 ≤ q ∧ q ≤ s.cs.length + 1 + 1 ∧ m = s.cs.length + 2 + 2 - q ∧ i = .int .i64 q ∧ Hid (∀ j, 2 ≤ j → j < q → opener s.cs (on s.cs.length a (-(j : Int))) = false) ∧ Hid (Below w1.heap.size w1 wr))
  case atStart => exact ⟨2, Nat.le_refl _, by omega, by omega, rfl, Lib.hid (fun j h1 h2 => absurd h2 (by omega)), Lib.hid (Below.refl _ _)⟩
  case round =>
    obtain ⟨q, hq1, hq, rfl, rfl, HN, HK⟩ := hrel
    have ew : IntKind.i64.wrap ((q : Int) + 1) = (q : Int) + 1 := by
      have := HL.out
      rw [IntWalk.i64_in] <;> omega
    have X := Lib.hid (blk HX.out HK.out)
    obtain ⟨c0, c1, c2, c3, c4, c5⟩ := cells6 X.out
    by_cases hlt : q ≤ s.cs.length + 1
    · have hle : (q : Int) ≤ (s.cs.length : Int) + 1 := by omega
      have HM := Lib.hid fun W => rmod_any ((a : Int) - (q : Int)) s.cs.length (on s.cs.length a (-(q : Int))) W HZ.out HL.out (by have := HL.out; have := HA.out; omega) (by rw [on_cast HZ.out]; first | done | rfl | congr 1)
      have HIX := Lib.hid (on_lt HZ.out (a : Int) (-(q : Int)))
      have HR := Lib.hid fun W hb => HF.out W hb _ HIX.out
      have hsum : IntKind.i64.wrap ((a : Int) - (q : Int)) = ((a : Int) - (q : Int)) := IntWalk.i64_in _ (by have := HL.out; have := HA.out; omega)
      go_wp2_with fail
      clear c0 c1 c2 c3 c4 c5
      first
        | go_region_held3 (fun W' => Below wr.heap.size wr W' ∧ W'.cell? ⟨w.heap.size, 0, none⟩ = some (.int .i64 s.rows) ∧ W'.cell? ⟨w.heap.size, 1, none⟩ = some (.int .i64 s.cols) ∧ W'.cell? ⟨w.heap.size, 2, none⟩ = some (.slice ad s.cs.length k) ∧ W'.cell? ⟨w.heap.size, 3, none⟩ = some (.int .i64 s.cur) ∧ W'.cell? ⟨w.heap.size, 4, none⟩ = some (.bool s.lk) ∧ W'.cell? ⟨w.heap.size, 5, none⟩ = some (.bool s.ins))
            (first | with_reducible exact below6 X.out _ (Below.refl _ _).drew | with_reducible exact below6 X.out _ (Below.refl _ _) | with_reducible exact below6 X.out _ (And.left (by assumption)) | with_reducible exact below6 X.out _ (kept_trans (And.left (by assumption)) hb))
            (first
              | (go_at_call 26; with_reducible refine (HM.out _).mono ?_; rintro e wa ⟨rfl, rfl⟩)
              | (go_at_call 25; with_reducible refine (HR.out _ (kept_trans HK.out (And.left (by assumption)))).mono ?_; rintro e wb ⟨rfl, hb⟩))
        | fail "no"
      have hS := And.left (by assumption : Below wr.heap.size wr wb ∧ _)
      have K2 := kept_hid HK hS
      clear hS hb hsum HM HR HF HK X
      cases hop : opener s.cs (on s.cs.length a (-(q : Int))) with
      | true =>
        have HT := Lib.hid (prev_at (a := a) hq1 (by have := hlt; omega) hop HN.out)
        rw [show firstv s.cs (on s.cs.length a (-(q : Int))) = ((on s.cs.length ((on s.cs.length a (-(q : Int)) : Nat) : Int) 1 : Nat) : Int) by unfold firstv; rw [hop]; rfl]
        clear hop
        generalize on s.cs.length ((on s.cs.length a (-(q : Int)) : Nat) : Int) 1 = y at *
        have hy : (0 : Int) ≤ (y : Int) := by omega
        go_wp2_with fail
        go_ret
        exact ⟨by rw [HT.out]; rfl, kept_trans HB.out K2.out⟩
      | false =>
        have HO := Lib.hid hop
        rw [show firstv s.cs (on s.cs.length a (-(q : Int))) = -1 by unfold firstv; rw [hop]; rfl]
        clear hop
        go_wp2_with fail
        go_roundg (s.cs.length + 2 + 2 - (q + 1))
        case measure => omega
        case rel =>
          refine ⟨q + 1, by omega, by omega, rfl, rfl, Lib.hid fun j h1 h2 => ?_, K2⟩
          by_cases hjq : j = q
          · subst hjq; exact HO.out
          · exact HN.out j h1 (by omega)
    · have HT := Lib.hid (prev_no (cs := s.cs) (a := a) fun j h1 h2 => HN.out j h1 (by omega))
      have hgt : ¬ (q : Int) ≤ (s.cs.length : Int) + 1 := by omega
      clear hlt
      go_wp2_with fail
      go_ret
      exact ⟨by rw [HT.out]; rfl, kept_trans HB.out HK.out⟩
end Fld
end Go.Proofs.YtjgodmfannhnhaaDoor
