/- The document's To and Do of layer 15. Written by tools/gen_mov_ref.py. -/
import Derived.Test.YtpgbnnnfeaodmaaGreatDoorSBunMoc
import Derived.Test.YtpgbnnnfeaodmaaGreatDoorSBunGrd
import Derived.Test.YtpgbnnnfeaodmaaGreatDoorSBunFld
import Derived.Test.YtpgbnnnfeaodmaaGreatDoorSBunFld
import Derived.Deep.Cut
import Derived.Deep.RegionHeld3
import Derived.Deep.LoopGhost
import Derived.IntWalk
namespace Go.Proofs.YtpgbnnnfeaodmaaGreatDoor
open Go.RowKit Sha Six Apd Cut Err Att Grd Fld Scr
set_option linter.unusedVariables false
namespace Mov
theorem rzero_any (n : Int) (w : World) :
    Calls Tryz.prog 73 #[.int .i64 n] w fun e w' => e = .returned (.int .i64 ((n.toNat : Nat) : Int)) ∧ w = w' := by
  by_cases h : n < 0
  · have HE := Lib.hid (show ((n.toNat : Nat) : Int) = 0 by omega)
    generalize ((n.toNat : Nat) : Int) = m at HE ⊢
    go_enter Tryz.func73, Tryz.ntmps73
    go_wp2_with fail
    go_ret
    exact ⟨by rw [HE.out]; rfl, rfl⟩
  · have HE := Lib.hid (show ((n.toNat : Nat) : Int) = n by omega)
    generalize ((n.toNat : Nat) : Int) = m at HE ⊢
    go_enter Tryz.func73, Tryz.ntmps73
    go_wp2_with fail
    go_ret
    exact ⟨by rw [HE.out]; rfl, rfl⟩
theorem on_add {z : Nat} {a : Int} {m : Int} (hz : 0 < z) : (a + (z : Int) + m) % (z : Int) = ((on z a m : Nat) : Int) := by
  rw [on_cast hz, show a + (z : Int) + m = a + m + (z : Int) by omega, Int.add_emod_right]
set_option maxRecDepth 100000 in
set_option maxHeartbeats 8000000 in
theorem rto_2 (s : S) (ad : Option Addr) (k : Nat) (w : World) (h : CelsIn w (.slice ad s.cs.length k) s.cs) (hr : sright s = true) (hl : s.cs.length < 10000) :
    Calls Tryz.prog 49 #[.agg #[.int .i64 s.rows, .int .i64 s.cols, .slice ad s.cs.length k, .int .i64 s.cur, .bool s.lk, .bool s.ins], .int .i64 2] w fun e w' => e = .returned (.int .i64 ((gto s 2 : Nat) : Int)) ∧ Below w.heap.size w w' := by
  obtain ⟨kk, hk1, hk2, hk3⟩ := cur_nat hr
  obtain ⟨h1, h2, h3, h4, _⟩ := sright_parts hr
  obtain ⟨g1, g2, g3, g4, g5⟩ := sized_le h1
  have HGT := Lib.hid (show gto s 2 = on s.cs.length s.cur (-1) from rfl)
  first | rw [hk2] at HGT | skip
  obtain ⟨r, c, cs, cur, lk, ins⟩ := s
  simp only at *
  subst hk1
  have HB := Lib.hid (al_any w (.cells #[.int .i64 r, .int .i64 c, .slice ad cs.length k, .int .i64 (kk : Int), .bool lk, .bool ins] 24))
  have HX := Lib.hid (heap_alloc_new w (.cells #[.int .i64 r, .int .i64 c, .slice ad cs.length k, .int .i64 (kk : Int), .bool lk, .bool ins] 24))
  have HI := Lib.hid (h.below HB.out)
  have HP := Lib.hid (show 0 < cs.length by omega)
  have hz0 : ¬ (cs.length : Int) = 0 := by omega
  have hb0 : (0 : Int) ≤ (kk : Int) := by omega
  have hb1 : (kk : Int) < (cs.length : Int) := by omega
  have hb2 : (cs.length : Int) < 10000 := by omega
  have hc0 : 1 ≤ c := g2
  have hc1 : c ≤ (cs.length : Int) := by
    rw [h2]
    have : 1 * c ≤ r * c := Int.mul_le_mul_of_nonneg_right g1 (by omega)
    omega
  have HON := Lib.hid (on_add (z := cs.length) (a := (kk : Int)) (m := -1) HP.out)
  clear h1 h2 h3 h4 g1 g2 g3 g4 g5 h
  go_enter Tryz.func49, Tryz.ntmps49
  go_upto_region 1 with (fail)
  generalize w.alloc _ = w1 at *
  obtain ⟨c0, c1, c2, c3, c4, c5⟩ := cells6 HX.out
  go_wp2_with fail
  go_ret
  exact ⟨ret_i (by rw [HGT.out, ← HON.out]; congr 1), HB.out⟩
set_option maxRecDepth 100000 in
set_option maxHeartbeats 8000000 in
theorem rto_3 (s : S) (ad : Option Addr) (k : Nat) (w : World) (h : CelsIn w (.slice ad s.cs.length k) s.cs) (hr : sright s = true) (hl : s.cs.length < 10000) :
    Calls Tryz.prog 49 #[.agg #[.int .i64 s.rows, .int .i64 s.cols, .slice ad s.cs.length k, .int .i64 s.cur, .bool s.lk, .bool s.ins], .int .i64 3] w fun e w' => e = .returned (.int .i64 ((gto s 3 : Nat) : Int)) ∧ Below w.heap.size w w' := by
  obtain ⟨kk, hk1, hk2, hk3⟩ := cur_nat hr
  obtain ⟨h1, h2, h3, h4, _⟩ := sright_parts hr
  obtain ⟨g1, g2, g3, g4, g5⟩ := sized_le h1
  have HGT := Lib.hid (show gto s 3 = on s.cs.length s.cur 1 from rfl)
  first | rw [hk2] at HGT | skip
  obtain ⟨r, c, cs, cur, lk, ins⟩ := s
  simp only at *
  subst hk1
  have HB := Lib.hid (al_any w (.cells #[.int .i64 r, .int .i64 c, .slice ad cs.length k, .int .i64 (kk : Int), .bool lk, .bool ins] 24))
  have HX := Lib.hid (heap_alloc_new w (.cells #[.int .i64 r, .int .i64 c, .slice ad cs.length k, .int .i64 (kk : Int), .bool lk, .bool ins] 24))
  have HI := Lib.hid (h.below HB.out)
  have HP := Lib.hid (show 0 < cs.length by omega)
  have hz0 : ¬ (cs.length : Int) = 0 := by omega
  have hb0 : (0 : Int) ≤ (kk : Int) := by omega
  have hb1 : (kk : Int) < (cs.length : Int) := by omega
  have hb2 : (cs.length : Int) < 10000 := by omega
  have hc0 : 1 ≤ c := g2
  have hc1 : c ≤ (cs.length : Int) := by
    rw [h2]
    have : 1 * c ≤ r * c := Int.mul_le_mul_of_nonneg_right g1 (by omega)
    omega
  have HON := Lib.hid (on_add (z := cs.length) (a := (kk : Int)) (m := 1) HP.out)
  clear h1 h2 h3 h4 g1 g2 g3 g4 g5 h
  go_enter Tryz.func49, Tryz.ntmps49
  go_upto_region 1 with (fail)
  generalize w.alloc _ = w1 at *
  obtain ⟨c0, c1, c2, c3, c4, c5⟩ := cells6 HX.out
  go_wp2_with fail
  go_ret
  exact ⟨ret_i (by rw [HGT.out, ← HON.out]; rw [show (kk : Int) + (cs.length : Int) + 1 = (kk : Int) + 1 + (cs.length : Int) by omega, Int.add_emod_right]), HB.out⟩
set_option maxRecDepth 100000 in
set_option maxHeartbeats 8000000 in
theorem rto_4 (s : S) (ad : Option Addr) (k : Nat) (w : World) (h : CelsIn w (.slice ad s.cs.length k) s.cs) (hr : sright s = true) (hl : s.cs.length < 10000) :
    Calls Tryz.prog 49 #[.agg #[.int .i64 s.rows, .int .i64 s.cols, .slice ad s.cs.length k, .int .i64 s.cur, .bool s.lk, .bool s.ins], .int .i64 4] w fun e w' => e = .returned (.int .i64 ((gto s 4 : Nat) : Int)) ∧ Below w.heap.size w w' := by
  obtain ⟨kk, hk1, hk2, hk3⟩ := cur_nat hr
  obtain ⟨h1, h2, h3, h4, _⟩ := sright_parts hr
  obtain ⟨g1, g2, g3, g4, g5⟩ := sized_le h1
  have HGT := Lib.hid (show gto s 4 = on s.cs.length s.cur (-s.cols) from rfl)
  first | rw [hk2] at HGT | skip
  obtain ⟨r, c, cs, cur, lk, ins⟩ := s
  simp only at *
  subst hk1
  have HB := Lib.hid (al_any w (.cells #[.int .i64 r, .int .i64 c, .slice ad cs.length k, .int .i64 (kk : Int), .bool lk, .bool ins] 24))
  have HX := Lib.hid (heap_alloc_new w (.cells #[.int .i64 r, .int .i64 c, .slice ad cs.length k, .int .i64 (kk : Int), .bool lk, .bool ins] 24))
  have HI := Lib.hid (h.below HB.out)
  have HP := Lib.hid (show 0 < cs.length by omega)
  have hz0 : ¬ (cs.length : Int) = 0 := by omega
  have hb0 : (0 : Int) ≤ (kk : Int) := by omega
  have hb1 : (kk : Int) < (cs.length : Int) := by omega
  have hb2 : (cs.length : Int) < 10000 := by omega
  have hc0 : 1 ≤ c := g2
  have hc1 : c ≤ (cs.length : Int) := by
    rw [h2]
    have : 1 * c ≤ r * c := Int.mul_le_mul_of_nonneg_right g1 (by omega)
    omega
  have HON := Lib.hid (on_add (z := cs.length) (a := (kk : Int)) (m := -c) HP.out)
  clear h1 h2 h3 h4 g1 g2 g3 g4 g5 h
  go_enter Tryz.func49, Tryz.ntmps49
  go_upto_region 1 with (fail)
  generalize w.alloc _ = w1 at *
  obtain ⟨c0, c1, c2, c3, c4, c5⟩ := cells6 HX.out
  go_wp2_with fail
  go_ret
  exact ⟨ret_i (by rw [HGT.out, ← HON.out]; congr 1), HB.out⟩
set_option maxRecDepth 100000 in
set_option maxHeartbeats 8000000 in
theorem rto_5 (s : S) (ad : Option Addr) (k : Nat) (w : World) (h : CelsIn w (.slice ad s.cs.length k) s.cs) (hr : sright s = true) (hl : s.cs.length < 10000) :
    Calls Tryz.prog 49 #[.agg #[.int .i64 s.rows, .int .i64 s.cols, .slice ad s.cs.length k, .int .i64 s.cur, .bool s.lk, .bool s.ins], .int .i64 5] w fun e w' => e = .returned (.int .i64 ((gto s 5 : Nat) : Int)) ∧ Below w.heap.size w w' := by
  obtain ⟨kk, hk1, hk2, hk3⟩ := cur_nat hr
  obtain ⟨h1, h2, h3, h4, _⟩ := sright_parts hr
  obtain ⟨g1, g2, g3, g4, g5⟩ := sized_le h1
  have HGT := Lib.hid (show gto s 5 = on s.cs.length s.cur s.cols from rfl)
  first | rw [hk2] at HGT | skip
  obtain ⟨r, c, cs, cur, lk, ins⟩ := s
  simp only at *
  subst hk1
  have HB := Lib.hid (al_any w (.cells #[.int .i64 r, .int .i64 c, .slice ad cs.length k, .int .i64 (kk : Int), .bool lk, .bool ins] 24))
  have HX := Lib.hid (heap_alloc_new w (.cells #[.int .i64 r, .int .i64 c, .slice ad cs.length k, .int .i64 (kk : Int), .bool lk, .bool ins] 24))
  have HI := Lib.hid (h.below HB.out)
  have HP := Lib.hid (show 0 < cs.length by omega)
  have hz0 : ¬ (cs.length : Int) = 0 := by omega
  have hb0 : (0 : Int) ≤ (kk : Int) := by omega
  have hb1 : (kk : Int) < (cs.length : Int) := by omega
  have hb2 : (cs.length : Int) < 10000 := by omega
  have hc0 : 1 ≤ c := g2
  have hc1 : c ≤ (cs.length : Int) := by
    rw [h2]
    have : 1 * c ≤ r * c := Int.mul_le_mul_of_nonneg_right g1 (by omega)
    omega
  have HON := Lib.hid (on_add (z := cs.length) (a := (kk : Int)) (m := c) HP.out)
  clear h1 h2 h3 h4 g1 g2 g3 g4 g5 h
  go_enter Tryz.func49, Tryz.ntmps49
  go_upto_region 1 with (fail)
  generalize w.alloc _ = w1 at *
  obtain ⟨c0, c1, c2, c3, c4, c5⟩ := cells6 HX.out
  go_wp2_with fail
  go_ret
  exact ⟨ret_i (by rw [HGT.out, ← HON.out]; rw [show (kk : Int) + (cs.length : Int) + c = (kk : Int) + c + (cs.length : Int) by omega, Int.add_emod_right]), HB.out⟩
set_option maxRecDepth 100000 in
set_option maxHeartbeats 8000000 in
theorem rto_6 (s : S) (ad : Option Addr) (k : Nat) (w : World) (h : CelsIn w (.slice ad s.cs.length k) s.cs) (hr : sright s = true) (hl : s.cs.length < 10000) :
    Calls Tryz.prog 49 #[.agg #[.int .i64 s.rows, .int .i64 s.cols, .slice ad s.cs.length k, .int .i64 s.cur, .bool s.lk, .bool s.ins], .int .i64 6] w fun e w' => e = .returned (.int .i64 ((gto s 6 : Nat) : Int)) ∧ Below w.heap.size w w' := by
  obtain ⟨kk, hk1, hk2, hk3⟩ := cur_nat hr
  obtain ⟨h1, h2, h3, h4, _⟩ := sright_parts hr
  obtain ⟨g1, g2, g3, g4, g5⟩ := sized_le h1
  have HGT := Lib.hid (show gto s 6 = (next s.cs s.cur.toNat).toNat from rfl)
  first | rw [hk2] at HGT | skip
  obtain ⟨r, c, cs, cur, lk, ins⟩ := s
  simp only at *
  subst hk1
  have HB := Lib.hid (al_any w (.cells #[.int .i64 r, .int .i64 c, .slice ad cs.length k, .int .i64 (kk : Int), .bool lk, .bool ins] 24))
  have HX := Lib.hid (heap_alloc_new w (.cells #[.int .i64 r, .int .i64 c, .slice ad cs.length k, .int .i64 (kk : Int), .bool lk, .bool ins] 24))
  have HI := Lib.hid (h.below HB.out)
  have HP := Lib.hid (show 0 < cs.length by omega)
  have HO := Lib.hid fun W hb => rnextf_any (⟨r, c, cs, (kk : Int), lk, ins⟩ : S) ad k kk W (HI.out.below hb) (by simp only; omega) (by simp only; omega) (by simp only; omega)
  simp only at HO
  clear h1 h2 h3 h4 g1 g2 g3 g4 g5 h
  go_enter Tryz.func49, Tryz.ntmps49
  go_upto_region 1 with (fail)
  generalize w.alloc _ = w1 at *
  obtain ⟨c0, c1, c2, c3, c4, c5⟩ := cells6 HX.out
  go_wp2_with fail
  with_reducible refine (HO.out _ (Below.refl _ _)).mono ?_
  rintro e w2 ⟨rfl, hb⟩
  have K := kept_hid HB hb
  go_wp2_with fail
  with_reducible refine (rzero_any _ _).mono ?_
  rintro e w3 ⟨rfl, rfl⟩
  go_wp2_with fail
  go_ret
  exact ⟨ret_i (by rw [HGT.out]; omega), K.out⟩
set_option maxRecDepth 100000 in
set_option maxHeartbeats 8000000 in
theorem rto_7 (s : S) (ad : Option Addr) (k : Nat) (w : World) (h : CelsIn w (.slice ad s.cs.length k) s.cs) (hr : sright s = true) (hl : s.cs.length < 10000) :
    Calls Tryz.prog 49 #[.agg #[.int .i64 s.rows, .int .i64 s.cols, .slice ad s.cs.length k, .int .i64 s.cur, .bool s.lk, .bool s.ins], .int .i64 7] w fun e w' => e = .returned (.int .i64 ((gto s 7 : Nat) : Int)) ∧ Below w.heap.size w w' := by
  obtain ⟨kk, hk1, hk2, hk3⟩ := cur_nat hr
  obtain ⟨h1, h2, h3, h4, _⟩ := sright_parts hr
  obtain ⟨g1, g2, g3, g4, g5⟩ := sized_le h1
  have HGT := Lib.hid (show gto s 7 = (prev s.cs s.cur.toNat).toNat from rfl)
  first | rw [hk2] at HGT | skip
  obtain ⟨r, c, cs, cur, lk, ins⟩ := s
  simp only at *
  subst hk1
  have HB := Lib.hid (al_any w (.cells #[.int .i64 r, .int .i64 c, .slice ad cs.length k, .int .i64 (kk : Int), .bool lk, .bool ins] 24))
  have HX := Lib.hid (heap_alloc_new w (.cells #[.int .i64 r, .int .i64 c, .slice ad cs.length k, .int .i64 (kk : Int), .bool lk, .bool ins] 24))
  have HI := Lib.hid (h.below HB.out)
  have HP := Lib.hid (show 0 < cs.length by omega)
  have HO := Lib.hid fun W hb => rprevf_any (⟨r, c, cs, (kk : Int), lk, ins⟩ : S) ad k kk W (HI.out.below hb) (by simp only; omega) (by simp only; omega) (by simp only; omega)
  simp only at HO
  clear h1 h2 h3 h4 g1 g2 g3 g4 g5 h
  go_enter Tryz.func49, Tryz.ntmps49
  go_upto_region 1 with (fail)
  generalize w.alloc _ = w1 at *
  obtain ⟨c0, c1, c2, c3, c4, c5⟩ := cells6 HX.out
  go_wp2_with fail
  with_reducible refine (HO.out _ (Below.refl _ _)).mono ?_
  rintro e w2 ⟨rfl, hb⟩
  have K := kept_hid HB hb
  go_wp2_with fail
  with_reducible refine (rzero_any _ _).mono ?_
  rintro e w3 ⟨rfl, rfl⟩
  go_wp2_with fail
  go_ret
  exact ⟨ret_i (by rw [HGT.out]; omega), K.out⟩
set_option maxRecDepth 100000 in
set_option maxHeartbeats 8000000 in
theorem rto_8 (s : S) (ad : Option Addr) (k : Nat) (w : World) (h : CelsIn w (.slice ad s.cs.length k) s.cs) (hr : sright s = true) (hl : s.cs.length < 10000) :
    Calls Tryz.prog 49 #[.agg #[.int .i64 s.rows, .int .i64 s.cols, .slice ad s.cs.length k, .int .i64 s.cur, .bool s.lk, .bool s.ins], .int .i64 8] w fun e w' => e = .returned (.int .i64 ((gto s 8 : Nat) : Int)) ∧ Below w.heap.size w w' := by
  obtain ⟨kk, hk1, hk2, hk3⟩ := cur_nat hr
  obtain ⟨h1, h2, h3, h4, _⟩ := sright_parts hr
  obtain ⟨g1, g2, g3, g4, g5⟩ := sized_le h1
  have HGT := Lib.hid (show gto s 8 = (next s.cs (s.cs.length - 1)).toNat from rfl)
  first | rw [hk2] at HGT | skip
  obtain ⟨r, c, cs, cur, lk, ins⟩ := s
  simp only at *
  subst hk1
  have HB := Lib.hid (al_any w (.cells #[.int .i64 r, .int .i64 c, .slice ad cs.length k, .int .i64 (kk : Int), .bool lk, .bool ins] 24))
  have HX := Lib.hid (heap_alloc_new w (.cells #[.int .i64 r, .int .i64 c, .slice ad cs.length k, .int .i64 (kk : Int), .bool lk, .bool ins] 24))
  have HI := Lib.hid (h.below HB.out)
  have HP := Lib.hid (show 0 < cs.length by omega)
  have HO := Lib.hid fun W hb => rnextf_any (⟨r, c, cs, (kk : Int), lk, ins⟩ : S) ad k (cs.length - 1) W (HI.out.below hb) (by simp only; omega) (by simp only; omega) (by simp only; omega)
  simp only at HO
  have hln : (cs.length : Int) - 1 = ((cs.length - 1 : Nat) : Int) := by omega
  clear h1 h2 h3 h4 g1 g2 g3 g4 g5 h
  go_enter Tryz.func49, Tryz.ntmps49
  go_upto_region 1 with (fail)
  generalize w.alloc _ = w1 at *
  obtain ⟨c0, c1, c2, c3, c4, c5⟩ := cells6 HX.out
  go_wp2_with fail
  with_reducible refine (HO.out _ (Below.refl _ _)).mono ?_
  rintro e w2 ⟨rfl, hb⟩
  have K := kept_hid HB hb
  go_wp2_with fail
  with_reducible refine (rzero_any _ _).mono ?_
  rintro e w3 ⟨rfl, rfl⟩
  go_wp2_with fail
  go_ret
  exact ⟨ret_i (by rw [HGT.out]; omega), K.out⟩
set_option maxRecDepth 100000 in
set_option maxHeartbeats 8000000 in
theorem rto_9 (s : S) (ad : Option Addr) (k : Nat) (w : World) (h : CelsIn w (.slice ad s.cs.length k) s.cs) (hr : sright s = true) (hl : s.cs.length < 10000) :
    Calls Tryz.prog 49 #[.agg #[.int .i64 s.rows, .int .i64 s.cols, .slice ad s.cs.length k, .int .i64 s.cur, .bool s.lk, .bool s.ins], .int .i64 9] w fun e w' => e = .returned (.int .i64 ((gto s 9 : Nat) : Int)) ∧ Below w.heap.size w w' := by
  obtain ⟨kk, hk1, hk2, hk3⟩ := cur_nat hr
  obtain ⟨h1, h2, h3, h4, _⟩ := sright_parts hr
  obtain ⟨g1, g2, g3, g4, g5⟩ := sized_le h1
  have HGT := Lib.hid (show gto s 9 = firstO s.cs (rowOn s) from rfl)
  first | rw [hk2] at HGT | skip
  obtain ⟨r, c, cs, cur, lk, ins⟩ := s
  simp only at *
  subst hk1
  have HB := Lib.hid (al_any w (.cells #[.int .i64 r, .int .i64 c, .slice ad cs.length k, .int .i64 (kk : Int), .bool lk, .bool ins] 24))
  have HX := Lib.hid (heap_alloc_new w (.cells #[.int .i64 r, .int .i64 c, .slice ad cs.length k, .int .i64 (kk : Int), .bool lk, .bool ins] 24))
  have HI := Lib.hid (h.below HB.out)
  have HP := Lib.hid (show 0 < cs.length by omega)
  have HRN := Lib.hid (rowOn_nat hr)
  simp only at HRN
  have HFL := Lib.hid (show rowOn (⟨r, c, cs, (kk : Int), lk, ins⟩ : S) < cs.length from on_lt (show 0 < cs.length from HP.out) _ _)
  have HO := Lib.hid fun W hb a ha => ropen_any (⟨r, c, cs, (kk : Int), lk, ins⟩ : S) ad k a W (HI.out.below hb) (show 0 < cs.length from HP.out) (by simp only; omega) ha
  simp only at HO
  have HL := Lib.hid hl
  have hc0 : ¬ c = 0 := by omega
  have hr0 : ¬ r = 0 := by omega
  have hq1 : (kk : Int).tdiv c = (kk : Int) / c := Int.tdiv_eq_ediv_of_nonneg (by omega)
  have hq2 := Int.ediv_nonneg (a := (kk : Int)) (b := c) (by omega) (by omega)
  have hq3 := Int.ediv_le_self (a := (kk : Int)) c (by omega)
  generalize hqe : (kk : Int) / c = qd at *
  have hm1 : (qd + 1).tmod r = (qd + 1) % r := Int.tmod_eq_emod_of_nonneg (by omega)
  generalize (qd + 1) % r = mr at *
  have hf1 : mr * c = (rowOn (⟨r, c, cs, (kk : Int), lk, ins⟩ : S) : Int) := HRN.out.symm
  generalize rowOn (⟨r, c, cs, (kk : Int), lk, ins⟩ : S) = f at *
  have hf0 := HFL.out
  have hw1 : IntKind.i64.wrap qd = qd := IntWalk.i64_in _ (by omega)
  have hw2 : IntKind.i64.wrap (qd + 1) = qd + 1 := IntWalk.i64_in _ (by omega)
  have hw3 : IntKind.i64.wrap (f : Int) = (f : Int) := IntWalk.i64_in _ (by omega)
  clear hf0 hqe hq2 hq3
  clear h1 h2 h3 h4 g1 g2 g3 g4 g5 h
  go_enter Tryz.func49, Tryz.ntmps49
  go_upto_region 1 with (fail)
  generalize w.alloc _ = w1 at *
  obtain ⟨c0, c1, c2, c3, c4, c5⟩ := cells6 HX.out
  go_upto_region 17 with (fail)
  go_region
  clear c0 c1 c2 c3 c4 c5
  go_wp2_with fail
  go_loopg [8] (cs.length + 1) (fun mm ii wr => ∃ q : Nat, q ≤ cs.length ∧ mm = cs.length + 1 - q ∧ ii = .int .i64 q ∧ Hid (∀ j : Nat, j < q → open_ cs (on cs.length (f : Int) (j : Int)) = false) ∧ Hid (Below w1.heap.size w1 wr))
  case atStart => exact ⟨0, Nat.zero_le _, rfl, rfl, Lib.hid nofun, Lib.hid (Below.refl _ _).drew⟩
  case round =>
    obtain ⟨q, hq, rfl, rfl, HN, HK⟩ := hrel
    have ew : IntKind.i64.wrap ((q : Int) + 1) = (q : Int) + 1 := by
      have := HL.out
      rw [IntWalk.i64_in] <;> omega
    have X := Lib.hid (blk HX.out HK.out)
    by_cases hlt : q < cs.length
    · have HIX := Lib.hid (on_lt HP.out (f : Int) (q : Int))
      have HOQ := Lib.hid fun W hb => HO.out W hb _ HIX.out
      have ht1 : ((f : Int) + (q : Int)).tmod (cs.length : Int) = ((on cs.length (f : Int) (q : Int) : Nat) : Int) := by rw [on_cast HP.out]; exact Int.tmod_eq_emod_of_nonneg (by omega)
      have ht2 : ((f : Int) + (q : Int)) % (cs.length : Int) = ((on cs.length (f : Int) (q : Int) : Nat) : Int) := (on_cast HP.out _ _).symm
      have hws : IntKind.i64.wrap ((f : Int) + (q : Int)) = (f : Int) + (q : Int) := IntWalk.i64_in _ (by have := HL.out; have := HFL.out; omega)
      have hne1 : ¬ cs.length = 0 := by omega
      have hne2 : ¬ cs = [] := by rintro rfl; exact hne1 rfl
      have hne3 : ((cs.length : Int) == 0) = false := by simpa using hne1
      have HFS := Lib.hid (firstO_some (cs := cs) (f := f) hlt)
      generalize hix : on cs.length (f : Int) (q : Int) = ix at *
      replace hix := Lib.hid hix
      obtain ⟨c0, c1, c2, c3, c4, c5⟩ := cells6 X.out
      have HSX := Lib.hid (show ∀ W', Below wr.heap.size wr W' → Below wr.heap.size wr W' ∧ (W'.cell? ⟨w.heap.size, 0, none⟩ = some (.int .i64 r) ∧ W'.cell? ⟨w.heap.size, 1, none⟩ = some (.int .i64 c) ∧ W'.cell? ⟨w.heap.size, 2, none⟩ = some (.slice ad cs.length k) ∧ W'.cell? ⟨w.heap.size, 3, none⟩ = some (.int .i64 (kk : Int)) ∧ W'.cell? ⟨w.heap.size, 4, none⟩ = some (.bool lk) ∧ W'.cell? ⟨w.heap.size, 5, none⟩ = some (.bool ins)) from fun W' hW => ⟨hW, cells6 (blk X.out hW)⟩)
      go_wp2_with fail
      go_region_held3 (fun W' => Below wr.heap.size wr W' ∧ (W'.cell? ⟨w.heap.size, 0, none⟩ = some (.int .i64 r) ∧ W'.cell? ⟨w.heap.size, 1, none⟩ = some (.int .i64 c) ∧ W'.cell? ⟨w.heap.size, 2, none⟩ = some (.slice ad cs.length k) ∧ W'.cell? ⟨w.heap.size, 3, none⟩ = some (.int .i64 (kk : Int)) ∧ W'.cell? ⟨w.heap.size, 4, none⟩ = some (.bool lk) ∧ W'.cell? ⟨w.heap.size, 5, none⟩ = some (.bool ins)))
        ((refine HSX.out _ ?_; first | with_reducible exact (Below.refl _ _).drew | with_reducible exact (Below.refl _ _) | with_reducible exact (And.left (by assumption)) | with_reducible exact kept_trans (And.left (by assumption)) hb))
        (first
          | (go_at_call 18; with_reducible refine (HOQ.out _ (kept_trans HK.out (And.left (by assumption)))).mono ?_; rintro e wa ⟨rfl, hb⟩))
      have hS := And.left (by assumption : Below wr.heap.size wr wa ∧ _)
      have K2 := kept_hid HK hS
      rename_i hHeld
      clear hS hb HSX HOQ hHeld c0 c1 c2 c3 c4 c5 X
      cases hop : open_ cs ix with
      | true =>
        have HE := Lib.hid (HFS.out hop HN.out)
        clear hop
        go_wp2_with fail
        go_ret
        exact ⟨ret_i (by rw [HGT.out, HE.out]), (kept_trans HB.out K2.out)⟩
      | false =>
        have HNX := Lib.hid (show ∀ j : Nat, j < q + 1 → open_ cs (on cs.length (f : Int) (j : Int)) = false from fun j hj => by
          by_cases hjq : j = q
          · rw [hjq, hix.out]; exact hop
          · exact HN.out j (by omega))
        clear hop hix
        go_wp2_with fail
        go_roundg (cs.length + 1 - (q + 1))
        case measure => omega
        case rel => exact ⟨q + 1, by omega, rfl, by first | rfl | go_num, HNX, K2⟩
    · obtain rfl : q = cs.length := by omega
      have hn0 : ¬ (cs.length : Int) < (cs.length : Int) := by omega
      have HE := Lib.hid (firstO_none (cs := cs) (f := f) HN.out)
      go_wp2_with fail
      go_ret
      exact ⟨ret_i (by rw [HGT.out, HE.out]; rfl), (kept_trans HB.out HK.out)⟩
theorem rto_any (s : S) (ad : Option Addr) (k : Nat) (kind : Int) (w : World) (h : CelsIn w (.slice ad s.cs.length k) s.cs) (hr : sright s = true) (hl : s.cs.length < 10000) (hm : isMove kind = true) :
    Calls Tryz.prog 49 #[.agg #[.int .i64 s.rows, .int .i64 s.cols, .slice ad s.cs.length k, .int .i64 s.cur, .bool s.lk, .bool s.ins], .int .i64 kind] w fun e w' => e = .returned (.int .i64 ((gto s kind : Nat) : Int)) ∧ Below w.heap.size w w' := by
  have hk : kind = 2 ∨ kind = 3 ∨ kind = 4 ∨ kind = 5 ∨ kind = 6 ∨ kind = 7 ∨ kind = 8 ∨ kind = 9 := by
    simp only [isMove, Bool.and_eq_true, decide_eq_true_eq] at hm
    omega
  rcases hk with rfl | rfl | rfl | rfl | rfl | rfl | rfl | rfl
  · exact rto_2 s ad k w h hr hl
  · exact rto_3 s ad k w h hr hl
  · exact rto_4 s ad k w h hr hl
  · exact rto_5 s ad k w h hr hl
  · exact rto_6 s ad k w h hr hl
  · exact rto_7 s ad k w h hr hl
  · exact rto_8 s ad k w h hr hl
  · exact rto_9 s ad k w h hr hl
set_option maxRecDepth 100000 in
set_option maxHeartbeats 8000000 in
theorem rdo_any (s : S) (ad : Option Addr) (k : Nat) (kind : Int) (w : World) (h : CelsIn w (.slice ad s.cs.length k) s.cs) (hr : sright s = true) (hl : s.cs.length < 10000) :
    Calls Tryz.prog 25 #[.agg #[.int .i64 s.rows, .int .i64 s.cols, .slice ad s.cs.length k, .int .i64 s.cur, .bool s.lk, .bool s.ins], .int .i64 kind] w fun e w' => ShownN w w' (mdo s kind).1 (mdo s kind).2 e := by
  have HGL := Lib.hid (gto_lt hr kind)
  obtain ⟨_, _, q3, q4, _⟩ := sright_parts hr
  obtain ⟨r, cc, cs, cur, lk, ins⟩ := s
  simp only at *
  have HP := Lib.hid (show 0 < cs.length by omega)
  have HB := Lib.hid (kept_trans (al_any w (.cells #[.int .i64 r, .int .i64 cc, .slice ad cs.length k, .int .i64 cur, .bool lk, .bool ins] 24)) (al_any _ (.cells #[.int .i64 0, .int .i64 0, .slice none 0 0, .int .i64 0, .bool false, .bool false] 24)))
  have HX := Lib.hid (heap_alloc2_old w (.cells #[.int .i64 r, .int .i64 cc, .slice ad cs.length k, .int .i64 cur, .bool lk, .bool ins] 24) (.cells #[.int .i64 0, .int .i64 0, .slice none 0 0, .int .i64 0, .bool false, .bool false] 24))
  have HZ := Lib.hid (heap_alloc2_new w (.cells #[.int .i64 r, .int .i64 cc, .slice ad cs.length k, .int .i64 cur, .bool lk, .bool ins] 24) (.cells #[.int .i64 0, .int .i64 0, .slice none 0 0, .int .i64 0, .bool false, .bool false] 24))
  have HI := Lib.hid (h.below HB.out)
  have HNE := Lib.hid (celsIn_lt h HP.out)
  have HCO := Lib.hid fun W hb => rcopy_any (⟨r, cc, cs, cur, lk, ins⟩ : S) ad k W (HI.out.below hb) (by simp only; omega)
  simp only [Copied] at HCO
  have HL := Lib.hid hl
  have HR := Lib.hid hr
  have HM := Lib.hid (show isMove kind = (decide (2 ≤ kind) && decide (kind ≤ 9)) from rfl)
  clear h hr hl q3 q4
  cases hm : isMove kind with
  | false =>
    have HT := Lib.hid (mdo_1 (s := (⟨r, cc, cs, cur, lk, ins⟩ : S)) hm)
    rw [hm] at HM
    clear hm
    by_cases hk2 : kind < 2
    · clear HM
      go_enter Tryz.func25, Tryz.ntmps25
      go_upto_region 1 with (fail)
      generalize (w.alloc _).alloc _ = w1 at *
      obtain ⟨a0, a1, a2, a3, a4, a5⟩ := cells6 HX.out
      obtain ⟨f0, f1, f2, f3, f4, f5⟩ := free6 HZ.out
      obtain ⟨z0, z1, z2, z3, z4, z5⟩ := cells6 HZ.out
      have SF := Lib.hid (over6 w1 (w.heap.size + 1) _ _ _ _ _ _ _ (.int .i64 r) (.int .i64 cc) (.slice ad cs.length k) (.int .i64 cur) (.bool lk) (.bool ins) HZ.out)
      go_wp2_with fail
      clear z0 z1 z2 z3 z4 z5 a0 a1 a2 a3 a4 a5 f0 f1 f2 f3 f4 f5
      generalize (((((w1.setCell _ _).setCell _ _).setCell _ _).setCell _ _).setCell _ _).setCell _ _ = w9 at *
      rw [HT.out]
      exact bodyPost_ret (v := .tuple #[.agg #[.int .i64 r, .int .i64 cc, .slice ad cs.length k, .int .i64 cur, .bool lk, .bool ins], .int .i64 1]) (results_cell_row_tmp rfl _ _ _ (w.heap.size + 1) _ rfl (run_loadVar_row w9 (w.heap.size + 1) 24 24 _ (0, 0) _ SF.out.1 Tryz.underlying24 rfl (by kernel_rfl)) _ rfl) rfl ⟨ad, k, rfl, celsIn_away HI.out SF.out.2 (fun x hx => by have := HNE.out x hx; omega), below_grown HB.out SF.out.2 (by omega)⟩
    · have hk9 : 9 < kind := by
        have := HM.out
        rcases Int.lt_or_le 9 kind with h | h
        · exact h
        · rw [decide_eq_true (show (2 : Int) ≤ kind by omega), decide_eq_true h] at this; cases this
      clear HM
      go_enter Tryz.func25, Tryz.ntmps25
      go_upto_region 1 with (fail)
      generalize (w.alloc _).alloc _ = w1 at *
      obtain ⟨a0, a1, a2, a3, a4, a5⟩ := cells6 HX.out
      obtain ⟨f0, f1, f2, f3, f4, f5⟩ := free6 HZ.out
      obtain ⟨z0, z1, z2, z3, z4, z5⟩ := cells6 HZ.out
      have SF := Lib.hid (over6 w1 (w.heap.size + 1) _ _ _ _ _ _ _ (.int .i64 r) (.int .i64 cc) (.slice ad cs.length k) (.int .i64 cur) (.bool lk) (.bool ins) HZ.out)
      go_wp2_with fail
      clear z0 z1 z2 z3 z4 z5 a0 a1 a2 a3 a4 a5 f0 f1 f2 f3 f4 f5
      generalize (((((w1.setCell _ _).setCell _ _).setCell _ _).setCell _ _).setCell _ _).setCell _ _ = w9 at *
      rw [HT.out]
      exact bodyPost_ret (v := .tuple #[.agg #[.int .i64 r, .int .i64 cc, .slice ad cs.length k, .int .i64 cur, .bool lk, .bool ins], .int .i64 1]) (results_cell_row_tmp rfl _ _ _ (w.heap.size + 1) _ rfl (run_loadVar_row w9 (w.heap.size + 1) 24 24 _ (0, 0) _ SF.out.1 Tryz.underlying24 rfl (by kernel_rfl)) _ rfl) rfl ⟨ad, k, rfl, celsIn_away HI.out SF.out.2 (fun x hx => by have := HNE.out x hx; omega), below_grown HB.out SF.out.2 (by omega)⟩
  | true =>
    have HMV := Lib.hid hm
    rw [hm] at HM
    obtain ⟨hk2, hk9⟩ : 2 ≤ kind ∧ kind ≤ 9 := by simpa using HM.out.symm
    have hk2' : ¬ kind < 2 := by omega
    have hk9' : ¬ 9 < kind := by omega
    clear hm HM hk2 hk9
    cases lk with
    | true =>
      have HT := Lib.hid (mdo_7 (s := (⟨r, cc, cs, cur, true, ins⟩ : S)) HMV.out rfl)
      go_enter Tryz.func25, Tryz.ntmps25
      go_upto_region 1 with (fail)
      generalize (w.alloc _).alloc _ = w1 at *
      obtain ⟨a0, a1, a2, a3, a4, a5⟩ := cells6 HX.out
      obtain ⟨f0, f1, f2, f3, f4, f5⟩ := free6 HZ.out
      obtain ⟨z0, z1, z2, z3, z4, z5⟩ := cells6 HZ.out
      have SF := Lib.hid (over6 w1 (w.heap.size + 1) _ _ _ _ _ _ _ (.int .i64 r) (.int .i64 cc) (.slice ad cs.length k) (.int .i64 cur) (.bool true) (.bool ins) HZ.out)
      go_wp2_with fail
      clear z0 z1 z2 z3 z4 z5 a0 a1 a2 a3 a4 a5 f0 f1 f2 f3 f4 f5
      generalize (((((w1.setCell _ _).setCell _ _).setCell _ _).setCell _ _).setCell _ _).setCell _ _ = w9 at *
      rw [HT.out]
      exact bodyPost_ret (v := .tuple #[.agg #[.int .i64 r, .int .i64 cc, .slice ad cs.length k, .int .i64 cur, .bool true, .bool ins], .int .i64 7]) (results_cell_row_tmp rfl _ _ _ (w.heap.size + 1) _ rfl (run_loadVar_row w9 (w.heap.size + 1) 24 24 _ (0, 0) _ SF.out.1 Tryz.underlying24 rfl (by kernel_rfl)) _ rfl) rfl ⟨ad, k, rfl, celsIn_away HI.out SF.out.2 (fun x hx => by have := HNE.out x hx; omega), below_grown HB.out SF.out.2 (by omega)⟩
    | false =>
      have HT := Lib.hid (mdo_0 (s := (⟨r, cc, cs, cur, false, ins⟩ : S)) HMV.out rfl)
      have HTO := Lib.hid fun W hb => rto_any (⟨r, cc, cs, cur, false, ins⟩ : S) ad k kind W (HI.out.below hb) HR.out HL.out HMV.out
      simp only at HTO HT
      generalize gto (⟨r, cc, cs, cur, false, ins⟩ : S) kind = to at *
      go_enter Tryz.func25, Tryz.ntmps25
      go_upto_region 1 with (fail)
      generalize (w.alloc _).alloc _ = w1 at *
      obtain ⟨c0, c1, c2, c3, c4, c5⟩ := cells6 HX.out
      go_upto_region 5 with (fail)
      go_wp2_with fail
      with_reducible refine (HCO.out _ (Below.refl _ _)).mono ?_
      rintro e w2 ⟨va, vc, rfl, ho, hb⟩
      clear c0 c1 c2 c3 c4 c5
      obtain ⟨g, vd, e1, hg1, hg2, _⟩ := OwnCels.at ho HP.out
      injection e1 with e1 e2 e3
      subst e1
      subst e3
      clear e2
      have hz0 := there_lt HZ.out
      have HA2 := al_any w2 (.cells #[.int .i64 r, .int .i64 cc, .slice (some ⟨g, 0, none⟩) cs.length vc, .int .i64 cur, .bool false, .bool ins] 24)
      have L3 := Lib.hid (heap_alloc_new w2 (.cells #[.int .i64 r, .int .i64 cc, .slice (some ⟨g, 0, none⟩) cs.length vc, .int .i64 cur, .bool false, .bool ins] 24))
      have X3 := Lib.hid (blk HX.out (kept_trans hb HA2))
      have Z3 := Lib.hid (blk HZ.out (kept_trans hb HA2))
      have O3 := Lib.hid ((OwnCels.below ho HA2).mono HB.out.size)
      have B3 := Lib.hid (kept_trans hb HA2)
      have K3 := Lib.hid (kept_trans HB.out (kept_trans hb HA2))
      have hsz := hb.size
      clear HA2 ho hb HX HZ HCO HB
      go_upto_region 6 with (fail)
      generalize w2.alloc _ = w3 at *
      have HG1 := Lib.hid (show w.heap.size + 1 < g from by omega)
      have HG2 := Lib.hid hg2
      have HGZ := Lib.hid (show w.heap.size + 1 < w2.heap.size by omega)
      clear hg1 hg2 hz0 hsz
      generalize w2.heap.size = G at *
      obtain ⟨c0, c1, c2, c3, c4, c5⟩ := cells6 X3.out
      go_wp2_with fail
      with_reducible refine (HTO.out _ B3.out).mono ?_
      rintro e w4 ⟨rfl, hb⟩
      clear c0 c1 c2 c3 c4 c5
      have L4 := Lib.hid (blk L3.out hb)
      have Z4 := Lib.hid (blk Z3.out hb)
      have O4 := Lib.hid (OwnCels.below O3.out hb)
      have K4 := kept_hid K3 hb
      have SO := gsetCell w4 G 3 (.int .i64 (to : Int))
      have L5 := Lib.hid (heap_setCell_same w4 G 3 _ 24 (.int .i64 (to : Int)) L4.out)
      have Z5 := Lib.hid (blk_g Z4.out SO (by intro e; injection e with e; have := HGZ.out; omega))
      have O5 := Lib.hid (OwnCels.away O4.out SO (by intro e; have e1 : g = G := Option.some.inj e; have := HG2.out; omega))
      have K5 := Lib.hid (below_grown K4.out SO (by have := HGZ.out; omega))
      obtain ⟨c0, c1, c2, c3, c4, c5⟩ := cells6 L4.out
      obtain ⟨f0, f1, f2, f3, f4, f5⟩ := free6 L4.out
      clear SO hb L3 X3 Z3 O3 B3 K3 Z4 O4 K4 HTO
      go_upto_region 7 with (fail)
      clear c0 c1 c2 c3 c4 c5 f0 f1 f2 f3 f4 f5 L4
      generalize w4.setCell _ _ = w5 at *
      obtain ⟨a0, a1, a2, a3, a4, a5⟩ := cells6 L5.out
      obtain ⟨f0, f1, f2, f3, f4, f5⟩ := free6 Z5.out
      obtain ⟨z0, z1, z2, z3, z4, z5⟩ := cells6 Z5.out
      have SF := Lib.hid (over6 w5 (w.heap.size + 1) _ _ _ _ _ _ _ (.int .i64 r) (.int .i64 cc) (.slice (some ⟨g, 0, none⟩) cs.length vc) (.int .i64 (to : Int)) (.bool false) (.bool ins) Z5.out)
      go_wp2_with fail
      clear z0 z1 z2 z3 z4 z5 a0 a1 a2 a3 a4 a5 f0 f1 f2 f3 f4 f5
      generalize (((((w5.setCell _ _).setCell _ _).setCell _ _).setCell _ _).setCell _ _).setCell _ _ = w9 at *
      rw [HT.out]
      exact bodyPost_ret (v := .tuple #[.agg #[.int .i64 r, .int .i64 cc, .slice (some ⟨g, 0, none⟩) cs.length vc, .int .i64 (to : Int), .bool false, .bool ins], .int .i64 0]) (results_cell_row_tmp rfl _ _ _ (w.heap.size + 1) _ rfl (run_loadVar_row w9 (w.heap.size + 1) 24 24 _ (0, 0) _ SF.out.1 Tryz.underlying24 rfl (by kernel_rfl)) _ rfl) rfl ⟨some ⟨g, 0, none⟩, vc, rfl, (OwnCels.away O5.out SF.out.2 (by have := HG1.out; simp [Value.ownBlock]; omega)).to, below_grown K5.out SF.out.2 (by omega)⟩
end Mov
end Go.Proofs.YtpgbnnnfeaodmaaGreatDoor
