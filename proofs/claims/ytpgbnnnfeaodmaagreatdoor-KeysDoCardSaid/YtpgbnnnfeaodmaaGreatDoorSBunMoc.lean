/- MovGoal, MovCode, MovOk in one text (by tools/bundle.py). -/
import Derived.Test.YtpgbnnnfeaodmaaGreatDoorSBunMov
import Derived.Test.YtpgbnnnfeaodmaaGreatDoorSBunScr
import Derived.Test.YtpgbnnnfeaodmaaGreatDoorSBunGrd
import Derived.Test.YtpgbnnnfeaodmaaGreatDoorSBunFlc
import Derived.Test.YtpgbnnnfeaodmaaGreatDoorSBunErr
import Derived.Deep.Cut
import Derived.Deep.RegionHeld3
import Derived.IntWalk
/- The landed code of package move: Moves, nextRow, goal, Do. Written by tools/gen_mov_code.py. -/
namespace Go.Proofs.YtpgbnnnfeaodmaaGreatDoor
open Go.RowKit Sha Six Apd Cut Err Att Grd Fld Scr
set_option linter.unusedVariables false
namespace Mov
theorem moves_any (kind : Int) (w : World) :
    Calls Tryz.prog 36 #[.int .i64 kind] w fun e w' => e = .returned (.bool (isMove kind)) ∧ w = w' := by
  have HM := Lib.hid (show isMove kind = (decide (2 ≤ kind) && decide (kind ≤ 9)) from rfl)
  generalize isMove kind = res at HM ⊢
  by_cases h0 : 2 ≤ kind
  · have HE := Lib.hid (show res = decide (kind ≤ 9) by rw [HM.out]; simp [h0])
    clear HM
    go_enter Tryz.func36, Tryz.ntmps36
    go_wp2_with fail
    go_ret
    exact ⟨by rw [HE.out]; rfl, rfl⟩
  · have HE := Lib.hid (show res = false by rw [HM.out]; simp [h0])
    clear HM
    go_enter Tryz.func36, Tryz.ntmps36
    go_wp2_with fail
    go_ret
    exact ⟨by rw [HE.out]; rfl, rfl⟩
theorem cur_nat {s : S} (h : sright s = true) : ∃ k : Nat, s.cur = (k : Int) ∧ s.cur.toNat = k ∧ k < s.cs.length := by
  obtain ⟨_, _, h3, h4, _⟩ := sright_parts h
  exact ⟨s.cur.toNat, by omega, rfl, by omega⟩
set_option maxRecDepth 100000 in
set_option maxHeartbeats 8000000 in
theorem row_any (s : S) (ad : Option Addr) (k : Nat) (w : World) (hr : sright s = true) (hl : s.cs.length < 100000) :
    Calls Tryz.prog 83 #[.agg #[.int .i64 s.rows, .int .i64 s.cols, .slice ad s.cs.length k, .int .i64 s.cur, .bool s.lk, .bool s.ins]] w fun e w' => e = .returned (.int .i64 ((rowOn s : Nat) : Int)) ∧ Below w.heap.size w w' := by
  obtain ⟨h1, h2, h3, h4, _⟩ := sright_parts hr
  obtain ⟨g1, g2, g3, g4, g5⟩ := sized_le h1
  have hm0 := Int.emod_nonneg s.cur (b := s.cols) (by omega)
  have hm1 := Int.emod_lt_of_pos s.cur (b := s.cols) (by omega)
  have HB := Lib.hid (al_any w (.cells #[.int .i64 s.rows, .int .i64 s.cols, .slice ad s.cs.length k, .int .i64 s.cur, .bool s.lk, .bool s.ins] 24))
  have HX := Lib.hid (heap_alloc_new w (.cells #[.int .i64 s.rows, .int .i64 s.cols, .slice ad s.cs.length k, .int .i64 s.cur, .bool s.lk, .bool s.ins] 24))
  have HO := Lib.hid fun W => on_any s.rows s.cols ad s.cs.length k s.cur s.lk s.ins s.cur (s.cols - s.cur % s.cols) W (by omega) (by omega) (IntWalk.i64_in _ (by omega)) (IntWalk.i64_in _ (by omega))
  have HRO := Lib.hid (show rowOn s = on s.cs.length s.cur (s.cols - s.cur % s.cols) from rfl)
  have hne : ¬ s.cols = 0 := by omega
  have hne2 : (s.cols == 0) = false := by simpa using hne
  have hrem : (IntKind.i64.wrap s.cur).tmod s.cols = s.cur % s.cols := by rw [IntWalk.i64_in _ (by omega), Int.tmod_eq_emod_of_nonneg h3]
  have hrem2 : IntKind.i64.wrap (s.cur % s.cols) = s.cur % s.cols := IntWalk.i64_in _ (by omega)
  have hsub : IntKind.i64.wrap (s.cols - s.cur % s.cols) = s.cols - s.cur % s.cols := IntWalk.i64_in _ (by omega)
  have hrem3 : IntKind.i64.wrap (s.cur.tmod s.cols) = s.cur % s.cols := by rw [Int.tmod_eq_emod_of_nonneg h3]; exact hrem2
  have htm : s.cur.tmod s.cols = s.cur % s.cols := Int.tmod_eq_emod_of_nonneg h3
  generalize rowOn s = res at HRO ⊢
  generalize s.cur % s.cols = rm at *
  clear h1 h2 h3 h4 g1 g2 g3 g4 g5 hm0 hm1 hr hl
  go_enter Tryz.func83, Tryz.ntmps83
  go_upto_region 1 with (fail)
  generalize w.alloc _ = w1 at *
  obtain ⟨c0, c1, c2, c3, c4, c5⟩ := cells6 HX.out
  have HSX := Lib.hid (show ∀ W', Below w1.heap.size w1 W' → Below w1.heap.size w1 W' ∧ (W'.cell? ⟨w.heap.size, 0, none⟩ = some (.int .i64 s.rows) ∧ W'.cell? ⟨w.heap.size, 1, none⟩ = some (.int .i64 s.cols) ∧ W'.cell? ⟨w.heap.size, 2, none⟩ = some (.slice ad s.cs.length k) ∧ W'.cell? ⟨w.heap.size, 3, none⟩ = some (.int .i64 s.cur) ∧ W'.cell? ⟨w.heap.size, 4, none⟩ = some (.bool s.lk) ∧ W'.cell? ⟨w.heap.size, 5, none⟩ = some (.bool s.ins)) from fun W' hW => ⟨hW, cells6 (blk HX.out hW)⟩)
  go_upto_region 3 with (fail)
  go_region_held3 (fun W' => Below w1.heap.size w1 W' ∧ (W'.cell? ⟨w.heap.size, 0, none⟩ = some (.int .i64 s.rows) ∧ W'.cell? ⟨w.heap.size, 1, none⟩ = some (.int .i64 s.cols) ∧ W'.cell? ⟨w.heap.size, 2, none⟩ = some (.slice ad s.cs.length k) ∧ W'.cell? ⟨w.heap.size, 3, none⟩ = some (.int .i64 s.cur) ∧ W'.cell? ⟨w.heap.size, 4, none⟩ = some (.bool s.lk) ∧ W'.cell? ⟨w.heap.size, 5, none⟩ = some (.bool s.ins)))
    ((refine HSX.out _ ?_; first | with_reducible exact (Below.refl _ _).drew | with_reducible exact (Below.refl _ _) | with_reducible exact (And.left (by assumption)) | with_reducible exact kept_trans (And.left (by assumption)) hb))
    (first
      | (go_at_call 81; with_reducible refine (HO.out _).mono ?_; rintro e wa ⟨rfl, hb⟩))
  have hS := And.left (by assumption : Below w1.heap.size w1 wa ∧ _)
  have K := kept_hid HB hS
  go_wp2_with fail
  go_ret
  exact ⟨by rw [HRO.out]; rfl, K.out⟩
theorem ret_i {a b : Int} (h : a = b) : Ending.returned (.int .i64 a) = .returned (.int .i64 b) := by rw [h]
set_option maxRecDepth 100000 in
set_option maxHeartbeats 8000000 in
theorem goal_2 (s : S) (ad : Option Addr) (k : Nat) (w : World) (h : CelsIn w (.slice ad s.cs.length k) s.cs) (hr : sright s = true) (h8 : Sound s.cs) (hl : s.cs.length < 10000) :
    Calls Tryz.prog 60 #[.agg #[.int .i64 s.rows, .int .i64 s.cols, .slice ad s.cs.length k, .int .i64 s.cur, .bool s.lk, .bool s.ins], .int .i64 2] w fun e w' => e = .returned (.int .i64 ((gto s 2 : Nat) : Int)) ∧ Below w.heap.size w w' := by
  obtain ⟨kk, hk1, hk2, hk3⟩ := cur_nat hr
  obtain ⟨h1, h2, h3, h4, _⟩ := sright_parts hr
  obtain ⟨g1, g2, g3, g4, g5⟩ := sized_le h1
  have HGT := Lib.hid (show gto s 2 = on s.cs.length s.cur (-1) from rfl)
  first | rw [hk2] at HGT | skip
  obtain ⟨r, c, cs, cur, lk, ins⟩ := s
  simp only at *
  subst hk1
  have HB := Lib.hid (al_any w (.cells #[.int .i64 r, .int .i64 c, .slice ad cs.length k, .int .i64 (kk : Int), .bool lk, .bool ins] 24))
  have HX := Lib.hid (heap_alloc_new w (.cells #[.int .i64 r, .int .i64 c, .slice ad cs.length k, .int .i64 (kk : Int), .bool lk, .bool ins] 24))
  have HI := Lib.hid (h.below HB.out)
  have HP := Lib.hid (show 0 < cs.length by omega)
  have HO := Lib.hid fun W => on_any r c ad cs.length k (kk : Int) lk ins (kk : Int) (-1) W (by omega) (by omega) (IntWalk.i64_in _ (by omega)) (IntWalk.i64_in _ (by omega))
  clear h1 h2 h3 h4 g1 g2 g3 g4 g5 h
  go_enter Tryz.func60, Tryz.ntmps60
  go_upto_region 1 with (fail)
  generalize w.alloc _ = w1 at *
  obtain ⟨c0, c1, c2, c3, c4, c5⟩ := cells6 HX.out
  go_wp2_with fail
  with_reducible refine (HO.out _).mono ?_
  rintro e w2 ⟨rfl, hb⟩
  have K := kept_hid HB hb
  go_wp2_with fail
  go_ret
  exact ⟨ret_i (by rw [HGT.out]), K.out⟩
set_option maxRecDepth 100000 in
set_option maxHeartbeats 8000000 in
theorem goal_3 (s : S) (ad : Option Addr) (k : Nat) (w : World) (h : CelsIn w (.slice ad s.cs.length k) s.cs) (hr : sright s = true) (h8 : Sound s.cs) (hl : s.cs.length < 10000) :
    Calls Tryz.prog 60 #[.agg #[.int .i64 s.rows, .int .i64 s.cols, .slice ad s.cs.length k, .int .i64 s.cur, .bool s.lk, .bool s.ins], .int .i64 3] w fun e w' => e = .returned (.int .i64 ((gto s 3 : Nat) : Int)) ∧ Below w.heap.size w w' := by
  obtain ⟨kk, hk1, hk2, hk3⟩ := cur_nat hr
  obtain ⟨h1, h2, h3, h4, _⟩ := sright_parts hr
  obtain ⟨g1, g2, g3, g4, g5⟩ := sized_le h1
  have HGT := Lib.hid (show gto s 3 = on s.cs.length s.cur 1 from rfl)
  first | rw [hk2] at HGT | skip
  obtain ⟨r, c, cs, cur, lk, ins⟩ := s
  simp only at *
  subst hk1
  have HB := Lib.hid (al_any w (.cells #[.int .i64 r, .int .i64 c, .slice ad cs.length k, .int .i64 (kk : Int), .bool lk, .bool ins] 24))
  have HX := Lib.hid (heap_alloc_new w (.cells #[.int .i64 r, .int .i64 c, .slice ad cs.length k, .int .i64 (kk : Int), .bool lk, .bool ins] 24))
  have HI := Lib.hid (h.below HB.out)
  have HP := Lib.hid (show 0 < cs.length by omega)
  have HO := Lib.hid fun W => on_any r c ad cs.length k (kk : Int) lk ins (kk : Int) (1) W (by omega) (by omega) (IntWalk.i64_in _ (by omega)) (IntWalk.i64_in _ (by omega))
  clear h1 h2 h3 h4 g1 g2 g3 g4 g5 h
  go_enter Tryz.func60, Tryz.ntmps60
  go_upto_region 1 with (fail)
  generalize w.alloc _ = w1 at *
  obtain ⟨c0, c1, c2, c3, c4, c5⟩ := cells6 HX.out
  go_wp2_with fail
  with_reducible refine (HO.out _).mono ?_
  rintro e w2 ⟨rfl, hb⟩
  have K := kept_hid HB hb
  go_wp2_with fail
  go_ret
  exact ⟨ret_i (by rw [HGT.out]), K.out⟩
set_option maxRecDepth 100000 in
set_option maxHeartbeats 8000000 in
theorem goal_4 (s : S) (ad : Option Addr) (k : Nat) (w : World) (h : CelsIn w (.slice ad s.cs.length k) s.cs) (hr : sright s = true) (h8 : Sound s.cs) (hl : s.cs.length < 10000) :
    Calls Tryz.prog 60 #[.agg #[.int .i64 s.rows, .int .i64 s.cols, .slice ad s.cs.length k, .int .i64 s.cur, .bool s.lk, .bool s.ins], .int .i64 4] w fun e w' => e = .returned (.int .i64 ((gto s 4 : Nat) : Int)) ∧ Below w.heap.size w w' := by
  obtain ⟨kk, hk1, hk2, hk3⟩ := cur_nat hr
  obtain ⟨h1, h2, h3, h4, _⟩ := sright_parts hr
  obtain ⟨g1, g2, g3, g4, g5⟩ := sized_le h1
  have HGT := Lib.hid (show gto s 4 = on s.cs.length s.cur (-s.cols) from rfl)
  first | rw [hk2] at HGT | skip
  obtain ⟨r, c, cs, cur, lk, ins⟩ := s
  simp only at *
  subst hk1
  have HB := Lib.hid (al_any w (.cells #[.int .i64 r, .int .i64 c, .slice ad cs.length k, .int .i64 (kk : Int), .bool lk, .bool ins] 24))
  have HX := Lib.hid (heap_alloc_new w (.cells #[.int .i64 r, .int .i64 c, .slice ad cs.length k, .int .i64 (kk : Int), .bool lk, .bool ins] 24))
  have HI := Lib.hid (h.below HB.out)
  have HP := Lib.hid (show 0 < cs.length by omega)
  have HO := Lib.hid fun W => on_any r c ad cs.length k (kk : Int) lk ins (kk : Int) (-c) W (by omega) (by omega) (IntWalk.i64_in _ (by omega)) (IntWalk.i64_in _ (by omega))
  have hn1 : IntKind.i64.wrap (-c) = -c := IntWalk.i64_in _ (by omega)
  have hb0 : 1 ≤ c := g2
  have hb1 : c ≤ 16383 := g5
  clear h1 h2 h3 h4 g1 g2 g3 g4 g5 h
  go_enter Tryz.func60, Tryz.ntmps60
  go_upto_region 1 with (fail)
  generalize w.alloc _ = w1 at *
  obtain ⟨c0, c1, c2, c3, c4, c5⟩ := cells6 HX.out
  go_wp2_with fail
  with_reducible refine (HO.out _).mono ?_
  rintro e w2 ⟨rfl, hb⟩
  have K := kept_hid HB hb
  go_wp2_with fail
  go_ret
  exact ⟨ret_i (by rw [HGT.out]), K.out⟩
set_option maxRecDepth 100000 in
set_option maxHeartbeats 8000000 in
theorem goal_5 (s : S) (ad : Option Addr) (k : Nat) (w : World) (h : CelsIn w (.slice ad s.cs.length k) s.cs) (hr : sright s = true) (h8 : Sound s.cs) (hl : s.cs.length < 10000) :
    Calls Tryz.prog 60 #[.agg #[.int .i64 s.rows, .int .i64 s.cols, .slice ad s.cs.length k, .int .i64 s.cur, .bool s.lk, .bool s.ins], .int .i64 5] w fun e w' => e = .returned (.int .i64 ((gto s 5 : Nat) : Int)) ∧ Below w.heap.size w w' := by
  obtain ⟨kk, hk1, hk2, hk3⟩ := cur_nat hr
  obtain ⟨h1, h2, h3, h4, _⟩ := sright_parts hr
  obtain ⟨g1, g2, g3, g4, g5⟩ := sized_le h1
  have HGT := Lib.hid (show gto s 5 = on s.cs.length s.cur s.cols from rfl)
  first | rw [hk2] at HGT | skip
  obtain ⟨r, c, cs, cur, lk, ins⟩ := s
  simp only at *
  subst hk1
  have HB := Lib.hid (al_any w (.cells #[.int .i64 r, .int .i64 c, .slice ad cs.length k, .int .i64 (kk : Int), .bool lk, .bool ins] 24))
  have HX := Lib.hid (heap_alloc_new w (.cells #[.int .i64 r, .int .i64 c, .slice ad cs.length k, .int .i64 (kk : Int), .bool lk, .bool ins] 24))
  have HI := Lib.hid (h.below HB.out)
  have HP := Lib.hid (show 0 < cs.length by omega)
  have HO := Lib.hid fun W => on_any r c ad cs.length k (kk : Int) lk ins (kk : Int) (c) W (by omega) (by omega) (IntWalk.i64_in _ (by omega)) (IntWalk.i64_in _ (by omega))
  clear h1 h2 h3 h4 g1 g2 g3 g4 g5 h
  go_enter Tryz.func60, Tryz.ntmps60
  go_upto_region 1 with (fail)
  generalize w.alloc _ = w1 at *
  obtain ⟨c0, c1, c2, c3, c4, c5⟩ := cells6 HX.out
  go_wp2_with fail
  with_reducible refine (HO.out _).mono ?_
  rintro e w2 ⟨rfl, hb⟩
  have K := kept_hid HB hb
  go_wp2_with fail
  go_ret
  exact ⟨ret_i (by rw [HGT.out]), K.out⟩
set_option maxRecDepth 100000 in
set_option maxHeartbeats 8000000 in
theorem goal_6 (s : S) (ad : Option Addr) (k : Nat) (w : World) (h : CelsIn w (.slice ad s.cs.length k) s.cs) (hr : sright s = true) (h8 : Sound s.cs) (hl : s.cs.length < 10000) :
    Calls Tryz.prog 60 #[.agg #[.int .i64 s.rows, .int .i64 s.cols, .slice ad s.cs.length k, .int .i64 s.cur, .bool s.lk, .bool s.ins], .int .i64 6] w fun e w' => e = .returned (.int .i64 ((gto s 6 : Nat) : Int)) ∧ Below w.heap.size w w' := by
  obtain ⟨kk, hk1, hk2, hk3⟩ := cur_nat hr
  obtain ⟨h1, h2, h3, h4, _⟩ := sright_parts hr
  obtain ⟨g1, g2, g3, g4, g5⟩ := sized_le h1
  have HGT := Lib.hid (show gto s 6 = (next s.cs s.cur.toNat).toNat from rfl)
  first | rw [hk2] at HGT | skip
  obtain ⟨r, c, cs, cur, lk, ins⟩ := s
  simp only at *
  subst hk1
  have HB := Lib.hid (al_any w (.cells #[.int .i64 r, .int .i64 c, .slice ad cs.length k, .int .i64 (kk : Int), .bool lk, .bool ins] 24))
  have HX := Lib.hid (heap_alloc_new w (.cells #[.int .i64 r, .int .i64 c, .slice ad cs.length k, .int .i64 (kk : Int), .bool lk, .bool ins] 24))
  have HI := Lib.hid (h.below HB.out)
  have HP := Lib.hid (show 0 < cs.length by omega)
  have HO := Lib.hid fun W hb => fnext_any (⟨r, c, cs, (kk : Int), lk, ins⟩ : S) ad k kk W (HI.out.below hb) h8 (by simp only; omega) hl (by simp only; omega)
  simp only at HO
  clear h1 h2 h3 h4 g1 g2 g3 g4 g5 h
  go_enter Tryz.func60, Tryz.ntmps60
  go_upto_region 1 with (fail)
  generalize w.alloc _ = w1 at *
  obtain ⟨c0, c1, c2, c3, c4, c5⟩ := cells6 HX.out
  go_wp2_with fail
  with_reducible refine (HO.out _ (Below.refl _ _)).mono ?_
  rintro e w2 ⟨rfl, hb⟩
  have K := kept_hid HB hb
  go_wp2_with fail
  all_goals
    go_ret
    exact ⟨ret_i (by rw [HGT.out]; omega), K.out⟩
set_option maxRecDepth 100000 in
set_option maxHeartbeats 8000000 in
theorem goal_7 (s : S) (ad : Option Addr) (k : Nat) (w : World) (h : CelsIn w (.slice ad s.cs.length k) s.cs) (hr : sright s = true) (h8 : Sound s.cs) (hl : s.cs.length < 10000) :
    Calls Tryz.prog 60 #[.agg #[.int .i64 s.rows, .int .i64 s.cols, .slice ad s.cs.length k, .int .i64 s.cur, .bool s.lk, .bool s.ins], .int .i64 7] w fun e w' => e = .returned (.int .i64 ((gto s 7 : Nat) : Int)) ∧ Below w.heap.size w w' := by
  obtain ⟨kk, hk1, hk2, hk3⟩ := cur_nat hr
  obtain ⟨h1, h2, h3, h4, _⟩ := sright_parts hr
  obtain ⟨g1, g2, g3, g4, g5⟩ := sized_le h1
  have HGT := Lib.hid (show gto s 7 = (prev s.cs s.cur.toNat).toNat from rfl)
  first | rw [hk2] at HGT | skip
  obtain ⟨r, c, cs, cur, lk, ins⟩ := s
  simp only at *
  subst hk1
  have HB := Lib.hid (al_any w (.cells #[.int .i64 r, .int .i64 c, .slice ad cs.length k, .int .i64 (kk : Int), .bool lk, .bool ins] 24))
  have HX := Lib.hid (heap_alloc_new w (.cells #[.int .i64 r, .int .i64 c, .slice ad cs.length k, .int .i64 (kk : Int), .bool lk, .bool ins] 24))
  have HI := Lib.hid (h.below HB.out)
  have HP := Lib.hid (show 0 < cs.length by omega)
  have HO := Lib.hid fun W hb => fprev_any (⟨r, c, cs, (kk : Int), lk, ins⟩ : S) ad k kk W (HI.out.below hb) h8 (by simp only; omega) hl (by simp only; omega)
  simp only at HO
  clear h1 h2 h3 h4 g1 g2 g3 g4 g5 h
  go_enter Tryz.func60, Tryz.ntmps60
  go_upto_region 1 with (fail)
  generalize w.alloc _ = w1 at *
  obtain ⟨c0, c1, c2, c3, c4, c5⟩ := cells6 HX.out
  go_wp2_with fail
  with_reducible refine (HO.out _ (Below.refl _ _)).mono ?_
  rintro e w2 ⟨rfl, hb⟩
  have K := kept_hid HB hb
  go_wp2_with fail
  all_goals
    go_ret
    exact ⟨ret_i (by rw [HGT.out]; omega), K.out⟩
set_option maxRecDepth 100000 in
set_option maxHeartbeats 8000000 in
theorem goal_8 (s : S) (ad : Option Addr) (k : Nat) (w : World) (h : CelsIn w (.slice ad s.cs.length k) s.cs) (hr : sright s = true) (h8 : Sound s.cs) (hl : s.cs.length < 10000) :
    Calls Tryz.prog 60 #[.agg #[.int .i64 s.rows, .int .i64 s.cols, .slice ad s.cs.length k, .int .i64 s.cur, .bool s.lk, .bool s.ins], .int .i64 8] w fun e w' => e = .returned (.int .i64 ((gto s 8 : Nat) : Int)) ∧ Below w.heap.size w w' := by
  obtain ⟨kk, hk1, hk2, hk3⟩ := cur_nat hr
  obtain ⟨h1, h2, h3, h4, _⟩ := sright_parts hr
  obtain ⟨g1, g2, g3, g4, g5⟩ := sized_le h1
  have HGT := Lib.hid (show gto s 8 = (next s.cs (s.cs.length - 1)).toNat from rfl)
  first | rw [hk2] at HGT | skip
  obtain ⟨r, c, cs, cur, lk, ins⟩ := s
  simp only at *
  subst hk1
  have HB := Lib.hid (al_any w (.cells #[.int .i64 r, .int .i64 c, .slice ad cs.length k, .int .i64 (kk : Int), .bool lk, .bool ins] 24))
  have HX := Lib.hid (heap_alloc_new w (.cells #[.int .i64 r, .int .i64 c, .slice ad cs.length k, .int .i64 (kk : Int), .bool lk, .bool ins] 24))
  have HI := Lib.hid (h.below HB.out)
  have HP := Lib.hid (show 0 < cs.length by omega)
  have HO := Lib.hid fun W hb => fnext_any (⟨r, c, cs, (kk : Int), lk, ins⟩ : S) ad k (cs.length - 1) W (HI.out.below hb) h8 (by simp only; omega) hl (by simp only; omega)
  simp only at HO
  have HS := Lib.hid fun W => size_any r c ad cs.length k (kk : Int) lk ins W
  have hln : (cs.length : Int) - 1 = ((cs.length - 1 : Nat) : Int) := by omega
  clear h1 h2 h3 h4 g1 g2 g3 g4 g5 h
  go_enter Tryz.func60, Tryz.ntmps60
  go_upto_region 1 with (fail)
  generalize w.alloc _ = w1 at *
  obtain ⟨c0, c1, c2, c3, c4, c5⟩ := cells6 HX.out
  go_wp2_with fail
  with_reducible refine (HS.out _).mono ?_
  rintro e w2 ⟨rfl, hb⟩
  have K2 := kept_hid HB hb
  have X2 := Lib.hid (blk HX.out hb)
  have B2 := Lib.hid hb
  clear c0 c1 c2 c3 c4 c5 hb
  obtain ⟨c0, c1, c2, c3, c4, c5⟩ := cells6 X2.out
  go_wp2_with fail
  with_reducible refine (HO.out _ B2.out).mono ?_
  rintro e w3 ⟨rfl, hb⟩
  have K := kept_hid K2 hb
  go_wp2_with fail
  all_goals
    go_ret
    exact ⟨ret_i (by rw [HGT.out]; omega), K.out⟩
set_option maxRecDepth 100000 in
set_option maxHeartbeats 8000000 in
theorem goal_9 (s : S) (ad : Option Addr) (k : Nat) (w : World) (h : CelsIn w (.slice ad s.cs.length k) s.cs) (hr : sright s = true) (h8 : Sound s.cs) (hl : s.cs.length < 10000) :
    Calls Tryz.prog 60 #[.agg #[.int .i64 s.rows, .int .i64 s.cols, .slice ad s.cs.length k, .int .i64 s.cur, .bool s.lk, .bool s.ins], .int .i64 9] w fun e w' => e = .returned (.int .i64 ((gto s 9 : Nat) : Int)) ∧ Below w.heap.size w w' := by
  obtain ⟨kk, hk1, hk2, hk3⟩ := cur_nat hr
  obtain ⟨h1, h2, h3, h4, _⟩ := sright_parts hr
  obtain ⟨g1, g2, g3, g4, g5⟩ := sized_le h1
  have HGT := Lib.hid (show gto s 9 = firstO s.cs (rowOn s) from rfl)
  first | rw [hk2] at HGT | skip
  obtain ⟨r, c, cs, cur, lk, ins⟩ := s
  simp only at *
  subst hk1
  have HB := Lib.hid (al_any w (.cells #[.int .i64 r, .int .i64 c, .slice ad cs.length k, .int .i64 (kk : Int), .bool lk, .bool ins] 24))
  have HX := Lib.hid (heap_alloc_new w (.cells #[.int .i64 r, .int .i64 c, .slice ad cs.length k, .int .i64 (kk : Int), .bool lk, .bool ins] 24))
  have HI := Lib.hid (h.below HB.out)
  have HP := Lib.hid (show 0 < cs.length by omega)
  have HFL := Lib.hid (show rowOn ⟨r, c, cs, (kk : Int), lk, ins⟩ < cs.length from on_lt (show 0 < cs.length from HP.out) _ _)
  have HRW := Lib.hid fun W => row_any ⟨r, c, cs, (kk : Int), lk, ins⟩ ad k W hr (by simp only; omega)
  have HO := Lib.hid fun W hb => fopen_any ⟨r, c, cs, (kk : Int), lk, ins⟩ ad k (rowOn ⟨r, c, cs, (kk : Int), lk, ins⟩) W (HI.out.below hb) h8 (by simp only; omega) hl HFL.out
  have HN := Lib.hid fun W => on_any r c ad cs.length k (kk : Int) lk ins (rowOn ⟨r, c, cs, (kk : Int), lk, ins⟩ : Int) (-1) W (by omega) (by omega) (IntWalk.i64_in _ (by have := HFL.out; omega)) (IntWalk.i64_in _ (by omega))
  have HNX := Lib.hid fun W hb => fnext_any ⟨r, c, cs, (kk : Int), lk, ins⟩ ad k (on cs.length (rowOn ⟨r, c, cs, (kk : Int), lk, ins⟩ : Int) (-1)) W (HI.out.below hb) h8 (by simp only; omega) hl (on_lt (show 0 < cs.length from HP.out) _ _)
  simp only at HRW HO HNX
  generalize rowOn ⟨r, c, cs, (kk : Int), lk, ins⟩ = f at *
  clear h1 h2 h3 h4 g1 g2 g3 g4 g5 h
  go_enter Tryz.func60, Tryz.ntmps60
  go_upto_region 1 with (fail)
  generalize w.alloc _ = w1 at *
  obtain ⟨c0, c1, c2, c3, c4, c5⟩ := cells6 HX.out
  go_wp2_with fail
  with_reducible refine (HRW.out _).mono ?_
  rintro e w2 ⟨rfl, hb⟩
  have K2 := kept_hid HB hb
  have X2 := Lib.hid (blk HX.out hb)
  have B2 := Lib.hid hb
  clear c0 c1 c2 c3 c4 c5 hb
  obtain ⟨c0, c1, c2, c3, c4, c5⟩ := cells6 X2.out
  cases ho : open_ cs f with
  | true =>
    rw [ho] at HO
    have HGT2 := Lib.hid (show gto ⟨r, c, cs, (kk : Int), lk, ins⟩ 9 = f by rw [HGT.out]; exact firstO_open HFL.out ho)
    clear ho
    go_wp2_with fail
    with_reducible refine (HO.out _ B2.out).mono ?_
    rintro e w3 ⟨rfl, hb⟩
    have K := kept_hid K2 hb
    go_wp2_with fail
    go_ret
    exact ⟨ret_i (by rw [HGT2.out]), K.out⟩
  | false =>
    rw [ho] at HO
    have HGT2 := Lib.hid (show gto ⟨r, c, cs, (kk : Int), lk, ins⟩ 9 = (next cs (on cs.length (f : Int) (-1))).toNat by rw [HGT.out]; exact (firstO_next HFL.out ho).symm)
    clear ho
    generalize on cs.length (f : Int) (-1) = f1 at *
    go_wp2_with fail
    with_reducible refine (HO.out _ B2.out).mono ?_
    rintro e w3 ⟨rfl, hb⟩
    have K3 := kept_hid K2 hb
    have X3 := Lib.hid (blk X2.out hb)
    have B3 := kept_hid B2 hb
    clear c0 c1 c2 c3 c4 c5 hb
    obtain ⟨c0, c1, c2, c3, c4, c5⟩ := cells6 X3.out
    go_wp2_with fail
    with_reducible refine (HN.out _).mono ?_
    rintro e w4 ⟨rfl, hb⟩
    have K4 := kept_hid K3 hb
    have X4 := Lib.hid (blk X3.out hb)
    have B4 := kept_hid B3 hb
    clear c0 c1 c2 c3 c4 c5 hb
    obtain ⟨c0, c1, c2, c3, c4, c5⟩ := cells6 X4.out
    go_wp2_with fail
    with_reducible refine (HNX.out _ B4.out).mono ?_
    rintro e w5 ⟨rfl, hb⟩
    have K := kept_hid K4 hb
    go_wp2_with fail
    all_goals
      go_ret
      exact ⟨ret_i (by rw [HGT2.out]; omega), K.out⟩
theorem goal_any (s : S) (ad : Option Addr) (k : Nat) (kind : Int) (w : World) (h : CelsIn w (.slice ad s.cs.length k) s.cs) (hr : sright s = true) (h8 : Sound s.cs) (hl : s.cs.length < 10000) (hm : isMove kind = true) :
    Calls Tryz.prog 60 #[.agg #[.int .i64 s.rows, .int .i64 s.cols, .slice ad s.cs.length k, .int .i64 s.cur, .bool s.lk, .bool s.ins], .int .i64 kind] w fun e w' => e = .returned (.int .i64 ((gto s kind : Nat) : Int)) ∧ Below w.heap.size w w' := by
  have hk : kind = 2 ∨ kind = 3 ∨ kind = 4 ∨ kind = 5 ∨ kind = 6 ∨ kind = 7 ∨ kind = 8 ∨ kind = 9 := by
    simp only [isMove, Bool.and_eq_true, decide_eq_true_eq] at hm
    omega
  rcases hk with rfl | rfl | rfl | rfl | rfl | rfl | rfl | rfl
  · exact goal_2 s ad k w h hr h8 hl
  · exact goal_3 s ad k w h hr h8 hl
  · exact goal_4 s ad k w h hr h8 hl
  · exact goal_5 s ad k w h hr h8 hl
  · exact goal_6 s ad k w h hr h8 hl
  · exact goal_7 s ad k w h hr h8 hl
  · exact goal_8 s ad k w h hr h8 hl
  · exact goal_9 s ad k w h hr h8 hl
end Mov
end Go.Proofs.YtpgbnnnfeaodmaaGreatDoor
/- The landed code of package move: Do. Written by tools/gen_mov_code.py. -/
namespace Go.Proofs.YtpgbnnnfeaodmaaGreatDoor
open Go.RowKit Sha Six Apd Cut Err Att Grd Fld Scr
set_option linter.unusedVariables false
namespace Mov
set_option maxRecDepth 100000 in
set_option maxHeartbeats 8000000 in
theorem do_any (s : S) (ad : Option Addr) (k : Nat) (kind : Int) (w : World) (h : CelsIn w (.slice ad s.cs.length k) s.cs) (hr : sright s = true) (h8 : Sound s.cs) (hl : s.cs.length < 10000) :
    Calls Tryz.prog 37 #[.agg #[.int .i64 s.rows, .int .i64 s.cols, .slice ad s.cs.length k, .int .i64 s.cur, .bool s.lk, .bool s.ins], .int .i64 kind] w fun e w' => GaveN w w' (mdo s kind).1 (mdo s kind).2 e := by
  have HGL := Lib.hid (gto_lt hr kind)
  obtain ⟨_, _, q3, q4, _⟩ := sright_parts hr
  obtain ⟨r, cc, cs, cur, lk, ins⟩ := s
  simp only at *
  have HP := Lib.hid (show 0 < cs.length by omega)
  have HB := Lib.hid (kept_trans (al_any w (.cells #[.int .i64 r, .int .i64 cc, .slice ad cs.length k, .int .i64 cur, .bool lk, .bool ins] 24)) (al_any _ (.cells #[.int .i64 0, .int .i64 0, .slice none 0 0, .int .i64 0, .bool false, .bool false] 24)))
  have HX := Lib.hid (heap_alloc2_old w (.cells #[.int .i64 r, .int .i64 cc, .slice ad cs.length k, .int .i64 cur, .bool lk, .bool ins] 24) (.cells #[.int .i64 0, .int .i64 0, .slice none 0 0, .int .i64 0, .bool false, .bool false] 24))
  have HZ := Lib.hid (heap_alloc2_new w (.cells #[.int .i64 r, .int .i64 cc, .slice ad cs.length k, .int .i64 cur, .bool lk, .bool ins] 24) (.cells #[.int .i64 0, .int .i64 0, .slice none 0 0, .int .i64 0, .bool false, .bool false] 24))
  have HI := Lib.hid (h.below HB.out)
  have HM := Lib.hid fun W => moves_any kind W
  have HCO := Lib.hid fun W hb => copy_any (⟨r, cc, cs, cur, lk, ins⟩ : S) ad k W (HI.out.below hb) (by simp only; omega)
  simp only [Copied] at HCO
  have HL := Lib.hid hl
  have HR := Lib.hid hr
  have H8 := Lib.hid h8
  clear h hr h8 hl q3 q4
  cases hm : isMove kind with
  | false =>
    have HT := Lib.hid (mdo_1 (s := (⟨r, cc, cs, cur, lk, ins⟩ : S)) hm)
    rw [hm] at HM
    clear hm
    go_enter Tryz.func37, Tryz.ntmps37
    go_upto_region 1 with (fail)
    generalize (w.alloc _).alloc _ = w1 at *
    obtain ⟨c0, c1, c2, c3, c4, c5⟩ := cells6 HX.out
    have SF := Lib.hid (lay_N (t := (⟨r, cc, cs, cur, lk, ins⟩ : S)) HZ.out HI.out HB.out (show w.heap.size ≤ w.heap.size + 1 by omega) HP.out)
    simp only at SF
    obtain ⟨f0, f1, f2, f3, f4, f5⟩ := free6 HZ.out
    obtain ⟨z0, z1, z2, z3, z4, z5⟩ := cells6 HZ.out
    go_wp2_with fail
    with_reducible refine (HM.out _).mono ?_
    rintro e w2 ⟨rfl, rfl⟩
    go_wp2_with fail
    clear z0 z1 z2 z3 z4 z5 f0 f1 f2 f3 f4 f5 c0 c1 c2 c3 c4 c5
    generalize (((((w1.setCell _ _).setCell _ _).setCell _ _).setCell _ _).setCell _ _).setCell _ _ = w9 at *
    rw [HT.out]
    exact bodyPost_ret (v := .tuple #[.agg (six ad k (⟨r, cc, cs, cur, lk, ins⟩ : S)), .iface 48 (.int .i64 1)]) (results_cell_row_tmp rfl _ _ _ (w.heap.size + 1) _ rfl (run_loadVar_row w9 (w.heap.size + 1) 24 24 _ (0, 0) _ SF.out.1 Tryz.underlying24 rfl (by kernel_rfl)) _ rfl) rfl ⟨ad, k, rfl, SF.out.2.1, fun h0 => absurd h0 (Nat.succ_ne_zero _), SF.out.2.2⟩
  | true =>
    rw [hm] at HM
    have HMV := Lib.hid hm
    clear hm
    cases lk with
    | true =>
      have HT := Lib.hid (mdo_7 (s := (⟨r, cc, cs, cur, true, ins⟩ : S)) HMV.out rfl)
      go_enter Tryz.func37, Tryz.ntmps37
      go_upto_region 1 with (fail)
      generalize (w.alloc _).alloc _ = w1 at *
      obtain ⟨c0, c1, c2, c3, c4, c5⟩ := cells6 HX.out
      have SF := Lib.hid (lay_N (t := (⟨r, cc, cs, cur, true, ins⟩ : S)) HZ.out HI.out HB.out (show w.heap.size ≤ w.heap.size + 1 by omega) HP.out)
      simp only at SF
      obtain ⟨f0, f1, f2, f3, f4, f5⟩ := free6 HZ.out
      obtain ⟨z0, z1, z2, z3, z4, z5⟩ := cells6 HZ.out
      go_wp2_with fail
      with_reducible refine (HM.out _).mono ?_
      rintro e w2 ⟨rfl, rfl⟩
      go_wp2_with fail
      clear z0 z1 z2 z3 z4 z5 f0 f1 f2 f3 f4 f5 c0 c1 c2 c3 c4 c5
      generalize (((((w1.setCell _ _).setCell _ _).setCell _ _).setCell _ _).setCell _ _).setCell _ _ = w9 at *
      rw [HT.out]
      exact bodyPost_ret (v := .tuple #[.agg (six ad k (⟨r, cc, cs, cur, true, ins⟩ : S)), .iface 48 (.int .i64 7)]) (results_cell_row_tmp rfl _ _ _ (w.heap.size + 1) _ rfl (run_loadVar_row w9 (w.heap.size + 1) 24 24 _ (0, 0) _ SF.out.1 Tryz.underlying24 rfl (by kernel_rfl)) _ rfl) rfl ⟨ad, k, rfl, SF.out.2.1, fun h0 => absurd h0 (Nat.succ_ne_zero _), SF.out.2.2⟩
    | false =>
      have HT := Lib.hid (mdo_0 (s := (⟨r, cc, cs, cur, false, ins⟩ : S)) HMV.out rfl)
      have HGC := Lib.hid fun (g vc : Nat) W (h : CelsIn W (.slice (some ⟨g, 0, none⟩) cs.length vc) cs) => goal_any (⟨r, cc, cs, cur, false, ins⟩ : S) (some ⟨g, 0, none⟩) vc kind W h HR.out H8.out HL.out HMV.out
      simp only at HGC HT
      generalize gto (⟨r, cc, cs, cur, false, ins⟩ : S) kind = to at *
      go_enter Tryz.func37, Tryz.ntmps37
      go_upto_region 1 with (fail)
      generalize (w.alloc _).alloc _ = w1 at *
      have hzx := there_lt HZ.out
      obtain ⟨c0, c1, c2, c3, c4, c5⟩ := cells6 HX.out
      go_upto_region 5 with (with_reducible refine (HM.out _).mono ?_; rintro e w2 ⟨rfl, rfl⟩)
      go_wp2_with fail
      with_reducible refine (HCO.out _ (Below.refl _ _)).mono ?_
      rintro e w2 ⟨va, vc, rfl, ho, hb⟩
      clear c0 c1 c2 c3 c4 c5
      have X2 := Lib.hid (blk HX.out hb)
      have Z2 := Lib.hid (blk HZ.out hb)
      obtain ⟨g, e1, hg1, B3⟩ := Box.over (w0 := w) (t := (⟨r, cc, cs, cur, false, ins⟩ : S)) X2.out ho HP.out (show w.heap.size < w1.heap.size by omega) (Nat.le_refl _) (kept_trans HB.out hb)
      subst e1
      have H3 := Lib.hid B3
      have SF := over6 w2 w.heap.size _ _ _ _ _ _ _ (.int .i64 r) (.int .i64 cc) (.slice (some ⟨g, 0, none⟩) cs.length vc) (.int .i64 cur) (.bool false) (.bool ins) X2.out
      have Z3 := Lib.hid (blk_g Z2.out SF.2 (by intro e; injection e with e; omega))
      have HG := Lib.hid (show w.heap.size + 1 < g from by omega)
      simp only at H3
      clear hzx ho hb Z2 HX HZ HB HI HCO SF B3
      obtain ⟨c0, c1, c2, c3, c4, c5⟩ := cells6 X2.out
      obtain ⟨f0, f1, f2, f3, f4, f5⟩ := free6 X2.out
      go_upto_region 6 with (fail)
      clear c0 c1 c2 c3 c4 c5 f0 f1 f2 f3 f4 f5 X2
      generalize (((((w2.setCell _ _).setCell _ _).setCell _ _).setCell _ _).setCell _ _).setCell _ _ = w3 at *
      obtain ⟨c0, c1, c2, c3, c4, c5⟩ := H3.out.cells
      go_wp2_with fail
      with_reducible refine (HGC.out g vc _ H3.out.own.to).mono ?_
      rintro e w4 ⟨rfl, hb⟩
      clear c0 c1 c2 c3 c4 c5
      have H4 := Lib.hid (H3.out.below hb)
      have Z4 := Lib.hid (blk Z3.out hb)
      have H5 := Lib.hid (H4.out.cur (to : Int))
      have Z5 := Lib.hid (blk_g Z4.out (gsetCell w4 w.heap.size 3 (.int .i64 (to : Int))) (by intro e; injection e with e; omega))
      simp only at H5
      clear H3 Z3 hb
      obtain ⟨c0, c1, c2, c3, c4, c5⟩ := H4.out.cells
      obtain ⟨f0, f1, f2, f3, f4, f5⟩ := H4.out.free
      go_upto_region 7 with (fail)
      clear c0 c1 c2 c3 c4 c5 f0 f1 f2 f3 f4 f5 H4 Z4
      generalize w4.setCell _ _ = w5 at *
      obtain ⟨c0, c1, c2, c3, c4, c5⟩ := H5.out.cells
      obtain ⟨z0, z1, z2, z3, z4, z5⟩ := cells6 Z5.out
      obtain ⟨f0, f1, f2, f3, f4, f5⟩ := free6 Z5.out
      have SF := Lib.hid (H5.out.gave Z5.out (by have := HG.out; omega) (by omega))
      simp only at SF
      go_wp2_with fail
      clear z0 z1 z2 z3 z4 z5 f0 f1 f2 f3 f4 f5 c0 c1 c2 c3 c4 c5
      generalize (((((w5.setCell _ _).setCell _ _).setCell _ _).setCell _ _).setCell _ _).setCell _ _ = w9 at *
      rw [HT.out]
      exact bodyPost_ret (v := .tuple #[.agg (six (some ⟨g, 0, none⟩) vc (⟨r, cc, cs, (to : Int), false, ins⟩ : S)), .nilIface]) (results_cell_row_tmp rfl _ _ _ (w.heap.size + 1) _ rfl (run_loadVar_row w9 (w.heap.size + 1) 24 24 _ (0, 0) _ SF.out.1 Tryz.underlying24 rfl (by kernel_rfl)) _ rfl) rfl ⟨(some ⟨g, 0, none⟩), vc, rfl, SF.out.2.1.to, fun _ => SF.out.2.1, SF.out.2.2⟩
end Mov
end Go.Proofs.YtpgbnnnfeaodmaaGreatDoor
/- A move on a screen that isn't locked, in the form of the laws' walks. -/
namespace Go.Proofs.YtpgbnnnfeaodmaaGreatDoor
open Go.RowKit Sha Six Apd Cut Err Att Grd Fld Scr
set_option linter.unusedVariables false
namespace Mov
theorem do_ok (r c : Int) (cs : List C) (ins : Bool) (p : Nat) (kind : Int) (ad : Option Addr) (k : Nat) (w : World) (h : CelsIn w (.slice ad cs.length k) cs) (hr : sright ⟨r, c, cs, (p : Int), false, ins⟩ = true) (h8 : Sound cs) (hl : cs.length < 10000) (hm : isMove kind = true) :
    Calls Tryz.prog 37 #[.agg #[.int .i64 r, .int .i64 c, .slice ad cs.length k, .int .i64 (p : Int), .bool false, .bool ins], .int .i64 kind] w fun e w' => ∃ va vc, e = .returned (.tuple #[.agg #[.int .i64 r, .int .i64 c, .slice va cs.length vc, .int .i64 ((gto ⟨r, c, cs, (p : Int), false, ins⟩ kind : Nat) : Int), .bool false, .bool ins], .nilIface]) ∧ OwnCels w' w.heap.size (.slice va cs.length vc) cs ∧ Below w.heap.size w w' := by
  have := do_any ⟨r, c, cs, (p : Int), false, ins⟩ ad k kind w h hr h8 hl
  rw [mdo_0 hm rfl] at this
  exact this.mono fun e w' ⟨va, vc, h1, _, h3, h4⟩ => ⟨va, vc, h1, h3 rfl, h4⟩
end Mov
end Go.Proofs.YtpgbnnnfeaodmaaGreatDoor
