/- awake of the laws of field. -/
import Derived.Test.YtoacookbfpcncaaFldCode
namespace Go.Proofs.Ytoacookbfpcncaa
open Go.RowKit Sha Six Apd Cut Err Att Grd
set_option linter.unusedVariables false
namespace Fld
theorem lit_cels (w : World) (cs : List C) (n : Nat) (hn : n = cs.length) (hl : cs.length < 1000000) : CelsIn (w.alloc (.cells (crow cs).toArray 39)) (.slice (some ⟨w.heap.size, 0, none⟩) n n) cs := by
  subst hn
  refine OwnCels.to (base := w.heap.size) ?_
  have := World.ownsRow_lit (base := w.heap.size) (e := 39) (size := 6) w (crow cs).toArray cs.length (Nat.le_refl _) (by unfold maxLen; omega) (by simp [crow_len])
  unfold OwnCels
  simpa using this
def aw1 : List C := [⟨true, true, false, 0, false, 0⟩, noC, ⟨true, false, false, 0, false, 0⟩, noC]
def aw2 : List C := [noC]
theorem aw1_sound : Sound aw1 := by intro o ho; simp [aw1] at ho; rcases ho with rfl | rfl | rfl | rfl <;> decide
theorem aw2_sound : Sound aw2 := by intro o ho; simp [aw2] at ho; subst ho; decide
set_option maxRecDepth 100000 in
set_option maxHeartbeats 8000000 in
theorem awake_any (w : World) : Calls Try.prog 9 #[] w fun e w' => e = .returned (.bool true) ∧ Below w.heap.size w w' := by
  have HA1 := al_any w (.cells #[.bool true, .bool true, .bool false, .int .i64 0, .bool false, .int .u8 0, .bool false, .bool false, .bool false, .int .i64 0, .bool false, .int .u8 0, .bool true, .bool false, .bool false, .int .i64 0, .bool false, .int .u8 0, .bool false, .bool false, .bool false, .int .i64 0, .bool false, .int .u8 0] 39)
  have HC1 := lit_cels w aw1 4 rfl (by decide)
  rw [show (crow aw1).toArray = #[.bool true, .bool true, .bool false, .int .i64 0, .bool false, .int .u8 0, .bool false, .bool false, .bool false, .int .i64 0, .bool false, .int .u8 0, .bool true, .bool false, .bool false, .int .i64 0, .bool false, .int .u8 0, .bool false, .bool false, .bool false, .int .i64 0, .bool false, .int .u8 0] from rfl] at HC1
  replace HA1 := Lib.hid HA1
  replace HC1 := Lib.hid HC1
  go_enter Try.func9, Try.ntmps9
  go_upto_region 2 with (fail)
  have HY := al_any (w.alloc (.cells #[.bool true, .bool true, .bool false, .int .i64 0, .bool false, .int .u8 0, .bool false, .bool false, .bool false, .int .i64 0, .bool false, .int .u8 0, .bool true, .bool false, .bool false, .int .i64 0, .bool false, .int .u8 0, .bool false, .bool false, .bool false, .int .i64 0, .bool false, .int .u8 0] 39)) (.cells #[.int .i64 1, .int .i64 4, .slice (some ⟨w.heap.size, 0, none⟩) 4 4, .int .i64 0, .bool false, .bool false] 24)
  have B1 := heap_alloc_new (w.alloc (.cells #[.bool true, .bool true, .bool false, .int .i64 0, .bool false, .int .u8 0, .bool false, .bool false, .bool false, .int .i64 0, .bool false, .int .u8 0, .bool true, .bool false, .bool false, .int .i64 0, .bool false, .int .u8 0, .bool false, .bool false, .bool false, .int .i64 0, .bool false, .int .u8 0] 39)) (.cells #[.int .i64 1, .int .i64 4, .slice (some ⟨w.heap.size, 0, none⟩) 4 4, .int .i64 0, .bool false, .bool false] 24)
  rw [World.size_alloc] at B1
  replace B1 := Lib.hid B1
  have K2 := Lib.hid (kept_trans HA1.out HY)
  have C2 := Lib.hid (HC1.out.below HY)
  clear HY HA1 HC1
  generalize hw2 : (w.alloc (.cells #[.bool true, .bool true, .bool false, .int .i64 0, .bool false, .int .u8 0, .bool false, .bool false, .bool false, .int .i64 0, .bool false, .int .u8 0, .bool true, .bool false, .bool false, .int .i64 0, .bool false, .int .u8 0, .bool false, .bool false, .bool false, .int .i64 0, .bool false, .int .u8 0] 39)).alloc (.cells #[.int .i64 1, .int .i64 4, .slice (some ⟨w.heap.size, 0, none⟩) 4 4, .int .i64 0, .bool false, .bool false] 24) = w2 at *
  generalize hg1 : w.heap.size = g1 at B1 C2
  clear hw2 hg1
  have HA2 := al_any w2 (.cells #[.bool false, .bool false, .bool false, .int .i64 0, .bool false, .int .u8 0] 39)
  have HD := lit_cels w2 aw2 1 rfl (by decide)
  rw [show (crow aw2).toArray = #[.bool false, .bool false, .bool false, .int .i64 0, .bool false, .int .u8 0] from rfl] at HD
  have HY := al_any (w2.alloc (.cells #[.bool false, .bool false, .bool false, .int .i64 0, .bool false, .int .u8 0] 39)) (.cells #[.int .i64 1, .int .i64 1, .slice (some ⟨w2.heap.size, 0, none⟩) 1 1, .int .i64 0, .bool false, .bool false] 24)
  have B2 := heap_alloc_new (w2.alloc (.cells #[.bool false, .bool false, .bool false, .int .i64 0, .bool false, .int .u8 0] 39)) (.cells #[.int .i64 1, .int .i64 1, .slice (some ⟨w2.heap.size, 0, none⟩) 1 1, .int .i64 0, .bool false, .bool false] 24)
  rw [World.size_alloc] at B2
  replace B2 := Lib.hid B2
  have K4 := kept_hid K2 (kept_trans HA2 HY)
  have C4 := Lib.hid (C2.out.below (kept_trans HA2 HY))
  have D4 := Lib.hid (HD.below HY)
  have B14 := Lib.hid (blk B1.out (kept_trans HA2 HY))
  clear HA2 HD HY K2 C2 B1
  go_upto_region 3 with (fail)
  generalize w2.heap.size = g2 at *
  generalize (w2.alloc _).alloc _ = w5 at *
  have Q1 := fun W (hb : Below w5.heap.size w5 W) => fcells_any ⟨1, 4, aw1, 0, false, false⟩ (some ⟨g1, 0, none⟩) 4 1 W (C4.out.below hb) aw1_sound (by decide) (by decide) (by decide)
  have Q2 := fun W (hb : Below w5.heap.size w5 W) => ffmt_any ⟨1, 4, aw1, 0, false, false⟩ (some ⟨g1, 0, none⟩) 4 W (C4.out.below hb) aw1_sound (by decide) (by decide)
  simp only [show fmt aw1 = true by decide +kernel] at Q2
  have Q3 := fun W (hb : Below w5.heap.size w5 W) => ffmt_any ⟨1, 1, aw2, 0, false, false⟩ (some ⟨g2, 0, none⟩) 1 W (D4.out.below hb) aw2_sound (by decide) (by decide)
  simp only [show fmt aw2 = false by decide +kernel] at Q3
  have Q4 := fun W (hb : Below w5.heap.size w5 W) => fbegin_any ⟨1, 4, aw1, 0, false, false⟩ (some ⟨g1, 0, none⟩) 4 3 W (C4.out.below hb) aw1_sound (by decide) (by decide) (by decide)
  simp only [show begin_ aw1 3 = 2 by decide +kernel] at Q4
  have Q5 := fun W (hb : Below w5.heap.size w5 W) => fopen_any ⟨1, 4, aw1, 0, false, false⟩ (some ⟨g1, 0, none⟩) 4 3 W (C4.out.below hb) aw1_sound (by decide) (by decide) (by decide)
  simp only [show open_ aw1 3 = true by decide +kernel] at Q5
  have Q6 := fun W (hb : Below w5.heap.size w5 W) => fopen_any ⟨1, 4, aw1, 0, false, false⟩ (some ⟨g1, 0, none⟩) 4 1 W (C4.out.below hb) aw1_sound (by decide) (by decide) (by decide)
  simp only [show open_ aw1 1 = false by decide +kernel] at Q6
  have Q7 := fun W (hb : Below w5.heap.size w5 W) => fnext_any ⟨1, 4, aw1, 0, false, false⟩ (some ⟨g1, 0, none⟩) 4 0 W (C4.out.below hb) aw1_sound (by decide) (by decide) (by decide)
  simp only [show next aw1 0 = 3 by decide +kernel] at Q7
  have Q8 := fun W (hb : Below w5.heap.size w5 W) => fprev_any ⟨1, 4, aw1, 0, false, false⟩ (some ⟨g1, 0, none⟩) 4 3 W (C4.out.below hb) aw1_sound (by decide) (by decide) (by decide)
  simp only [show prev aw1 3 = 3 by decide +kernel] at Q8
  have Q9 := fun W (hb : Below w5.heap.size w5 W) => fnext_any ⟨1, 1, aw2, 0, false, false⟩ (some ⟨g2, 0, none⟩) 1 0 W (D4.out.below hb) aw2_sound (by decide) (by decide) (by decide)
  simp only [show next aw2 0 = -1 by decide +kernel] at Q9
  have Q10 := fun W (hb : Below w5.heap.size w5 W) => fbegins_any ⟨1, 4, aw1, 0, false, false⟩ (some ⟨g1, 0, none⟩) 4 W (C4.out.below hb) aw1_sound (by decide) (by decide)
  simp only [show cells aw1 1 = [1] by decide +kernel] at Q1
  simp only [show begins aw1 = [0, 2] by decide +kernel] at Q10
  simp only [show aw1.length = 4 from rfl, show aw2.length = 1 from rfl, show ((3 : Nat) : Int) = 3 from rfl, show ((1 : Nat) : Int) = 1 from rfl, show ((0 : Nat) : Int) = 0 from rfl] at Q1 Q2 Q3 Q4 Q5 Q6 Q7 Q8 Q9 Q10
  replace Q1 := Lib.hid Q1
  replace Q2 := Lib.hid Q2
  replace Q3 := Lib.hid Q3
  replace Q4 := Lib.hid Q4
  replace Q5 := Lib.hid Q5
  replace Q6 := Lib.hid Q6
  replace Q7 := Lib.hid Q7
  replace Q8 := Lib.hid Q8
  replace Q9 := Lib.hid Q9
  replace Q10 := Lib.hid Q10
  have K5 := Lib.hid (Below.refl w5.heap.size w5)
  clear C4 D4
  obtain ⟨c0, c1, c2, c3, c4, c5⟩ := cells6 (blk B14.out K5.out)
  obtain ⟨d0, d1, d2, d3, d4, d5⟩ := cells6 (blk B2.out K5.out)
  go_wp2_with fail
  with_reducible refine (Q1.out _ K5.out).mono ?_
  rintro e w6 ⟨v, rfl, ho, hb⟩
  clear c0 c1 c2 c3 c4 c5 d0 d1 d2 d3 d4 d5
  have K6 := kept_hid K5 hb
  obtain ⟨va, vc, rfl⟩ := ho.form
  obtain ⟨gl, hva, _, hgl, hcell, _⟩ := OwnInts.cell ho (i := 0) (by decide)
  subst hva
  have HCL := Lib.hid hcell
  have HGL := Lib.hid hgl
  clear ho hb hcell hgl K5 Q1
  obtain ⟨c0, c1, c2, c3, c4, c5⟩ := cells6 (blk B14.out K6.out)
  obtain ⟨d0, d1, d2, d3, d4, d5⟩ := cells6 (blk B2.out K6.out)
  go_wp2_with fail
  with_reducible refine (Q2.out _ K6.out).mono ?_
  rintro e w7 ⟨rfl, hb⟩
  clear c0 c1 c2 c3 c4 c5 d0 d1 d2 d3 d4 d5
  have K7 := kept_hid K6 hb
  have KC7 := Lib.hid (show w7.cell? ⟨gl, 0 + 0, none⟩ = w6.cell? ⟨gl, 0 + 0, none⟩ from hb.cell (p := ⟨gl, 0 + 0, none⟩) HGL.out)
  clear hb K6 Q2
  obtain ⟨c0, c1, c2, c3, c4, c5⟩ := cells6 (blk B14.out K7.out)
  obtain ⟨d0, d1, d2, d3, d4, d5⟩ := cells6 (blk B2.out K7.out)
  go_wp2_with fail
  with_reducible refine (Q3.out _ K7.out).mono ?_
  rintro e w8 ⟨rfl, hb⟩
  clear c0 c1 c2 c3 c4 c5 d0 d1 d2 d3 d4 d5
  have K8 := kept_hid K7 hb
  have KC8 := Lib.hid (show w8.cell? ⟨gl, 0 + 0, none⟩ = w6.cell? ⟨gl, 0 + 0, none⟩ from ((hb.cell (p := ⟨gl, 0 + 0, none⟩) (cell_lt (KC7.out.trans HCL.out))).trans KC7.out))
  clear hb K7 Q3
  obtain ⟨c0, c1, c2, c3, c4, c5⟩ := cells6 (blk B14.out K8.out)
  obtain ⟨d0, d1, d2, d3, d4, d5⟩ := cells6 (blk B2.out K8.out)
  go_wp2_with fail
  with_reducible refine (Q4.out _ K8.out).mono ?_
  rintro e w9 ⟨rfl, hb⟩
  clear c0 c1 c2 c3 c4 c5 d0 d1 d2 d3 d4 d5
  have K9 := kept_hid K8 hb
  have KC9 := Lib.hid (show w9.cell? ⟨gl, 0 + 0, none⟩ = w6.cell? ⟨gl, 0 + 0, none⟩ from ((hb.cell (p := ⟨gl, 0 + 0, none⟩) (cell_lt (KC8.out.trans HCL.out))).trans KC8.out))
  clear hb K8 Q4
  obtain ⟨c0, c1, c2, c3, c4, c5⟩ := cells6 (blk B14.out K9.out)
  obtain ⟨d0, d1, d2, d3, d4, d5⟩ := cells6 (blk B2.out K9.out)
  have hcl := (KC9.out).trans HCL.out
  rw [show 0 + 0 = 0 from rfl] at hcl
  go_wp2_with fail
  with_reducible refine (Q5.out _ K9.out).mono ?_
  rintro e w10 ⟨rfl, hb⟩
  clear c0 c1 c2 c3 c4 c5 d0 d1 d2 d3 d4 d5
  clear hcl
  have K10 := kept_hid K9 hb
  clear hb K9 Q5
  obtain ⟨c0, c1, c2, c3, c4, c5⟩ := cells6 (blk B14.out K10.out)
  obtain ⟨d0, d1, d2, d3, d4, d5⟩ := cells6 (blk B2.out K10.out)
  go_wp2_with fail
  with_reducible refine (Q6.out _ K10.out).mono ?_
  rintro e w11 ⟨rfl, hb⟩
  clear c0 c1 c2 c3 c4 c5 d0 d1 d2 d3 d4 d5
  have K11 := kept_hid K10 hb
  clear hb K10 Q6
  obtain ⟨c0, c1, c2, c3, c4, c5⟩ := cells6 (blk B14.out K11.out)
  obtain ⟨d0, d1, d2, d3, d4, d5⟩ := cells6 (blk B2.out K11.out)
  go_wp2_with fail
  with_reducible refine (Q7.out _ K11.out).mono ?_
  rintro e w12 ⟨rfl, hb⟩
  clear c0 c1 c2 c3 c4 c5 d0 d1 d2 d3 d4 d5
  have K12 := kept_hid K11 hb
  clear hb K11 Q7
  obtain ⟨c0, c1, c2, c3, c4, c5⟩ := cells6 (blk B14.out K12.out)
  obtain ⟨d0, d1, d2, d3, d4, d5⟩ := cells6 (blk B2.out K12.out)
  go_wp2_with fail
  with_reducible refine (Q8.out _ K12.out).mono ?_
  rintro e w13 ⟨rfl, hb⟩
  clear c0 c1 c2 c3 c4 c5 d0 d1 d2 d3 d4 d5
  have K13 := kept_hid K12 hb
  clear hb K12 Q8
  obtain ⟨c0, c1, c2, c3, c4, c5⟩ := cells6 (blk B14.out K13.out)
  obtain ⟨d0, d1, d2, d3, d4, d5⟩ := cells6 (blk B2.out K13.out)
  go_wp2_with fail
  with_reducible refine (Q9.out _ K13.out).mono ?_
  rintro e w14 ⟨rfl, hb⟩
  clear c0 c1 c2 c3 c4 c5 d0 d1 d2 d3 d4 d5
  have K14 := kept_hid K13 hb
  clear hb K13 Q9
  obtain ⟨c0, c1, c2, c3, c4, c5⟩ := cells6 (blk B14.out K14.out)
  obtain ⟨d0, d1, d2, d3, d4, d5⟩ := cells6 (blk B2.out K14.out)
  go_wp2_with fail
  with_reducible refine (Q10.out _ K14.out).mono ?_
  rintro e w15 ⟨v2, rfl, ho, hb⟩
  clear c0 c1 c2 c3 c4 c5 d0 d1 d2 d3 d4 d5
  obtain ⟨va2, vc2, rfl⟩ := ho.form
  have KZ := kept_hid K4 (kept_trans K14.out hb)
  clear ho hb
  go_wp2_with fail
  go_ret
  exact ⟨rfl, KZ.out⟩
end Fld
end Go.Proofs.Ytoacookbfpcncaa
