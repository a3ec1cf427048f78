/- InputApart returns true. Written by tools/gen_inp_laws.py. -/
import Derived.Test.YthjocmcafoifbaaDoorInpTells
import Derived.Test.YthjocmcafoifbaaDoorInpRsame
import Derived.Deep.RegionHeld3
namespace Go.Proofs.YthjocmcafoifbaaDoor
open Go.RowKit Sha Cut Err Six Att Byt Apd
namespace Inp
set_option maxRecDepth 100000 in
set_option maxHeartbeats 4000000 in
theorem apart_many1 (ka kb : Nat) (ca cb : Int) (a1 : Option Addr) (n1 c1 : Nat) (a2 : Option Addr) (n2 c2 : Nat) (xs : List F) (nn : Int) (w : World) (h1 : FldsIn w 0 (.slice a1 n1 c1) xs) (m1 : n1 ≤ maxLen) (f1 : fewB xs = false) (hgl : Handle w) :
    Calls Tryd.prog 5 #[.agg #[.int .u8 (ka : Int), .int .i64 ca, .slice a1 n1 c1], .agg #[.int .u8 (kb : Int), .int .i64 cb, .slice a2 n2 c2], .int .u16 nn] w fun e w' => e = .returned (.bool true) ∧ Below w.heap.size w w' := by
  have HF1 := fun W hb => few_any ⟨ka, ca, xs⟩ a1 n1 c1 W (h1.below hb) m1
  simp only [f1] at HF1
  replace HF1 := Lib.hid HF1
  have HH := Lib.hid hgl
  have HA := Lib.hid (al2 w (.cells #[.int .u8 (ka : Int), .int .i64 ca, .slice a1 n1 c1] 27) (.cells #[.int .u8 (kb : Int), .int .i64 cb, .slice a2 n2 c2] 27))
  have HG := Lib.hid (heap_alloc2_old w (.cells #[.int .u8 (ka : Int), .int .i64 ca, .slice a1 n1 c1] 27) (.cells #[.int .u8 (kb : Int), .int .i64 cb, .slice a2 n2 c2] 27))
  have HK := Lib.hid (heap_alloc2_new w (.cells #[.int .u8 (ka : Int), .int .i64 ca, .slice a1 n1 c1] 27) (.cells #[.int .u8 (kb : Int), .int .i64 cb, .slice a2 n2 c2] 27))
  have HLT := Lib.hid (show w.heap.size ≠ w.heap.size + 1 by omega)
  clear h1 m1 f1 hgl
  go_enter Tryd.func5, Tryd.ntmps5
  go_wp2_with fail
  generalize (w.alloc (.cells #[.int .u8 (ka : Int), .int .i64 ca, .slice a1 n1 c1] 27)).alloc (.cells #[.int .u8 (kb : Int), .int .i64 cb, .slice a2 n2 c2] 27) = w1 at *
  with_reducible refine (awake_any _ (hand_of HH.out HA.out)).mono ?_
  rintro e w2 ⟨rfl, hb⟩
  have K2 := kept_hid HA hb
  have G2 := Lib.hid (blk HG.out hb)
  have J2 := Lib.hid (blk HK.out hb)
  clear hb HA HG HK
  obtain ⟨c0, c1', c2'⟩ := cells3 G2.out
  go_wp2_with fail
  clear c0 c1' c2'
  with_reducible refine (HF1.out _ K2.out).mono ?_
  rintro e w3 ⟨rfl, hb⟩
  have K3 := kept_hid K2 hb
  have G3 := Lib.hid (blk G2.out hb)
  have J3 := Lib.hid (blk J2.out hb)
  clear hb K2 HF1 G2 J2
  go_wp2_with fail
  with_reducible refine (awake_any _ (hand_of HH.out K3.out)).mono ?_
  rintro e wz ⟨rfl, hb⟩
  have Kz := kept_hid K3 hb
  clear hb
  go_wp2_with fail
  go_ret
  exact ⟨rfl, Kz.out⟩
set_option maxRecDepth 100000 in
set_option maxHeartbeats 4000000 in
theorem apart_many2 (ka kb : Nat) (ca cb : Int) (a1 : Option Addr) (n1 c1 : Nat) (a2 : Option Addr) (n2 c2 : Nat) (xs ys : List F) (nn : Int) (w : World) (h1 : FldsIn w 0 (.slice a1 n1 c1) xs) (h2 : FldsIn w 0 (.slice a2 n2 c2) ys) (m1 : n1 ≤ maxLen) (m2 : n2 ≤ maxLen) (f1 : fewB xs = true) (f2 : fewB ys = false) (hgl : Handle w) :
    Calls Tryd.prog 5 #[.agg #[.int .u8 (ka : Int), .int .i64 ca, .slice a1 n1 c1], .agg #[.int .u8 (kb : Int), .int .i64 cb, .slice a2 n2 c2], .int .u16 nn] w fun e w' => e = .returned (.bool true) ∧ Below w.heap.size w w' := by
  have HF1 := fun W hb => few_any ⟨ka, ca, xs⟩ a1 n1 c1 W (h1.below hb) m1
  simp only [f1] at HF1
  replace HF1 := Lib.hid HF1
  have HF2 := fun W hb => few_any ⟨kb, cb, ys⟩ a2 n2 c2 W (h2.below hb) m2
  simp only [f2] at HF2
  replace HF2 := Lib.hid HF2
  have HH := Lib.hid hgl
  have HA := Lib.hid (al2 w (.cells #[.int .u8 (ka : Int), .int .i64 ca, .slice a1 n1 c1] 27) (.cells #[.int .u8 (kb : Int), .int .i64 cb, .slice a2 n2 c2] 27))
  have HG := Lib.hid (heap_alloc2_old w (.cells #[.int .u8 (ka : Int), .int .i64 ca, .slice a1 n1 c1] 27) (.cells #[.int .u8 (kb : Int), .int .i64 cb, .slice a2 n2 c2] 27))
  have HK := Lib.hid (heap_alloc2_new w (.cells #[.int .u8 (ka : Int), .int .i64 ca, .slice a1 n1 c1] 27) (.cells #[.int .u8 (kb : Int), .int .i64 cb, .slice a2 n2 c2] 27))
  have HLT := Lib.hid (show w.heap.size ≠ w.heap.size + 1 by omega)
  clear h1 m1 f1 h2 m2 f2 hgl
  go_enter Tryd.func5, Tryd.ntmps5
  go_wp2_with fail
  generalize (w.alloc (.cells #[.int .u8 (ka : Int), .int .i64 ca, .slice a1 n1 c1] 27)).alloc (.cells #[.int .u8 (kb : Int), .int .i64 cb, .slice a2 n2 c2] 27) = w1 at *
  with_reducible refine (awake_any _ (hand_of HH.out HA.out)).mono ?_
  rintro e w2 ⟨rfl, hb⟩
  have K2 := kept_hid HA hb
  have G2 := Lib.hid (blk HG.out hb)
  have J2 := Lib.hid (blk HK.out hb)
  clear hb HA HG HK
  obtain ⟨c0, c1', c2'⟩ := cells3 G2.out
  go_wp2_with fail
  clear c0 c1' c2'
  with_reducible refine (HF1.out _ K2.out).mono ?_
  rintro e w3 ⟨rfl, hb⟩
  have K3 := kept_hid K2 hb
  have G3 := Lib.hid (blk G2.out hb)
  have J3 := Lib.hid (blk J2.out hb)
  clear hb K2 HF1 G2 J2
  obtain ⟨c0, c1', c2'⟩ := cells3 J3.out
  go_wp2_with fail
  clear c0 c1' c2'
  with_reducible refine (HF2.out _ K3.out).mono ?_
  rintro e w4 ⟨rfl, hb⟩
  have K4 := kept_hid K3 hb
  have G4 := Lib.hid (blk G3.out hb)
  have J4 := Lib.hid (blk J3.out hb)
  clear hb K3 HF2 G3 J3
  go_wp2_with fail
  with_reducible refine (awake_any _ (hand_of HH.out K4.out)).mono ?_
  rintro e wz ⟨rfl, hb⟩
  have Kz := kept_hid K4 hb
  clear hb
  go_wp2_with fail
  go_ret
  exact ⟨rfl, Kz.out⟩
theorem both3 {w1 : World} {B D : Nat} {t u : TypeId} {a0 a1 a2 b0 b1 b2 : Value} (k : w1.heap[B]? = some (.cells #[a0, a1, a2] t (0, 0))) (l : w1.heap[D]? = some (.cells #[b0, b1, b2] u (0, 0))) : ∀ w', Below w1.heap.size w1 w' →
    Below w1.heap.size w1 w' ∧ w'.cell? ⟨B, 0, none⟩ = some a0 ∧ w'.cell? ⟨B, 1, none⟩ = some a1 ∧ w'.cell? ⟨B, 2, none⟩ = some a2 ∧ w'.cell? ⟨D, 0, none⟩ = some b0 ∧ w'.cell? ⟨D, 1, none⟩ = some b1 ∧ w'.cell? ⟨D, 2, none⟩ = some b2 := fun _ h => by
  obtain ⟨h0, h1, h2⟩ := cells3 (blk k h)
  exact ⟨h, h0, h1, h2, cells3 (blk l h)⟩
set_option maxRecDepth 100000 in
set_option maxHeartbeats 16000000 in
theorem apart_few (ka kb : Nat) (ca cb : Int) (a1 : Option Addr) (n1 c1 : Nat) (a2 : Option Addr) (n2 c2 : Nat) (xs ys : List F) (nn z : Nat) (w : World) (h1 : FldsIn w 0 (.slice a1 n1 c1) xs) (h2 : FldsIn w 0 (.slice a2 n2 c2) ys) (m1 : n1 ≤ maxLen) (m2 : n2 ≤ maxLen) (f1 : fewB xs = true) (f2 : fewB ys = true) (s1 : Sound xs) (s2 : Sound ys) (hka : ka < 256) (hkb : kb < 256) (l1 : xs.length ≤ 60) (l2 : ys.length ≤ 60) (hnn : nn < 65536) (hz : 1 + nn % 16383 = z) (hgl : Handle w) :
    Calls Tryd.prog 5 #[.agg #[.int .u8 (ka : Int), .int .i64 ca, .slice a1 n1 c1], .agg #[.int .u8 (kb : Int), .int .i64 cb, .slice a2 n2 c2], .int .u16 (nn : Int)] w fun e w' => e = .returned (.bool true) ∧ Below w.heap.size w w' := by
  have hz1 : 1 ≤ z := by omega
  have hz2 : z ≤ 16383 := by omega
  have HZ := Lib.hid fun W => size_any nn W hnn
  rw [hz] at HZ
  have HF1 := fun W hb => few_any ⟨ka, ca, xs⟩ a1 n1 c1 W (h1.below hb) m1
  simp only [f1] at HF1
  replace HF1 := Lib.hid HF1
  have HF2 := fun W hb => few_any ⟨kb, cb, ys⟩ a2 n2 c2 W (h2.below hb) m2
  simp only [f2] at HF2
  replace HF2 := Lib.hid HF2
  have HP := fun W hb => write_any ⟨ka, ca, xs⟩ a1 n1 c1 z W hka (h1.below hb) s1 (by simp only; omega) hz1 hz2 _ rfl
  have HQ := fun W hb => write_any ⟨kb, cb, ys⟩ a2 n2 c2 z W hkb (h2.below hb) s2 (by simp only; omega) hz1 hz2 _ rfl
  have HS1 := fun W hb hb' => isame_any ⟨ka, ca, xs⟩ ⟨kb, cb, ys⟩ a1 n1 c1 a2 n2 c2 W (h1.below hb) (h2.below hb') s1 s2 (by simp only; omega)
  have HS2 := fun W hb hb' => risame_any ⟨ka, ca, xs⟩ ⟨kb, cb, ys⟩ a1 n1 c1 a2 n2 c2 W (h1.below hb) (h2.below hb') s1 s2 (by simp only; omega)
  have HI := Lib.hid fun e e' => iwrite_inj (c := ⟨ka, ca, xs⟩) (d := ⟨kb, cb, ys⟩) (z := z) hz2 e e'
  have HE := Lib.hid (isame_iff ⟨ka, ca, xs⟩ ⟨kb, cb, ys⟩)
  have b8 := iwrite_bytes (x := ⟨ka, ca, xs⟩) (z := z) hz2 hka s1
  have d8 := iwrite_bytes (x := ⟨kb, cb, ys⟩) (z := z) hz2 hkb s2
  have HB8 := Lib.hid b8
  have HD8 := Lib.hid d8
  simp only at HP HQ HS1 HS2
  generalize isame ⟨ka, ca, xs⟩ ⟨kb, cb, ys⟩ = q at *
  generalize iwrite ⟨ka, ca, xs⟩ z = R at *
  generalize iwrite ⟨kb, cb, ys⟩ z = T at *
  obtain ⟨bs, bw, bp⟩ := R
  obtain ⟨ds, dw, dp⟩ := T
  simp only at HP HQ HI HB8 HD8
  replace HP := Lib.hid HP
  replace HQ := Lib.hid HQ
  replace HS1 := Lib.hid HS1
  replace HS2 := Lib.hid HS2
  have HH := Lib.hid hgl
  have HA := Lib.hid (al2 w (.cells #[.int .u8 (ka : Int), .int .i64 ca, .slice a1 n1 c1] 27) (.cells #[.int .u8 (kb : Int), .int .i64 cb, .slice a2 n2 c2] 27))
  have HG := Lib.hid (heap_alloc2_old w (.cells #[.int .u8 (ka : Int), .int .i64 ca, .slice a1 n1 c1] 27) (.cells #[.int .u8 (kb : Int), .int .i64 cb, .slice a2 n2 c2] 27))
  have HK := Lib.hid (heap_alloc2_new w (.cells #[.int .u8 (ka : Int), .int .i64 ca, .slice a1 n1 c1] 27) (.cells #[.int .u8 (kb : Int), .int .i64 cb, .slice a2 n2 c2] 27))
  have HLT := Lib.hid (show w.heap.size ≠ w.heap.size + 1 by omega)
  clear h1 m1 f1 h2 m2 f2 hgl s1 s2 hka hkb l1 l2 hnn hz hz1 hz2 b8 d8
  go_enter Tryd.func5, Tryd.ntmps5
  go_wp2_with fail
  generalize (w.alloc (.cells #[.int .u8 (ka : Int), .int .i64 ca, .slice a1 n1 c1] 27)).alloc (.cells #[.int .u8 (kb : Int), .int .i64 cb, .slice a2 n2 c2] 27) = w1 at *
  with_reducible refine (awake_any _ (hand_of HH.out HA.out)).mono ?_
  rintro e w2 ⟨rfl, hb⟩
  have K2 := kept_hid HA hb
  have G2 := Lib.hid (blk HG.out hb)
  have J2 := Lib.hid (blk HK.out hb)
  clear hb HA HG HK
  obtain ⟨c0, c1', c2'⟩ := cells3 G2.out
  go_wp2_with fail
  clear c0 c1' c2'
  with_reducible refine (HF1.out _ K2.out).mono ?_
  rintro e w3 ⟨rfl, hb⟩
  have K3 := kept_hid K2 hb
  have G3 := Lib.hid (blk G2.out hb)
  have J3 := Lib.hid (blk J2.out hb)
  clear hb K2 HF1 G2 J2
  obtain ⟨c0, c1', c2'⟩ := cells3 J3.out
  go_wp2_with fail
  clear c0 c1' c2'
  with_reducible refine (HF2.out _ K3.out).mono ?_
  rintro e w4 ⟨rfl, hb⟩
  have K4 := kept_hid K3 hb
  have G4 := Lib.hid (blk G3.out hb)
  have J4 := Lib.hid (blk J3.out hb)
  clear hb K3 HF2 G3 J3
  go_wp2_with fail
  go_region_held3 (fun W' => Below w4.heap.size w4 W' ∧ W'.cell? ⟨w.heap.size, 0, none⟩ = some (.int .u8 (ka : Int)) ∧ W'.cell? ⟨w.heap.size, 1, none⟩ = some (.int .i64 ca) ∧ W'.cell? ⟨w.heap.size, 2, none⟩ = some (.slice a1 n1 c1))
    (first | exact below3 G4.out _ (Below.refl _ _).drew | exact below3 G4.out _ (Below.refl _ _) | exact below3 G4.out _ (And.left (by assumption)) | exact below3 G4.out _ (kept_trans (And.left (by assumption)) hb))
    (first
      | (go_at_call 10; with_reducible refine (HZ.out _).mono ?_; rintro e wa ⟨rfl, rfl⟩)
      | (go_at_call 16; with_reducible refine (HP.out _ (kept_trans K4.out (And.left (by assumption)))).mono ?_; rintro e w5 ⟨va, vc, ev, rfl, hb, hS, hown⟩))
  have hS5 := And.left (by assumption : Below w4.heap.size w4 w5 ∧ _)
  have K5 := kept_hid K4 hS5
  have G5 := Lib.hid (blk G4.out hS5)
  have J5 := Lib.hid (blk J4.out hS5)
  have B5 := Lib.hid (own_bytes hown)
  have E5 := Lib.hid hS
  clear hb hS hown hS5 K4 G4 J4 HP
  have E5' := E5.out
  rcases E5' with ⟨hw0, rfl⟩ | ⟨hw0, ⟨_, rfl⟩ | ⟨b, rfl, _⟩⟩
  · go_wp2_with fail
    go_region_held3 (fun W' => Below w5.heap.size w5 W' ∧ W'.cell? ⟨w.heap.size + 1, 0, none⟩ = some (.int .u8 (kb : Int)) ∧ W'.cell? ⟨w.heap.size + 1, 1, none⟩ = some (.int .i64 cb) ∧ W'.cell? ⟨w.heap.size + 1, 2, none⟩ = some (.slice a2 n2 c2))
      (first | exact below3 J5.out _ (Below.refl _ _).drew | exact below3 J5.out _ (Below.refl _ _) | exact below3 J5.out _ (And.left (by assumption)) | exact below3 J5.out _ (kept_trans (And.left (by assumption)) hb))
      (first
        | (go_at_call 10; with_reducible refine (HZ.out _).mono ?_; rintro e wa ⟨rfl, rfl⟩)
        | (go_at_call 16; with_reducible refine (HQ.out _ (kept_trans K5.out (And.left (by assumption)))).mono ?_; rintro e w6 ⟨va2, vc2, ev2, rfl, hb, hS, hown⟩))
    have hS6 := And.left (by assumption : Below w5.heap.size w5 w6 ∧ _)
    have K6 := kept_hid K5 hS6
    have G6 := Lib.hid (blk G5.out hS6)
    have J6 := Lib.hid (blk J5.out hS6)
    have B6 := Lib.hid (bytes_below B5.out hS6)
    have D6 := Lib.hid (own_bytes hown)
    clear hb hown hS6 K5 G5 J5 B5 HQ
    rcases hS with ⟨hv0, rfl⟩ | ⟨hv0, ⟨_, rfl⟩ | ⟨b2, rfl, _⟩⟩
    · have hq : decide (bs = ds) = q := by
        have h1 := HI.out hw0 hv0
        have h2 := HE.out
        rw [Bool.eq_iff_iff, decide_eq_true_iff, h1, h2]
      have HSM := fun (W : World) (hB : BytesIn W (.slice va bs.length vc) bs) (hD : BytesIn W (.slice va2 ds.length vc2) ds) => Sam.same_gb _ _ bs ds W hB hD HB8.out.1 HD8.out.1 (by have := HB8.out.2; omega)
      rw [hq] at HSM
      replace HSM := Lib.hid HSM
      clear hq hw0 hv0 HI HE HB8 HD8 E5
      cases q with
      | true =>
        go_wp2_with fail
        go_region_held3 (fun W' => Below w6.heap.size w6 W' ∧ W'.cell? ⟨w.heap.size, 0, none⟩ = some (.int .u8 (ka : Int)) ∧ W'.cell? ⟨w.heap.size, 1, none⟩ = some (.int .i64 ca) ∧ W'.cell? ⟨w.heap.size, 2, none⟩ = some (.slice a1 n1 c1) ∧ W'.cell? ⟨w.heap.size + 1, 0, none⟩ = some (.int .u8 (kb : Int)) ∧ W'.cell? ⟨w.heap.size + 1, 1, none⟩ = some (.int .i64 cb) ∧ W'.cell? ⟨w.heap.size + 1, 2, none⟩ = some (.slice a2 n2 c2))
          (first | exact both3 G6.out J6.out _ (Below.refl _ _).drew | exact both3 G6.out J6.out _ (Below.refl _ _) | exact both3 G6.out J6.out _ (And.left (by assumption)) | exact both3 G6.out J6.out _ (kept_trans (And.left (by assumption)) hb))
          (first
            | (go_at_call 18; with_reducible refine (HSM.out _ (bytes_below B6.out (And.left (by assumption))) (bytes_below D6.out (And.left (by assumption)))).mono ?_; rintro e w7 ⟨rfl, hb⟩)
            | (go_at_call 17; with_reducible refine (HS1.out _ (kept_trans K6.out (And.left (by assumption))) (kept_trans K6.out (And.left (by assumption)))).mono ?_; rintro e w8 ⟨rfl, hb⟩)
            | (go_at_call 12; with_reducible refine (HS2.out _ (kept_trans K6.out (And.left (by assumption))) (kept_trans K6.out (And.left (by assumption)))).mono ?_; rintro e w9 ⟨rfl, hb⟩))
        have hS7 := And.left (by assumption : Below w6.heap.size w6 _ ∧ _)
        have K7 := kept_hid K6 hS7
        clear hS7
        go_wp2_with fail
        go_ret
        exact ⟨rfl, K7.out⟩
      | false =>
        go_wp2_with fail
        go_region_held3 (fun W' => Below w6.heap.size w6 W' ∧ W'.cell? ⟨w.heap.size, 0, none⟩ = some (.int .u8 (ka : Int)) ∧ W'.cell? ⟨w.heap.size, 1, none⟩ = some (.int .i64 ca) ∧ W'.cell? ⟨w.heap.size, 2, none⟩ = some (.slice a1 n1 c1) ∧ W'.cell? ⟨w.heap.size + 1, 0, none⟩ = some (.int .u8 (kb : Int)) ∧ W'.cell? ⟨w.heap.size + 1, 1, none⟩ = some (.int .i64 cb) ∧ W'.cell? ⟨w.heap.size + 1, 2, none⟩ = some (.slice a2 n2 c2))
          (first | exact both3 G6.out J6.out _ (Below.refl _ _).drew | exact both3 G6.out J6.out _ (Below.refl _ _) | exact both3 G6.out J6.out _ (And.left (by assumption)) | exact both3 G6.out J6.out _ (kept_trans (And.left (by assumption)) hb))
          (first
            | (go_at_call 18; with_reducible refine (HSM.out _ (bytes_below B6.out (And.left (by assumption))) (bytes_below D6.out (And.left (by assumption)))).mono ?_; rintro e w7 ⟨rfl, hb⟩)
            | (go_at_call 17; with_reducible refine (HS1.out _ (kept_trans K6.out (And.left (by assumption))) (kept_trans K6.out (And.left (by assumption)))).mono ?_; rintro e w8 ⟨rfl, hb⟩)
            | (go_at_call 12; with_reducible refine (HS2.out _ (kept_trans K6.out (And.left (by assumption))) (kept_trans K6.out (And.left (by assumption)))).mono ?_; rintro e w9 ⟨rfl, hb⟩))
        have hS7 := And.left (by assumption : Below w6.heap.size w6 _ ∧ _)
        have K7 := kept_hid K6 hS7
        clear hS7
        go_wp2_with fail
        go_ret
        exact ⟨rfl, K7.out⟩
    all_goals
      go_wp2_with fail
      go_ret
      exact ⟨rfl, K6.out⟩
  · go_wp2_with fail
    go_region_held3 (fun W' => Below w5.heap.size w5 W' ∧ W'.cell? ⟨w.heap.size + 1, 0, none⟩ = some (.int .u8 (kb : Int)) ∧ W'.cell? ⟨w.heap.size + 1, 1, none⟩ = some (.int .i64 cb) ∧ W'.cell? ⟨w.heap.size + 1, 2, none⟩ = some (.slice a2 n2 c2))
      (first | exact below3 J5.out _ (Below.refl _ _).drew | exact below3 J5.out _ (Below.refl _ _) | exact below3 J5.out _ (And.left (by assumption)) | exact below3 J5.out _ (kept_trans (And.left (by assumption)) hb))
      (first
        | (go_at_call 10; with_reducible refine (HZ.out _).mono ?_; rintro e wa ⟨rfl, rfl⟩)
        | (go_at_call 16; with_reducible refine (HQ.out _ (kept_trans K5.out (And.left (by assumption)))).mono ?_; rintro e w6 ⟨va2, vc2, ev2, rfl, hb, hS, hown⟩))
    have hS6 := And.left (by assumption : Below w5.heap.size w5 w6 ∧ _)
    have K6 := kept_hid K5 hS6
    clear hb hown hS6 K5 G5 J5 HQ
    rcases hS with ⟨_, rfl⟩ | ⟨_, ⟨_, rfl⟩ | ⟨b2, rfl, _⟩⟩
    all_goals
      go_wp2_with fail
      go_ret
      exact ⟨rfl, K6.out⟩
  · go_wp2_with fail
    go_region_held3 (fun W' => Below w5.heap.size w5 W' ∧ W'.cell? ⟨w.heap.size + 1, 0, none⟩ = some (.int .u8 (kb : Int)) ∧ W'.cell? ⟨w.heap.size + 1, 1, none⟩ = some (.int .i64 cb) ∧ W'.cell? ⟨w.heap.size + 1, 2, none⟩ = some (.slice a2 n2 c2))
      (first | exact below3 J5.out _ (Below.refl _ _).drew | exact below3 J5.out _ (Below.refl _ _) | exact below3 J5.out _ (And.left (by assumption)) | exact below3 J5.out _ (kept_trans (And.left (by assumption)) hb))
      (first
        | (go_at_call 10; with_reducible refine (HZ.out _).mono ?_; rintro e wa ⟨rfl, rfl⟩)
        | (go_at_call 16; with_reducible refine (HQ.out _ (kept_trans K5.out (And.left (by assumption)))).mono ?_; rintro e w6 ⟨va2, vc2, ev2, rfl, hb, hS, hown⟩))
    have hS6 := And.left (by assumption : Below w5.heap.size w5 w6 ∧ _)
    have K6 := kept_hid K5 hS6
    clear hb hown hS6 K5 G5 J5 HQ
    rcases hS with ⟨_, rfl⟩ | ⟨_, ⟨_, rfl⟩ | ⟨b2, rfl, _⟩⟩
    all_goals
      go_wp2_with fail
      go_ret
      exact ⟨rfl, K6.out⟩
/-- InputApart returns true. -/
theorem apart_all (ka : Nat) (ca : Int) (ov1 : Value) (xs : List F) (kb : Nat) (cb : Int) (ov2 : Value) (ys : List F) (nn : Int) (w : World) (hka : ka < 256) (h1 : FldsIn w 0 ov1 xs) (s1 : ∀ o ∈ xs, ∀ x ∈ o.t, x < 256) (m1 : xs.length ≤ maxLen) (hkb : kb < 256) (h2 : FldsIn w 0 ov2 ys) (s2 : ∀ o ∈ ys, ∀ x ∈ o.t, x < 256) (m2 : ys.length ≤ maxLen) (hn : (Lit.int .u16 nn).wf = true) (hgl : Handle w) :
    Calls Tryd.prog 5 #[.agg #[.int .u8 (ka : Int), .int .i64 ca, ov1], .agg #[.int .u8 (kb : Int), .int .i64 cb, ov2], .int .u16 nn] w fun e w' => e = .returned (.bool true) ∧ Below w.heap.size w w' := by
  obtain ⟨a1, c1, rfl, _, _⟩ := h1.form
  obtain ⟨a2, c2, rfl, _, _⟩ := h2.form
  cases f1 : fewB xs with
  | false => exact apart_many1 ka kb ca cb a1 _ c1 a2 _ c2 xs nn w h1 m1 f1 hgl
  | true =>
    cases f2 : fewB ys with
    | false => exact apart_many2 ka kb ca cb a1 _ c1 a2 _ c2 xs ys nn w h1 h2 m1 m2 f1 f2 hgl
    | true =>
      obtain ⟨t1, l1⟩ := sound_few f1 s1
      obtain ⟨t2, l2⟩ := sound_few f2 s2
      have hn := Ord.wf_u16 hn
      obtain ⟨nn, rfl⟩ := Int.eq_ofNat_of_zero_le (a := nn) (by omega)
      exact apart_few ka kb ca cb a1 _ c1 a2 _ c2 xs ys nn _ w h1 h2 m1 m2 f1 f2 t1 t2 hka hkb l1 l2 (by omega) rfl hgl
end Inp
end Go.Proofs.YthjocmcafoifbaaDoor
