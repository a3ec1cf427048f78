/- StreamWrites returns true. Written by tools/gen_str_laws.py. -/
import Derived.Test.YtmllmmamdkjndaaDoorStrTells
import Derived.Test.YtmllmmamdkjndaaDoorStrRwrite
namespace Go.Proofs.YtmllmmamdkjndaaDoor
open Go.RowKit Sha Cut Err Six Att Byt Apd
namespace Str
open Go.Proofs.YtmllmmamdkjndaaDoor.Ord
set_option maxRecDepth 100000 in
set_option maxHeartbeats 4000000 in
theorem writes_many (cmd : Int) (a u r : Bool) (ad : Option Addr) (n cap : Nat) (os : List O) (nn : Int) (w : World) (ho : OrdsIn w 0 (.slice ad n cap) os) (hm : n ≤ maxLen) (hf : fewB os = false) (hgl : Handle w) :
    Calls Tryd.prog 3 #[.agg #[.int .i64 cmd, .bool a, .bool u, .bool r, .slice ad n cap], .int .u16 nn] w fun e w' => e = .returned (.bool true) ∧ Below w.heap.size w w' := by
  have HF := fun W hb => few_any ⟨cmd, a, u, r, os⟩ ad n cap W (ho.below hb) hm
  simp only [hf] at HF
  have HF := Lib.hid HF
  have HH := Lib.hid hgl
  have HA := Lib.hid (al_any w (.cells #[.int .i64 cmd, .bool a, .bool u, .bool r, .slice ad n cap] 26))
  have HG := Lib.hid (heap_alloc_new w (.cells #[.int .i64 cmd, .bool a, .bool u, .bool r, .slice ad n cap] 26))
  clear ho hm hf hgl
  go_enter Tryd.func3, Tryd.ntmps3
  go_wp2_with fail
  generalize w.alloc (.cells #[.int .i64 cmd, .bool a, .bool u, .bool r, .slice ad n cap] 26) = w1 at *
  with_reducible refine (awake_any _ (hand_of HH.out HA.out)).mono ?_
  rintro e w2 ⟨rfl, hb⟩
  have K2 := kept_hid HA hb
  obtain ⟨c0, c1, c2, c3, c4⟩ := cells5w (blk HG.out hb)
  clear hb HA HG
  go_wp2_with fail
  clear c0 c1 c2 c3 c4
  with_reducible refine (HF.out _ K2.out).mono ?_
  rintro e w3 ⟨rfl, hb⟩
  have K3 := kept_hid K2 hb
  clear hb K2 HF
  go_wp2_with fail
  with_reducible refine (awake_any _ (hand_of HH.out K3.out)).mono ?_
  rintro e w4 ⟨rfl, hb⟩
  have K4 := kept_hid K3 hb
  clear hb K3
  go_wp2_with fail
  go_ret
  exact ⟨rfl, K4.out⟩
set_option maxRecDepth 100000 in
set_option maxHeartbeats 8000000 in
theorem writes_few (cmd : Int) (a u r : Bool) (ad : Option Addr) (n cap : Nat) (os : List O) (nn z : Nat) (w : World) (ho : OrdsIn w 0 (.slice ad n cap) os) (hm : n ≤ maxLen) (hf : fewB os = true) (hs : Sound os) (hos : os.length ≤ 60) (hnn : nn < 65536) (hz : 1 + nn % 16383 = z) (hgl : Handle w) :
    Calls Tryd.prog 3 #[.agg #[.int .i64 cmd, .bool a, .bool u, .bool r, .slice ad n cap], .int .u16 (nn : Int)] w fun e w' => e = .returned (.bool true) ∧ Below w.heap.size w w' := by
  have hz1 : 1 ≤ z := by omega
  have hz2 : z ≤ 16383 := by omega
  have HZ := Lib.hid fun W => size_any nn W hnn
  rw [hz] at HZ
  have HF := fun W hb => few_any ⟨cmd, a, u, r, os⟩ ad n cap W (ho.below hb) hm
  simp only [hf] at HF
  have HF := Lib.hid HF
  have HP := Lib.hid fun W hb => write_any ⟨cmd, a, u, r, os⟩ ad n cap z W (ho.below hb) hs (by simp only; omega) hz1 hz2
  have HQ := Lib.hid fun W hb => rwrite_any ⟨cmd, a, u, r, os⟩ ad n cap z W (ho.below hb) hs (by simp only; omega) hz2
  obtain ⟨b8, bl⟩ := cwrite_bytes (x := ⟨cmd, a, u, r, os⟩) (z := z) hz2 hs
  have HB8 := Lib.hid b8
  have HBL := Lib.hid (show (cwrite ⟨cmd, a, u, r, os⟩ z).1.length < 1000000 by omega)
  simp only at HP HQ
  clear ho hm hf hs hos hnn hz hz1 hz2 b8 bl
  have HH := Lib.hid hgl
  have HA := Lib.hid (al_any w (.cells #[.int .i64 cmd, .bool a, .bool u, .bool r, .slice ad n cap] 26))
  have HG := Lib.hid (heap_alloc_new w (.cells #[.int .i64 cmd, .bool a, .bool u, .bool r, .slice ad n cap] 26))
  go_enter Tryd.func3, Tryd.ntmps3
  go_wp2_with fail
  generalize w.alloc (.cells #[.int .i64 cmd, .bool a, .bool u, .bool r, .slice ad n cap] 26) = w1 at *
  with_reducible refine (awake_any _ (hand_of HH.out HA.out)).mono ?_
  rintro e w2 ⟨rfl, hb⟩
  have K2 := kept_hid HA hb
  have G2 := Lib.hid (blk HG.out hb)
  clear hb HA HG
  obtain ⟨c0, c1, c2, c3, c4⟩ := cells5w G2.out
  go_wp2_with fail
  clear c0 c1 c2 c3 c4
  with_reducible refine (HF.out _ K2.out).mono ?_
  rintro e w3 ⟨rfl, hb⟩
  have K3 := kept_hid K2 hb
  have G3 := Lib.hid (blk G2.out hb)
  clear hb K2 HF G2
  go_wp2_with fail
  go_region_held3 (fun W' => Below w3.heap.size w3 W' ∧ W'.cell? ⟨w.heap.size, 0, none⟩ = some (.int .i64 cmd) ∧ W'.cell? ⟨w.heap.size, 1, none⟩ = some (.bool a) ∧ W'.cell? ⟨w.heap.size, 2, none⟩ = some (.bool u) ∧ W'.cell? ⟨w.heap.size, 3, none⟩ = some (.bool r) ∧ W'.cell? ⟨w.heap.size, 4, none⟩ = some (.slice ad n cap))
    (first | exact below5 G3.out _ (Below.refl _ _).drew | exact below5 G3.out _ (Below.refl _ _) | exact below5 G3.out _ (And.left (by assumption)) | exact below5 G3.out _ (kept_trans (And.left (by assumption)) hb))
    (first
      | (go_at_call 11; with_reducible refine (HZ.out _).mono ?_; rintro e wa ⟨rfl, rfl⟩)
      | (go_at_call 10; with_reducible refine (HP.out _ (kept_trans K3.out (And.left (by assumption)))).mono ?_; rintro e w4 ⟨v, ev, rfl, hb, hwr⟩))
  have hS := And.left (by assumption : Below w3.heap.size w3 w4 ∧ _)
  have K4 := kept_hid K3 hS
  have G4 := Lib.hid (blk G3.out hS)
  obtain ⟨hB, hT⟩ := wrote_tells hwr
  have B4 := Lib.hid hB
  have T4 := Lib.hid hT
  clear hb hS hB hT hwr K3 G3 HP
  go_wp2_with fail
  go_region_held3 (fun W' => Below w4.heap.size w4 W' ∧ W'.cell? ⟨w.heap.size, 0, none⟩ = some (.int .i64 cmd) ∧ W'.cell? ⟨w.heap.size, 1, none⟩ = some (.bool a) ∧ W'.cell? ⟨w.heap.size, 2, none⟩ = some (.bool u) ∧ W'.cell? ⟨w.heap.size, 3, none⟩ = some (.bool r) ∧ W'.cell? ⟨w.heap.size, 4, none⟩ = some (.slice ad n cap))
    (first | exact below5 G4.out _ (Below.refl _ _).drew | exact below5 G4.out _ (Below.refl _ _) | exact below5 G4.out _ (And.left (by assumption)) | exact below5 G4.out _ (kept_trans (And.left (by assumption)) hb))
    (first
      | (go_at_call 11; with_reducible refine (HZ.out _).mono ?_; rintro e wa ⟨rfl, rfl⟩)
      | (go_at_call 12; with_reducible refine (HQ.out _ (kept_trans K4.out (And.left (by assumption)))).mono ?_; rintro e w5 ⟨v2, rfl, hB2, hb⟩))
  have hS := And.left (by assumption : Below w4.heap.size w4 w5 ∧ _)
  have K5 := kept_hid K4 hS
  have G5 := Lib.hid (blk G4.out hS)
  have B5 := Lib.hid (bytes_below B4.out hS)
  have T5 := Lib.hid (T4.out.below hS)
  have D5 := Lib.hid hB2
  clear hb hS hB2 K4 G4 B4 T4 HQ
  generalize cwrite ⟨cmd, a, u, r, os⟩ z = R at *
  obtain ⟨bs, why, at_⟩ := R
  simp only at B5 T5 D5 HB8 HBL ⊢
  go_wp2_with fail
  go_region_held3 (fun W' => Below w5.heap.size w5 W' ∧ W'.cell? ⟨w.heap.size, 0, none⟩ = some (.int .i64 cmd) ∧ W'.cell? ⟨w.heap.size, 1, none⟩ = some (.bool a) ∧ W'.cell? ⟨w.heap.size, 2, none⟩ = some (.bool u) ∧ W'.cell? ⟨w.heap.size, 3, none⟩ = some (.bool r) ∧ W'.cell? ⟨w.heap.size, 4, none⟩ = some (.slice ad n cap))
    (first | exact below5 G5.out _ (Below.refl _ _).drew | exact below5 G5.out _ (Below.refl _ _) | exact below5 G5.out _ (And.left (by assumption)) | exact below5 G5.out _ (kept_trans (And.left (by assumption)) hb))
    (first
      | (go_at_call 13; with_reducible refine (Sam.same_b _ _ bs _ (bytes_below B5.out (And.left (by assumption))) (bytes_below D5.out (And.left (by assumption))) HB8.out HBL.out).mono ?_; rintro e w6 ⟨rfl, hb⟩)
      | (go_at_call 14; with_reducible refine (code_told ev (why : Int) at_ _ (hand_of HH.out (kept_trans K5.out (And.left (by assumption)))) (T5.out.below (And.left (by assumption)))).mono ?_; rintro e w7 ⟨rfl, hb⟩)
      | (go_at_call 15; with_reducible refine (where_told ev (why : Int) at_ _ (hand_of HH.out (kept_trans K5.out (And.left (by assumption)))) (T5.out.below (And.left (by assumption)))).mono ?_; rintro e w8 ⟨rfl, hb⟩)
      | (go_at_call 16; with_reducible refine (writes_any cmd _).mono ?_; rintro e w9 ⟨rfl, rfl⟩)
      | (go_at_call 17; with_reducible refine (rwrites_any cmd _).mono ?_; rintro e wx ⟨rfl, rfl⟩))
  have hS := And.left (by assumption : Below w5.heap.size w5 _ ∧ _)
  have K6 := kept_hid K5 hS
  clear hS
  go_wp2_with fail
  go_ret
  exact ⟨rfl, K6.out⟩
/-- StreamWrites returns true. -/
theorem writes_all (cmd : Int) (a u r : Bool) (ov : Value) (os : List O) (nn : Int) (w : World) (ho : OrdsIn w 0 ov os) (hb : ∀ o ∈ os, (∀ x ∈ o.t, x < 256) ∧ o.c < 256) (hm : os.length ≤ maxLen) (hn : (Lit.int .u16 nn).wf = true) (hgl : Handle w) :
    Calls Tryd.prog 3 #[.agg #[.int .i64 cmd, .bool a, .bool u, .bool r, ov], .int .u16 nn] w fun e w' => e = .returned (.bool true) ∧ Below w.heap.size w w' := by
  obtain ⟨ad, cap, rfl, _, _⟩ := ho.form
  cases hf : fewB os with
  | false => exact writes_many cmd a u r ad _ cap os nn w ho hm hf hgl
  | true =>
    obtain ⟨hs, hos⟩ := sound_few hf hb
    have hn := wf_u16 hn
    obtain ⟨nn, rfl⟩ := Int.eq_ofNat_of_zero_le (a := nn) (by omega)
    exact writes_few cmd a u r ad _ cap os nn _ w ho hm hf hs hos (by omega) rfl hgl
end Str
end Go.Proofs.YtmllmmamdkjndaaDoor
