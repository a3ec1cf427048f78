/- InputLengths returns true. Written by tools/gen_inp_laws.py. -/
import Derived.Test.YthjocmcafoifbaaDoorInpTells
import Derived.Deep.RegionHeld3
import Derived.Deep.QuietTactic
import Derived.BigQuiet
import Derived.Deep.LoopGhost
namespace Go.Proofs.YthjocmcafoifbaaDoor
open Go.RowKit Sha Cut Err Six Att Byt Apd
namespace Inp
theorem flens_append (a b : List F) : flens (a ++ b) = flens a + flens b := by
  induction a with
  | nil => simp [flens]
  | cons f a ih => simp only [List.cons_append, flens, ih]; omega
theorem flens_take {os : List F} {k : Nat} (h : k < os.length) : flens (os.take (k + 1)) = flens (os.take k) + flen (os.getD k noneF) := by
  rw [take_f h, flens_append]; simp [flens]
theorem flens_le {os : List F} (hs : Sound os) (k : Nat) : flens (os.take k) ≤ k * 1000003 := by
  induction k with
  | zero => simp [flens]
  | succ k ih =>
    by_cases hk : k < os.length
    · rw [flens_take hk]
      have h := (sound_at hs k).2
      have h2 : flen (os.getD k noneF) ≤ 1000003 := by unfold flen; split <;> omega
      rw [Nat.succ_mul]
      exact Nat.add_le_add ih h2
    · rw [List.take_of_length_le (by omega)] at ih ⊢
      exact Nat.le_trans ih (Nat.mul_le_mul_right _ (Nat.le_succ k))
theorem iwrite_len {x : I} {z : Nat} (h : (iwrite x z).2.1 = 0) : (iwrite x z).1.length = (if bare x.aid = true then 1 else 3 + flens x.fs) ∧ (iwrite x z).1.getD 0 0 = x.aid := by
  unfold iwrite at h ⊢
  by_cases h0 : (iright x z).1 ≠ 0
  · rw [if_pos h0] at h; exact absurd h h0
  rw [if_neg h0] at h ⊢
  by_cases h1 : 8192 < (ibytes x z).length
  · rw [if_pos h1] at h; cases h
  rw [if_neg h1]
  refine ⟨ibytes_len x z, ?_⟩
  simp only
  unfold ibytes
  split <;> rfl
theorem own_cell {w : World} {base n i : Nat} {v : Value} {m : List Nat} (h : w.ownsRow base 5 1 v n (u8s m)) (hi : i < n) : ∃ g c, v = .slice (some ⟨g, 0, none⟩) n c ∧ w.cell? ⟨g, i, none⟩ = some (.int .u8 ((m.getD i 0 : Nat) : Int)) := by
  have hl := own_len h
  obtain ⟨ad, cap, hv, _, hc⟩ := own_bytes h
  rcases h.2 with ⟨_, h0⟩ | ⟨g, cap2, cur, hv', _⟩
  · omega
  · rw [hv'] at hv
    injection hv with e4 _ _
    rcases hc with h0 | ⟨g', off, hg', hc⟩
    · rw [h0] at hl; simp at hl; omega
    · rw [← e4] at hg'
      injection hg' with hg'
      injection hg' with e5 e6
      subst e5 e6
      refine ⟨g, cap2, hv', ?_⟩
      have := hc i (by omega)
      rwa [Nat.zero_add] at this
set_option maxRecDepth 100000 in
set_option maxHeartbeats 4000000 in
theorem lens_many (k : Nat) (c : Int) (ad : Option Addr) (n cap : Nat) (os : List F) (nn : Int) (w : World) (ho : FldsIn w 0 (.slice ad n cap) os) (hm : n ≤ maxLen) (hf : fewB os = false) (hgl : Handle w) :
    Calls Tryd.prog 7 #[.agg #[.int .u8 (k : Int), .int .i64 c, .slice ad n cap], .int .u16 nn] w fun e w' => e = .returned (.bool true) ∧ Below w.heap.size w w' := by
  have HF := fun W hb => few_any ⟨k, c, os⟩ ad n cap W (ho.below hb) hm
  simp only [hf] at HF
  replace HF := Lib.hid HF
  have HH := Lib.hid hgl
  have HA := Lib.hid (al_any w (.cells #[.int .u8 (k : Int), .int .i64 c, .slice ad n cap] 27))
  have HG := Lib.hid (heap_alloc_new w (.cells #[.int .u8 (k : Int), .int .i64 c, .slice ad n cap] 27))
  clear ho hm hf hgl
  go_enter Tryd.func7, Tryd.ntmps7
  go_wp2_with fail
  generalize w.alloc (.cells #[.int .u8 (k : Int), .int .i64 c, .slice ad n cap] 27) = w1 at *
  with_reducible refine (awake_any _ (hand_of HH.out HA.out)).mono ?_
  rintro e w2 ⟨rfl, hb⟩
  have K2 := kept_hid HA hb
  have G2 := Lib.hid (blk HG.out hb)
  clear hb HA HG
  obtain ⟨c0, c1, c2⟩ := cells3 G2.out
  go_wp2_with fail
  clear c0 c1 c2
  with_reducible refine (HF.out _ K2.out).mono ?_
  rintro e w3 ⟨rfl, hb⟩
  have K3 := kept_hid K2 hb
  have G3 := Lib.hid (blk G2.out hb)
  clear hb K2 HF G2
  go_wp2_with fail
  with_reducible refine (awake_any _ (hand_of HH.out K3.out)).mono ?_
  rintro e wz ⟨rfl, hb⟩
  have Kz := kept_hid K3 hb
  clear hb
  go_wp2_with fail
  go_ret
  exact ⟨rfl, Kz.out⟩
set_option maxRecDepth 100000 in
set_option maxHeartbeats 16000000 in
theorem lens_few (k : Nat) (c : Int) (ad : Option Addr) (n cap : Nat) (os : List F) (nn z : Nat) (w : World) (hka : k < 256) (ho : FldsIn w 0 (.slice ad n cap) os) (hm : n ≤ maxLen) (hf : fewB os = true) (hs : Sound os) (hos : os.length ≤ 60) (hnn : nn < 65536) (hz : 1 + nn % 16383 = z) (hgl : Handle w) :
    Calls Tryd.prog 7 #[.agg #[.int .u8 (k : Int), .int .i64 c, .slice ad n cap], .int .u16 (nn : Int)] w fun e w' => e = .returned (.bool true) ∧ Below w.heap.size w w' := by
  obtain rfl := ho.len
  have hz1 : 1 ≤ z := by omega
  have hz2 : z ≤ 16383 := by omega
  have HZ := Lib.hid fun W => size_any nn W hnn
  rw [hz] at HZ
  have HF := fun W hb => few_any ⟨k, c, os⟩ ad os.length cap W (ho.below hb) hm
  simp only [hf] at HF
  replace HF := Lib.hid HF
  have HP := fun W hb => write_any ⟨k, c, os⟩ ad os.length cap z W hka (ho.below hb) hs (by simp only; omega) hz1 hz2 _ rfl
  have HLN := fun h => iwrite_len (x := ⟨k, c, os⟩) (z := z) h
  have HWF := fun h => iwrite_fails (x := ⟨k, c, os⟩) (z := z) h
  generalize iwrite ⟨k, c, os⟩ z = R at *
  obtain ⟨bs, bw, bp⟩ := R
  simp only at HP HLN HWF
  replace HP := Lib.hid HP
  replace HLN := Lib.hid HLN
  replace HWF := Lib.hid HWF
  have HO := Lib.hid ho
  have HSO := Lib.hid hs
  have HOS := Lib.hid hos
  have HFL := Lib.hid fun j => flens_le hs j
  have HH := Lib.hid hgl
  have HA := Lib.hid (al_any w (.cells #[.int .u8 (k : Int), .int .i64 c, .slice ad os.length cap] 27))
  have HG := Lib.hid (heap_alloc_new w (.cells #[.int .u8 (k : Int), .int .i64 c, .slice ad os.length cap] 27))
  clear hka ho hm hf hs hos hnn hz hgl hz1 hz2
  go_enter Tryd.func7, Tryd.ntmps7
  go_wp2_with fail
  generalize w.alloc (.cells #[.int .u8 (k : Int), .int .i64 c, .slice ad os.length cap] 27) = w1 at *
  with_reducible refine (awake_any _ (hand_of HH.out HA.out)).mono ?_
  rintro e w2 ⟨rfl, hb⟩
  have K2 := kept_hid HA hb
  have G2 := Lib.hid (blk HG.out hb)
  clear hb HA HG
  obtain ⟨c0, c1, c2⟩ := cells3 G2.out
  go_wp2_with fail
  clear c0 c1 c2
  with_reducible refine (HF.out _ K2.out).mono ?_
  rintro e w3 ⟨rfl, hb⟩
  have K3 := kept_hid K2 hb
  have G3 := Lib.hid (blk G2.out hb)
  clear hb K2 HF G2
  go_wp2_with fail
  go_region_held3 (fun W' => Below w3.heap.size w3 W' ∧ W'.cell? ⟨w.heap.size, 0, none⟩ = some (.int .u8 (k : Int)) ∧ W'.cell? ⟨w.heap.size, 1, none⟩ = some (.int .i64 c) ∧ W'.cell? ⟨w.heap.size, 2, none⟩ = some (.slice ad os.length cap))
    (first | exact below3 G3.out _ (Below.refl _ _).drew | exact below3 G3.out _ (Below.refl _ _) | exact below3 G3.out _ (And.left (by assumption)) | exact below3 G3.out _ (kept_trans (And.left (by assumption)) hb))
    (first
      | (go_at_call 10; with_reducible refine (HZ.out _).mono ?_; rintro e wa ⟨rfl, rfl⟩)
      | (go_at_call 16; with_reducible refine (HP.out _ (kept_trans K3.out (And.left (by assumption)))).mono ?_; rintro e w4 ⟨va, vc, ev, rfl, hb, hS, hown⟩))
  have hS4 := And.left (by assumption : Below w3.heap.size w3 w4 ∧ _)
  have K4 := kept_hid K3 hS4
  have G4 := Lib.hid (blk G3.out hS4)
  clear hb hS4 K3 G3 HP
  rcases hS with ⟨h0, rfl⟩ | ⟨h0, hev⟩
  rotate_left
  · obtain rfl := HWF.out h0
    rcases hev with ⟨_, rfl⟩ | ⟨b, rfl, _⟩
    all_goals
      clear h0
      go_wp2_with fail
      go_ret
      exact ⟨rfl, K4.out⟩
  have OW := Lib.hid hown
  have HL0 := Lib.hid (HLN.out h0)
  clear hown h0 HLN HWF
  go_wp2_with fail
  go_loopg [7, 8] (os.length + 1) (fun m vw i wr => ∃ j : Nat, j ≤ os.length ∧ m = os.length + 1 - j ∧ i = .int .i64 j ∧ (∃ V : Nat, vw = .int .i64 (V : Int) ∧ Hid (V = 3 + flens (os.take j))) ∧ wr = w4)
  case atStart => exact ⟨0, Nat.zero_le _, rfl, rfl, ⟨3, rfl, Lib.hid rfl⟩, rfl⟩
  case round =>
    obtain ⟨j, hj, rfl, rfl, ⟨V, rfl, HV⟩, rfl⟩ := hrel
    obtain ⟨c0, c1, c2⟩ := cells3 G4.out
    have ew : IntKind.i64.wrap ((j : Int) + 1) = (j : Int) + 1 := by
      have := HOS.out
      rw [IntWalk.i64_in] <;> omega
    by_cases hlt : j < os.length
    · obtain ⟨pa, pt, ex⟩ := f_eta (os.getD j noneF)
      obtain ⟨b1, o1, ta, tn, tc, rfl, g0, g1, B1, N1⟩ := (HO.out.below K4.out).cells hlt ex
      obtain rfl := bytes_len B1
      have hi0 : (0 : Int) ≤ (j : Int) := by omega
      have hi1 : (j : Int) < (os.length : Int) := by omega
      have sx := (sound_at HSO.out j).2
      rw [ex] at sx
      simp only at sx
      have htk := flens_take hlt
      rw [ex] at htk
      have hle := HFL.out j
      have hos := HOS.out
      have hV := HV.out
      have hj6 : j * 1000003 ≤ 60 * 1000003 := Nat.mul_le_mul_right _ (by omega)
      have ew1 : IntKind.i64.wrap ((V : Int) + (pt.length : Int)) = (V : Int) + (pt.length : Int) := by rw [IntWalk.i64_in] <;> omega
      have ew2 : IntKind.i64.wrap ((V : Int) + (pt.length : Int) + 3) = (V : Int) + (pt.length : Int) + 3 := by rw [IntWalk.i64_in] <;> omega
      by_cases hp : 0 ≤ pa
      · have hfl : flen ⟨pa, pt⟩ = pt.length + 3 := by unfold flen; rw [if_pos hp]
        have HV2 := Lib.hid (show V + pt.length + 3 = 3 + flens (os.take (j + 1)) by omega)
        clear hfl htk hle hV hj6 B1 N1 sx
        go_wp2_with fail
        go_roundg (os.length + 1 - (j + 1))
        case measure => omega
        case rel => exact ⟨j + 1, by omega, rfl, rfl, ⟨V + pt.length + 3, by rw [show ((V + pt.length + 3 : Nat) : Int) = (V : Int) + (pt.length : Int) + 3 from by omega], HV2⟩, rfl⟩
      · have hfl : flen ⟨pa, pt⟩ = pt.length := by unfold flen; rw [if_neg hp]; rfl
        have HV2 := Lib.hid (show V + pt.length = 3 + flens (os.take (j + 1)) by omega)
        clear hfl htk hle hV hj6 B1 N1 sx
        go_wp2_with fail
        go_roundg (os.length + 1 - (j + 1))
        case measure => omega
        case rel => exact ⟨j + 1, by omega, rfl, rfl, ⟨V + pt.length, by rw [show ((V + pt.length : Nat) : Int) = (V : Int) + (pt.length : Int) from by omega], HV2⟩, rfl⟩
    · obtain rfl : j = os.length := by omega
      have hV := HV.out
      rw [List.take_length] at hV
      obtain ⟨hl0, hb0⟩ := HL0.out
      have hpos : 0 < bs.length := by rw [hl0]; split <;> omega
      obtain ⟨g, c', hv, cb⟩ := own_cell OW.out hpos
      rw [hb0] at cb
      injection hv with e1 _ e3
      subst e1 e3
      have hn0 : ¬ (os.length : Int) < (os.length : Int) := by omega
      have hi0 : (0 : Int) < (bs.length : Int) := by omega
      have hb01 : ∀ b : Bool, bare k = b → bs.length = if b = true then 1 else 3 + flens os := fun b h => by rw [hl0, h]
      generalize bs.length = M at *
      have HVV := Lib.hid hV
      clear hlt hj hl0 hb0 hV hpos
      by_cases h0 : k = 109
      · have k0 : ((k : Int) == 109) = true := by simp; omega
        have hM := hb01 true (by unfold bare; simp [h0])
        have hq : ((M : Int) == 1) = true := by have := HVV.out; simp at hM ⊢; omega
        clear hM hb01 h0
        go_wp2_with fail
        go_quiet (fail)
        have K7 := kept_draw K4 nq
        go_wp2_with fail
        go_ret
        exact ⟨rfl, K7.out⟩
      have k0 : ((k : Int) == 109) = false := by simp; omega
      by_cases h1 : k = 108
      · have k1 : ((k : Int) == 108) = true := by simp; omega
        have hM := hb01 true (by unfold bare; simp [h1])
        have hq : ((M : Int) == 1) = true := by have := HVV.out; simp at hM ⊢; omega
        clear hM hb01 h1
        go_wp2_with fail
        go_quiet (fail)
        have K7 := kept_draw K4 nq
        go_wp2_with fail
        go_ret
        exact ⟨rfl, K7.out⟩
      have k1 : ((k : Int) == 108) = false := by simp; omega
      by_cases h2 : k = 110
      · have k2 : ((k : Int) == 110) = true := by simp; omega
        have hM := hb01 true (by unfold bare; simp [h2])
        have hq : ((M : Int) == 1) = true := by have := HVV.out; simp at hM ⊢; omega
        clear hM hb01 h2
        go_wp2_with fail
        go_quiet (fail)
        have K7 := kept_draw K4 nq
        go_wp2_with fail
        go_ret
        exact ⟨rfl, K7.out⟩
      have k2 : ((k : Int) == 110) = false := by simp; omega
      by_cases h3 : k = 107
      · have k3 : ((k : Int) == 107) = true := by simp; omega
        have hM := hb01 true (by unfold bare; simp [h3])
        have hq : ((M : Int) == 1) = true := by have := HVV.out; simp at hM ⊢; omega
        clear hM hb01 h3
        go_wp2_with fail
        go_quiet (fail)
        have K7 := kept_draw K4 nq
        go_wp2_with fail
        go_ret
        exact ⟨rfl, K7.out⟩
      have k3 : ((k : Int) == 107) = false := by simp; omega
      · skip
        have hM := hb01 false (by unfold bare; simp [h0, h1, h2, h3])
        have hq : ((M : Int) == (V : Int)) = true := by have := HVV.out; simp at hM ⊢; omega
        clear hM hb01 h0 h1 h2 h3
        go_wp2_with fail
        go_quiet (fail)
        have K7 := kept_draw K4 nq
        go_wp2_with fail
        go_ret
        exact ⟨rfl, K7.out⟩
/-- InputLengths returns true. -/
theorem lens_all (k : Nat) (c : Int) (ov : Value) (os : List F) (nn : Int) (w : World) (hka : k < 256) (ho : FldsIn w 0 ov os) (hb : ∀ o ∈ os, ∀ x ∈ o.t, x < 256) (hm : os.length ≤ maxLen) (hn : (Lit.int .u16 nn).wf = true) (hgl : Handle w) :
    Calls Tryd.prog 7 #[.agg #[.int .u8 (k : Int), .int .i64 c, ov], .int .u16 nn] w fun e w' => e = .returned (.bool true) ∧ Below w.heap.size w w' := by
  obtain ⟨ad, cap, rfl, _, _⟩ := ho.form
  cases hf : fewB os with
  | false => exact lens_many k c ad _ cap os nn w ho hm hf hgl
  | true =>
    obtain ⟨hs, hos⟩ := sound_few hf hb
    have hn := Ord.wf_u16 hn
    obtain ⟨nn, rfl⟩ := Int.eq_ofNat_of_zero_le (a := nn) (by omega)
    exact lens_few k c ad _ cap os nn _ w hka ho hm hf hs hos (by omega) rfl hgl
end Inp
end Go.Proofs.YthjocmcafoifbaaDoor
