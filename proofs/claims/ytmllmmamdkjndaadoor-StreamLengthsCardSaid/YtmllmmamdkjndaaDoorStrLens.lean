/- StreamLengths returns true. Written by tools/gen_str_laws.py. -/
import Derived.Test.YtmllmmamdkjndaaDoorStrTells
namespace Go.Proofs.YtmllmmamdkjndaaDoor
open Go.RowKit Sha Cut Err Six Att Byt Apd
namespace Str
open Go.Proofs.YtmllmmamdkjndaaDoor.Ord
/-- What an order's kind adds. -/
def tab (k : Int) : Nat := if k = 2 then 2 else if k = 3 then 3 else if k = 4 then 1 else if k = 5 then 1 else if k = 6 then 4 else if k = 7 then 3 else 0
theorem olens_take {os : List O} {k : Nat} (h : k < os.length) : olens (os.take (k + 1)) = olens (os.take k) + olen (os.getD k none_) := by
  rw [take_o h]; simp [olens]
theorem cwrite_len {x : Cm} {z : Nat} (h : (cwrite x z).2.1 = 0) : (cwrite x z).1.length = (if writes x.cmd then 2 else 1) + olens x.os ∧ (∀ o ∈ x.os, wrong o z = 0) ∧ (cwrite x z).1.getD 0 0 = x.cmd.toNat ∧ 0 < (cwrite x z).1.length ∧ 0 ≤ x.cmd ∧ x.cmd < 256 := by
  cases hk : known x.cmd with
  | false => rw [cwrite_unknown hk] at h; cases h
  | true =>
    have hc : 0 ≤ x.cmd ∧ x.cmd < 256 := by simp [known, writes] at hk; omega
    cases hw : writes x.cmd with
    | true =>
      rw [cwrite_writes hk hw] at h ⊢
      by_cases h0 : (ow z false 0 x.os).1 = 0
      · rw [if_neg (by rw [h0]; simp)] at h ⊢
        by_cases h1 : 8192 < (obs z x.os).length + 2
        · rw [if_pos h1] at h; cases h
        · rw [if_neg h1]
          obtain ⟨e1, e2⟩ := obs_len z x.os false 0 h0
          refine ⟨?_, e2, rfl, by simp, hc⟩
          simp only [List.length_cons, e1, if_true]
          omega
      · rw [if_pos h0] at h; exact absurd h h0
    | false =>
      cases hm : (x.a || x.u || x.r || !x.os.isEmpty) with
      | true => rw [cwrite_more hk hw hm] at h; cases h
      | false =>
        rw [cwrite_bare hk hw hm]
        simp only [Bool.or_eq_false_iff, Bool.not_eq_false', List.isEmpty_iff] at hm
        rw [hm.2]
        exact ⟨by simp [olens], nofun, rfl, by simp, hc⟩
theorem olens_le {os : List O} (k : Nat) : olens (os.take k) ≤ olens os := by
  induction os generalizing k with
  | nil => simp [olens]
  | cons o os ih =>
    cases k with
    | zero => simp [olens]
    | succ k => have := ih k; simp only [olens, List.take_succ_cons, List.map_cons, List.sum_cons] at this ⊢; omega
set_option maxRecDepth 100000 in
set_option maxHeartbeats 4000000 in
theorem lengths_many (cmd : Int) (a u r : Bool) (ad : Option Addr) (n cap : Nat) (os : List O) (nn : Int) (w : World) (ho : OrdsIn w 0 (.slice ad n cap) os) (hm : n ≤ maxLen) (hf : fewB os = false) (hgl : Handle w) :
    Calls Tryd.prog 7 #[.agg #[.int .i64 cmd, .bool a, .bool u, .bool r, .slice ad n cap], .int .u16 nn] w fun e w' => e = .returned (.bool true) ∧ Below w.heap.size w w' := by
  have HF := fun W hb => few_any ⟨cmd, a, u, r, os⟩ ad n cap W (ho.below hb) hm
  simp only [hf] at HF
  have HF := Lib.hid HF
  have HH := Lib.hid hgl
  have HA := Lib.hid (al_any w (.cells #[.int .i64 cmd, .bool a, .bool u, .bool r, .slice ad n cap] 26))
  have HG := Lib.hid (heap_alloc_new w (.cells #[.int .i64 cmd, .bool a, .bool u, .bool r, .slice ad n cap] 26))
  clear ho hm hf hgl
  go_enter Tryd.func7, Tryd.ntmps7
  go_wp2_with fail
  generalize w.alloc (.cells #[.int .i64 cmd, .bool a, .bool u, .bool r, .slice ad n cap] 26) = w1 at *
  with_reducible refine (awake_any _ (hand_of HH.out HA.out)).mono ?_
  rintro e w2 ⟨rfl, hb⟩
  have K2 := kept_hid HA hb
  obtain ⟨c0, c1, c2, c3, c4⟩ := cells5w (blk HG.out hb)
  clear hb HA HG
  go_wp2_with fail
  clear c0 c1 c2 c3 c4
  with_reducible refine (HF.out _ K2.out).mono ?_
  rintro e w3 ⟨rfl, hb⟩
  have K3 := kept_hid K2 hb
  clear hb K2 HF
  go_wp2_with fail
  with_reducible refine (awake_any _ (hand_of HH.out K3.out)).mono ?_
  rintro e w4 ⟨rfl, hb⟩
  have K4 := kept_hid K3 hb
  clear hb K3
  go_wp2_with fail
  go_ret
  exact ⟨rfl, K4.out⟩
set_option maxRecDepth 100000 in
set_option maxHeartbeats 8000000 in
theorem lengths_few (cmd : Int) (a u r : Bool) (ad : Option Addr) (n cap : Nat) (os : List O) (nn z : Nat) (w : World) (ho : OrdsIn w 0 (.slice ad n cap) os) (hm : n ≤ maxLen) (hf : fewB os = true) (hs : Sound os) (hos : os.length ≤ 60) (hnn : nn < 65536) (hz : 1 + nn % 16383 = z) (hgl : Handle w) :
    Calls Tryd.prog 7 #[.agg #[.int .i64 cmd, .bool a, .bool u, .bool r, .slice ad n cap], .int .u16 (nn : Int)] w fun e w' => e = .returned (.bool true) ∧ Below w.heap.size w w' := by
  have hz1 : 1 ≤ z := by omega
  have hz2 : z ≤ 16383 := by omega
  have HZ := Lib.hid fun W => size_any nn W hnn
  rw [hz] at HZ
  have HF := fun W hb => few_any ⟨cmd, a, u, r, os⟩ ad n cap W (ho.below hb) hm
  simp only [hf] at HF
  have HF := Lib.hid HF
  have HP := Lib.hid fun W hb => write_any ⟨cmd, a, u, r, os⟩ ad n cap z W (ho.below hb) hs (by simp only; omega) hz1 hz2
  obtain ⟨b8, bl⟩ := cwrite_bytes (x := ⟨cmd, a, u, r, os⟩) (z := z) hz2 hs
  have HLN := Lib.hid fun h => cwrite_len (x := ⟨cmd, a, u, r, os⟩) (z := z) h
  have HBL := Lib.hid bl
  have HO := Lib.hid ho
  have HOS := Lib.hid hos
  simp only at HP HLN
  clear ho hm hf hs hos hnn hz hz1 hz2 b8 bl
  have HH := Lib.hid hgl
  have HA := Lib.hid (al_any w (.cells #[.int .i64 cmd, .bool a, .bool u, .bool r, .slice ad n cap] 26))
  have HG := Lib.hid (heap_alloc_new w (.cells #[.int .i64 cmd, .bool a, .bool u, .bool r, .slice ad n cap] 26))
  go_enter Tryd.func7, Tryd.ntmps7
  go_wp2_with fail
  generalize w.alloc (.cells #[.int .i64 cmd, .bool a, .bool u, .bool r, .slice ad n cap] 26) = w1 at *
  with_reducible refine (awake_any _ (hand_of HH.out HA.out)).mono ?_
  rintro e w2 ⟨rfl, hb⟩
  have K2 := kept_hid HA hb
  have G2 := Lib.hid (blk HG.out hb)
  clear hb HA HG
  obtain ⟨c0, c1, c2, c3, c4⟩ := cells5w G2.out
  go_wp2_with fail
  clear c0 c1 c2 c3 c4
  with_reducible refine (HF.out _ K2.out).mono ?_
  rintro e w3 ⟨rfl, hb⟩
  have K3 := kept_hid K2 hb
  have G3 := Lib.hid (blk G2.out hb)
  clear hb K2 HF G2
  go_wp2_with fail
  go_region_held3 (fun W' => Below w3.heap.size w3 W' ∧ W'.cell? ⟨w.heap.size, 0, none⟩ = some (.int .i64 cmd) ∧ W'.cell? ⟨w.heap.size, 1, none⟩ = some (.bool a) ∧ W'.cell? ⟨w.heap.size, 2, none⟩ = some (.bool u) ∧ W'.cell? ⟨w.heap.size, 3, none⟩ = some (.bool r) ∧ W'.cell? ⟨w.heap.size, 4, none⟩ = some (.slice ad n cap))
    (first | exact below5 G3.out _ (Below.refl _ _).drew | exact below5 G3.out _ (Below.refl _ _) | exact below5 G3.out _ (And.left (by assumption)) | exact below5 G3.out _ (kept_trans (And.left (by assumption)) hb))
    (first
      | (go_at_call 11; with_reducible refine (HZ.out _).mono ?_; rintro e wa ⟨rfl, rfl⟩)
      | (go_at_call 10; with_reducible refine (HP.out _ (kept_trans K3.out (And.left (by assumption)))).mono ?_; rintro e w4 ⟨v, ev, rfl, hb, hwr⟩))
  have hS := And.left (by assumption : Below w3.heap.size w3 w4 ∧ _)
  have K4 := kept_hid K3 hS
  have G4 := Lib.hid (blk G3.out hS)
  clear hb hS K3 G3 HP
  rcases hwr with ⟨h0, rfl, hown⟩ | ⟨h0, rfl, ⟨t, u', rfl⟩, _⟩
  rotate_left
  · clear h0
    go_wp2_with fail
    go_ret
    exact ⟨rfl, K4.out⟩
  have OW := Lib.hid hown
  have HL0 := Lib.hid (HLN.out h0)
  clear hown h0 HLN
  generalize (cwrite ⟨cmd, a, u, r, os⟩ z).1 = bs at *
  obtain ⟨va, vc, rfl⟩ := own_form OW.out
  have HWD := Lib.hid fun W => writes_any cmd W
  obtain ⟨c0, c1, c2, c3, c4⟩ := cells5w G4.out
  go_wp2_with fail
  with_reducible refine (HWD.out w4).mono ?_
  rintro e w' ⟨rfl, rfl⟩
  obtain ⟨W0, hW0⟩ : ∃ W0 : Nat, W0 = if writes cmd then 2 else 1 := ⟨_, rfl⟩
  have HW0 := Lib.hid hW0
  clear hW0
  cases hwc : writes cmd with
  | true =>
    obtain rfl : W0 = 2 := by rw [HW0.out, hwc]; rfl
    clear hwc
    go_wp2_with fail
    go_loopg [7, 8] (os.length + 1) (fun m vw i wr => ∃ k : Nat, k ≤ os.length ∧ m = os.length + 1 - k ∧ i = .int .i64 k ∧ (∃ V : Nat, vw = .int .i64 (V : Int) ∧ Hid (V = 2 + olens (os.take k))) ∧ Hid (Below w4.heap.size w4 wr))
    case atStart => exact ⟨0, Nat.zero_le _, rfl, rfl, ⟨2, rfl, Lib.hid rfl⟩, Lib.hid (Below.refl _ _)⟩
    case round =>
      clear c0 c1 c2 c3 c4
      obtain ⟨k, hk, rfl, rfl, ⟨V, rfl, HV⟩, HB⟩ := hrel
      have HAW := kept_hid K4 HB.out
      have G5 := Lib.hid (blk G4.out HB.out)
      obtain ⟨c0, c1, c2, c3, c4⟩ := cells5w G5.out
      have ew : IntKind.i64.wrap ((k : Int) + 1) = (k : Int) + 1 := by
        have := HOS.out
        rw [IntWalk.i64_in] <;> omega
      have hn := HO.out.len
      by_cases hlt : k < os.length
      · obtain ⟨ok, ot, op, on, os_, om, oa, oc, ex⟩ := o_eta (os.getD k none_)
        obtain ⟨b1, o1, ta, tn, tc, rfl, g0, g1, g2, g3, g4, g5, g6, g7, B1, N1⟩ := (HO.out.below HAW.out).cells hlt ex
        obtain rfl := bytes_len B1
        obtain rfl := hn
        have hi0 : (0 : Int) ≤ (k : Int) := by omega
        have hi1 : (k : Int) < (os.length : Int) := by omega
        have hwk : wrong (os.getD k none_) z = 0 := HL0.out.2.1 _ (by rw [List.getD_eq_getElem?_getD, List.getElem?_eq_getElem hlt]; exact List.getElem_mem hlt)
        obtain ⟨_, hk1, hk7⟩ := olen_right hwk
        rw [ex] at hk1 hk7
        simp only at hk1 hk7
        have htk := olens_take hlt
        rw [ex] at htk
        have hle := olens_le (os := os) (k + 1)
        have hbl := HBL.out
        have hll := HL0.out.1
        rw [← HW0.out] at hll
        have hV := HV.out
        have l1 := cell_lt c4
        have lb1 := cell_lt g1
        have l2 : w.heap.size ≠ wr.heap.size := by omega
        have l3 : b1 ≠ wr.heap.size := by omega
        have hok : ok = 1 ∨ ok = 2 ∨ ok = 3 ∨ ok = 4 ∨ ok = 5 ∨ ok = 6 ∨ ok = 7 := by omega
        clear hwk B1 N1 hk1 hk7
        rcases hok with rfl | rfl | rfl | rfl | rfl | rfl | rfl
        · have hol : olen ⟨1, ot, op, on, os_, om, oa, oc⟩ = ot.length + 0 := by simp [olen]
          rw [hol] at htk
          have ew1 : IntKind.i64.wrap ((V : Int) + (ot.length : Int)) = (V : Int) + (ot.length : Int) := by rw [IntWalk.i64_in] <;> omega
          have ew2 : IntKind.i64.wrap ((V : Int) + (ot.length : Int) + 0) = (V : Int) + (ot.length : Int) + 0 := by rw [IntWalk.i64_in] <;> omega
          have HV2 := Lib.hid (show V + ot.length + 0 = 2 + olens (os.take (k + 1)) by omega)
          clear hol htk hle hbl hll hV
          go_wp2_with fail
          go_region
          have HB6 := Lib.hid (kept_alloc HB (.cells #[.int .i64 0, .int .i64 0, .int .i64 2, .int .i64 3, .int .i64 1, .int .i64 1, .int .i64 4, .int .i64 3] 3)).out.drew
          clear g0 g1 g2 g3 g4 g5 g6 g7 l1 lb1 l2 l3 c0 c1 c2 c3 c4 ew1 ew2
          go_wp2_with fail
          go_roundg (os.length + 1 - (k + 1))
          case measure => omega
          case rel => exact ⟨k + 1, by omega, rfl, rfl, ⟨V + ot.length + 0, by rw [show ((V + ot.length + 0 : Nat) : Int) = (V : Int) + (ot.length : Int) + 0 from by omega]; simp, HV2⟩, HB6⟩
        · have hol : olen ⟨2, ot, op, on, os_, om, oa, oc⟩ = ot.length + 2 := by simp [olen]
          rw [hol] at htk
          have ew1 : IntKind.i64.wrap ((V : Int) + (ot.length : Int)) = (V : Int) + (ot.length : Int) := by rw [IntWalk.i64_in] <;> omega
          have ew2 : IntKind.i64.wrap ((V : Int) + (ot.length : Int) + 2) = (V : Int) + (ot.length : Int) + 2 := by rw [IntWalk.i64_in] <;> omega
          have HV2 := Lib.hid (show V + ot.length + 2 = 2 + olens (os.take (k + 1)) by omega)
          clear hol htk hle hbl hll hV
          go_wp2_with fail
          go_region
          have HB6 := Lib.hid (kept_alloc HB (.cells #[.int .i64 0, .int .i64 0, .int .i64 2, .int .i64 3, .int .i64 1, .int .i64 1, .int .i64 4, .int .i64 3] 3)).out.drew
          clear g0 g1 g2 g3 g4 g5 g6 g7 l1 lb1 l2 l3 c0 c1 c2 c3 c4 ew1 ew2
          go_wp2_with fail
          go_roundg (os.length + 1 - (k + 1))
          case measure => omega
          case rel => exact ⟨k + 1, by omega, rfl, rfl, ⟨V + ot.length + 2, by rw [show ((V + ot.length + 2 : Nat) : Int) = (V : Int) + (ot.length : Int) + 2 from by omega], HV2⟩, HB6⟩
        · have hol : olen ⟨3, ot, op, on, os_, om, oa, oc⟩ = ot.length + 3 := by simp [olen]
          rw [hol] at htk
          have ew1 : IntKind.i64.wrap ((V : Int) + (ot.length : Int)) = (V : Int) + (ot.length : Int) := by rw [IntWalk.i64_in] <;> omega
          have ew2 : IntKind.i64.wrap ((V : Int) + (ot.length : Int) + 3) = (V : Int) + (ot.length : Int) + 3 := by rw [IntWalk.i64_in] <;> omega
          have HV2 := Lib.hid (show V + ot.length + 3 = 2 + olens (os.take (k + 1)) by omega)
          clear hol htk hle hbl hll hV
          go_wp2_with fail
          go_region
          have HB6 := Lib.hid (kept_alloc HB (.cells #[.int .i64 0, .int .i64 0, .int .i64 2, .int .i64 3, .int .i64 1, .int .i64 1, .int .i64 4, .int .i64 3] 3)).out.drew
          clear g0 g1 g2 g3 g4 g5 g6 g7 l1 lb1 l2 l3 c0 c1 c2 c3 c4 ew1 ew2
          go_wp2_with fail
          go_roundg (os.length + 1 - (k + 1))
          case measure => omega
          case rel => exact ⟨k + 1, by omega, rfl, rfl, ⟨V + ot.length + 3, by rw [show ((V + ot.length + 3 : Nat) : Int) = (V : Int) + (ot.length : Int) + 3 from by omega], HV2⟩, HB6⟩
        · have hol : olen ⟨4, ot, op, on, os_, om, oa, oc⟩ = ot.length + 1 := by simp [olen]
          rw [hol] at htk
          have ew1 : IntKind.i64.wrap ((V : Int) + (ot.length : Int)) = (V : Int) + (ot.length : Int) := by rw [IntWalk.i64_in] <;> omega
          have ew2 : IntKind.i64.wrap ((V : Int) + (ot.length : Int) + 1) = (V : Int) + (ot.length : Int) + 1 := by rw [IntWalk.i64_in] <;> omega
          have HV2 := Lib.hid (show V + ot.length + 1 = 2 + olens (os.take (k + 1)) by omega)
          clear hol htk hle hbl hll hV
          go_wp2_with fail
          go_region
          have HB6 := Lib.hid (kept_alloc HB (.cells #[.int .i64 0, .int .i64 0, .int .i64 2, .int .i64 3, .int .i64 1, .int .i64 1, .int .i64 4, .int .i64 3] 3)).out.drew
          clear g0 g1 g2 g3 g4 g5 g6 g7 l1 lb1 l2 l3 c0 c1 c2 c3 c4 ew1 ew2
          go_wp2_with fail
          go_roundg (os.length + 1 - (k + 1))
          case measure => omega
          case rel => exact ⟨k + 1, by omega, rfl, rfl, ⟨V + ot.length + 1, by rw [show ((V + ot.length + 1 : Nat) : Int) = (V : Int) + (ot.length : Int) + 1 from by omega], HV2⟩, HB6⟩
        · have hol : olen ⟨5, ot, op, on, os_, om, oa, oc⟩ = ot.length + 1 := by simp [olen]
          rw [hol] at htk
          have ew1 : IntKind.i64.wrap ((V : Int) + (ot.length : Int)) = (V : Int) + (ot.length : Int) := by rw [IntWalk.i64_in] <;> omega
          have ew2 : IntKind.i64.wrap ((V : Int) + (ot.length : Int) + 1) = (V : Int) + (ot.length : Int) + 1 := by rw [IntWalk.i64_in] <;> omega
          have HV2 := Lib.hid (show V + ot.length + 1 = 2 + olens (os.take (k + 1)) by omega)
          clear hol htk hle hbl hll hV
          go_wp2_with fail
          go_region
          have HB6 := Lib.hid (kept_alloc HB (.cells #[.int .i64 0, .int .i64 0, .int .i64 2, .int .i64 3, .int .i64 1, .int .i64 1, .int .i64 4, .int .i64 3] 3)).out.drew
          clear g0 g1 g2 g3 g4 g5 g6 g7 l1 lb1 l2 l3 c0 c1 c2 c3 c4 ew1 ew2
          go_wp2_with fail
          go_roundg (os.length + 1 - (k + 1))
          case measure => omega
          case rel => exact ⟨k + 1, by omega, rfl, rfl, ⟨V + ot.length + 1, by rw [show ((V + ot.length + 1 : Nat) : Int) = (V : Int) + (ot.length : Int) + 1 from by omega], HV2⟩, HB6⟩
        · have hol : olen ⟨6, ot, op, on, os_, om, oa, oc⟩ = ot.length + 4 := by simp [olen]
          rw [hol] at htk
          have ew1 : IntKind.i64.wrap ((V : Int) + (ot.length : Int)) = (V : Int) + (ot.length : Int) := by rw [IntWalk.i64_in] <;> omega
          have ew2 : IntKind.i64.wrap ((V : Int) + (ot.length : Int) + 4) = (V : Int) + (ot.length : Int) + 4 := by rw [IntWalk.i64_in] <;> omega
          have HV2 := Lib.hid (show V + ot.length + 4 = 2 + olens (os.take (k + 1)) by omega)
          clear hol htk hle hbl hll hV
          go_wp2_with fail
          go_region
          have HB6 := Lib.hid (kept_alloc HB (.cells #[.int .i64 0, .int .i64 0, .int .i64 2, .int .i64 3, .int .i64 1, .int .i64 1, .int .i64 4, .int .i64 3] 3)).out.drew
          clear g0 g1 g2 g3 g4 g5 g6 g7 l1 lb1 l2 l3 c0 c1 c2 c3 c4 ew1 ew2
          go_wp2_with fail
          go_roundg (os.length + 1 - (k + 1))
          case measure => omega
          case rel => exact ⟨k + 1, by omega, rfl, rfl, ⟨V + ot.length + 4, by rw [show ((V + ot.length + 4 : Nat) : Int) = (V : Int) + (ot.length : Int) + 4 from by omega], HV2⟩, HB6⟩
        · have hol : olen ⟨7, ot, op, on, os_, om, oa, oc⟩ = ot.length + 3 := by simp [olen]
          rw [hol] at htk
          have ew1 : IntKind.i64.wrap ((V : Int) + (ot.length : Int)) = (V : Int) + (ot.length : Int) := by rw [IntWalk.i64_in] <;> omega
          have ew2 : IntKind.i64.wrap ((V : Int) + (ot.length : Int) + 3) = (V : Int) + (ot.length : Int) + 3 := by rw [IntWalk.i64_in] <;> omega
          have HV2 := Lib.hid (show V + ot.length + 3 = 2 + olens (os.take (k + 1)) by omega)
          clear hol htk hle hbl hll hV
          go_wp2_with fail
          go_region
          have HB6 := Lib.hid (kept_alloc HB (.cells #[.int .i64 0, .int .i64 0, .int .i64 2, .int .i64 3, .int .i64 1, .int .i64 1, .int .i64 4, .int .i64 3] 3)).out.drew
          clear g0 g1 g2 g3 g4 g5 g6 g7 l1 lb1 l2 l3 c0 c1 c2 c3 c4 ew1 ew2
          go_wp2_with fail
          go_roundg (os.length + 1 - (k + 1))
          case measure => omega
          case rel => exact ⟨k + 1, by omega, rfl, rfl, ⟨V + ot.length + 3, by rw [show ((V + ot.length + 3 : Nat) : Int) = (V : Int) + (ot.length : Int) + 3 from by omega], HV2⟩, HB6⟩
      · obtain rfl : k = os.length := by omega
        obtain rfl := hn
        have hV := HV.out
        rw [List.take_length] at hV
        obtain ⟨hl0, _, hb0, hbp, hc0, hc1⟩ := HL0.out
        rw [← HW0.out] at hl0
        have hbl := HBL.out
        have hbe : ((bs.length : Int) == (V : Int)) = true := by simp; omega
        have hv : (V : Int) ≤ 8192 := by omega
        have OW5 := own_below OW.out HB.out
        obtain ⟨g, rfl, cb⟩ : ∃ g, va = some ⟨g, 0, none⟩ ∧ wr.cell? ⟨g, 0, none⟩ = some (.int .u8 cmd) := by
          obtain ⟨g, hg, this⟩ := own_first OW5 hbp
          rw [hb0, show ((cmd.toNat : Nat) : Int) = cmd from by omega] at this
          exact ⟨g, hg, this⟩
        have ec : wrap64 cmd = cmd := by unfold wrap64; omega
        have hi0 : (0 : Int) < (bs.length : Int) := by omega
        clear hlt hV hl0 hb0 hbp hbl OW5
        have hn0 : ¬ (os.length : Int) < (os.length : Int) := by omega
        go_wp2_with fail
        go_quiet (fail)
        have K7 := kept_draw HAW nq
        go_wp2_with fail
        go_ret
        exact ⟨rfl, K7.out⟩
  | false =>
    obtain rfl : W0 = 1 := by rw [HW0.out, hwc]; rfl
    clear hwc
    go_wp2_with fail
    go_loopg [7, 8] (os.length + 1) (fun m vw i wr => ∃ k : Nat, k ≤ os.length ∧ m = os.length + 1 - k ∧ i = .int .i64 k ∧ (∃ V : Nat, vw = .int .i64 (V : Int) ∧ Hid (V = 1 + olens (os.take k))) ∧ Hid (Below w4.heap.size w4 wr))
    case atStart => exact ⟨0, Nat.zero_le _, rfl, rfl, ⟨1, rfl, Lib.hid rfl⟩, Lib.hid (Below.refl _ _)⟩
    case round =>
      clear c0 c1 c2 c3 c4
      obtain ⟨k, hk, rfl, rfl, ⟨V, rfl, HV⟩, HB⟩ := hrel
      have HAW := kept_hid K4 HB.out
      have G5 := Lib.hid (blk G4.out HB.out)
      obtain ⟨c0, c1, c2, c3, c4⟩ := cells5w G5.out
      have ew : IntKind.i64.wrap ((k : Int) + 1) = (k : Int) + 1 := by
        have := HOS.out
        rw [IntWalk.i64_in] <;> omega
      have hn := HO.out.len
      by_cases hlt : k < os.length
      · obtain ⟨ok, ot, op, on, os_, om, oa, oc, ex⟩ := o_eta (os.getD k none_)
        obtain ⟨b1, o1, ta, tn, tc, rfl, g0, g1, g2, g3, g4, g5, g6, g7, B1, N1⟩ := (HO.out.below HAW.out).cells hlt ex
        obtain rfl := bytes_len B1
        obtain rfl := hn
        have hi0 : (0 : Int) ≤ (k : Int) := by omega
        have hi1 : (k : Int) < (os.length : Int) := by omega
        have hwk : wrong (os.getD k none_) z = 0 := HL0.out.2.1 _ (by rw [List.getD_eq_getElem?_getD, List.getElem?_eq_getElem hlt]; exact List.getElem_mem hlt)
        obtain ⟨_, hk1, hk7⟩ := olen_right hwk
        rw [ex] at hk1 hk7
        simp only at hk1 hk7
        have htk := olens_take hlt
        rw [ex] at htk
        have hle := olens_le (os := os) (k + 1)
        have hbl := HBL.out
        have hll := HL0.out.1
        rw [← HW0.out] at hll
        have hV := HV.out
        have l1 := cell_lt c4
        have lb1 := cell_lt g1
        have l2 : w.heap.size ≠ wr.heap.size := by omega
        have l3 : b1 ≠ wr.heap.size := by omega
        have hok : ok = 1 ∨ ok = 2 ∨ ok = 3 ∨ ok = 4 ∨ ok = 5 ∨ ok = 6 ∨ ok = 7 := by omega
        clear hwk B1 N1 hk1 hk7
        rcases hok with rfl | rfl | rfl | rfl | rfl | rfl | rfl
        · have hol : olen ⟨1, ot, op, on, os_, om, oa, oc⟩ = ot.length + 0 := by simp [olen]
          rw [hol] at htk
          have ew1 : IntKind.i64.wrap ((V : Int) + (ot.length : Int)) = (V : Int) + (ot.length : Int) := by rw [IntWalk.i64_in] <;> omega
          have ew2 : IntKind.i64.wrap ((V : Int) + (ot.length : Int) + 0) = (V : Int) + (ot.length : Int) + 0 := by rw [IntWalk.i64_in] <;> omega
          have HV2 := Lib.hid (show V + ot.length + 0 = 1 + olens (os.take (k + 1)) by omega)
          clear hol htk hle hbl hll hV
          go_wp2_with fail
          go_region
          have HB6 := Lib.hid (kept_alloc HB (.cells #[.int .i64 0, .int .i64 0, .int .i64 2, .int .i64 3, .int .i64 1, .int .i64 1, .int .i64 4, .int .i64 3] 3)).out.drew
          clear g0 g1 g2 g3 g4 g5 g6 g7 l1 lb1 l2 l3 c0 c1 c2 c3 c4 ew1 ew2
          go_wp2_with fail
          go_roundg (os.length + 1 - (k + 1))
          case measure => omega
          case rel => exact ⟨k + 1, by omega, rfl, rfl, ⟨V + ot.length + 0, by rw [show ((V + ot.length + 0 : Nat) : Int) = (V : Int) + (ot.length : Int) + 0 from by omega]; simp, HV2⟩, HB6⟩
        · have hol : olen ⟨2, ot, op, on, os_, om, oa, oc⟩ = ot.length + 2 := by simp [olen]
          rw [hol] at htk
          have ew1 : IntKind.i64.wrap ((V : Int) + (ot.length : Int)) = (V : Int) + (ot.length : Int) := by rw [IntWalk.i64_in] <;> omega
          have ew2 : IntKind.i64.wrap ((V : Int) + (ot.length : Int) + 2) = (V : Int) + (ot.length : Int) + 2 := by rw [IntWalk.i64_in] <;> omega
          have HV2 := Lib.hid (show V + ot.length + 2 = 1 + olens (os.take (k + 1)) by omega)
          clear hol htk hle hbl hll hV
          go_wp2_with fail
          go_region
          have HB6 := Lib.hid (kept_alloc HB (.cells #[.int .i64 0, .int .i64 0, .int .i64 2, .int .i64 3, .int .i64 1, .int .i64 1, .int .i64 4, .int .i64 3] 3)).out.drew
          clear g0 g1 g2 g3 g4 g5 g6 g7 l1 lb1 l2 l3 c0 c1 c2 c3 c4 ew1 ew2
          go_wp2_with fail
          go_roundg (os.length + 1 - (k + 1))
          case measure => omega
          case rel => exact ⟨k + 1, by omega, rfl, rfl, ⟨V + ot.length + 2, by rw [show ((V + ot.length + 2 : Nat) : Int) = (V : Int) + (ot.length : Int) + 2 from by omega], HV2⟩, HB6⟩
        · have hol : olen ⟨3, ot, op, on, os_, om, oa, oc⟩ = ot.length + 3 := by simp [olen]
          rw [hol] at htk
          have ew1 : IntKind.i64.wrap ((V : Int) + (ot.length : Int)) = (V : Int) + (ot.length : Int) := by rw [IntWalk.i64_in] <;> omega
          have ew2 : IntKind.i64.wrap ((V : Int) + (ot.length : Int) + 3) = (V : Int) + (ot.length : Int) + 3 := by rw [IntWalk.i64_in] <;> omega
          have HV2 := Lib.hid (show V + ot.length + 3 = 1 + olens (os.take (k + 1)) by omega)
          clear hol htk hle hbl hll hV
          go_wp2_with fail
          go_region
          have HB6 := Lib.hid (kept_alloc HB (.cells #[.int .i64 0, .int .i64 0, .int .i64 2, .int .i64 3, .int .i64 1, .int .i64 1, .int .i64 4, .int .i64 3] 3)).out.drew
          clear g0 g1 g2 g3 g4 g5 g6 g7 l1 lb1 l2 l3 c0 c1 c2 c3 c4 ew1 ew2
          go_wp2_with fail
          go_roundg (os.length + 1 - (k + 1))
          case measure => omega
          case rel => exact ⟨k + 1, by omega, rfl, rfl, ⟨V + ot.length + 3, by rw [show ((V + ot.length + 3 : Nat) : Int) = (V : Int) + (ot.length : Int) + 3 from by omega], HV2⟩, HB6⟩
        · have hol : olen ⟨4, ot, op, on, os_, om, oa, oc⟩ = ot.length + 1 := by simp [olen]
          rw [hol] at htk
          have ew1 : IntKind.i64.wrap ((V : Int) + (ot.length : Int)) = (V : Int) + (ot.length : Int) := by rw [IntWalk.i64_in] <;> omega
          have ew2 : IntKind.i64.wrap ((V : Int) + (ot.length : Int) + 1) = (V : Int) + (ot.length : Int) + 1 := by rw [IntWalk.i64_in] <;> omega
          have HV2 := Lib.hid (show V + ot.length + 1 = 1 + olens (os.take (k + 1)) by omega)
          clear hol htk hle hbl hll hV
          go_wp2_with fail
          go_region
          have HB6 := Lib.hid (kept_alloc HB (.cells #[.int .i64 0, .int .i64 0, .int .i64 2, .int .i64 3, .int .i64 1, .int .i64 1, .int .i64 4, .int .i64 3] 3)).out.drew
          clear g0 g1 g2 g3 g4 g5 g6 g7 l1 lb1 l2 l3 c0 c1 c2 c3 c4 ew1 ew2
          go_wp2_with fail
          go_roundg (os.length + 1 - (k + 1))
          case measure => omega
          case rel => exact ⟨k + 1, by omega, rfl, rfl, ⟨V + ot.length + 1, by rw [show ((V + ot.length + 1 : Nat) : Int) = (V : Int) + (ot.length : Int) + 1 from by omega], HV2⟩, HB6⟩
        · have hol : olen ⟨5, ot, op, on, os_, om, oa, oc⟩ = ot.length + 1 := by simp [olen]
          rw [hol] at htk
          have ew1 : IntKind.i64.wrap ((V : Int) + (ot.length : Int)) = (V : Int) + (ot.length : Int) := by rw [IntWalk.i64_in] <;> omega
          have ew2 : IntKind.i64.wrap ((V : Int) + (ot.length : Int) + 1) = (V : Int) + (ot.length : Int) + 1 := by rw [IntWalk.i64_in] <;> omega
          have HV2 := Lib.hid (show V + ot.length + 1 = 1 + olens (os.take (k + 1)) by omega)
          clear hol htk hle hbl hll hV
          go_wp2_with fail
          go_region
          have HB6 := Lib.hid (kept_alloc HB (.cells #[.int .i64 0, .int .i64 0, .int .i64 2, .int .i64 3, .int .i64 1, .int .i64 1, .int .i64 4, .int .i64 3] 3)).out.drew
          clear g0 g1 g2 g3 g4 g5 g6 g7 l1 lb1 l2 l3 c0 c1 c2 c3 c4 ew1 ew2
          go_wp2_with fail
          go_roundg (os.length + 1 - (k + 1))
          case measure => omega
          case rel => exact ⟨k + 1, by omega, rfl, rfl, ⟨V + ot.length + 1, by rw [show ((V + ot.length + 1 : Nat) : Int) = (V : Int) + (ot.length : Int) + 1 from by omega], HV2⟩, HB6⟩
        · have hol : olen ⟨6, ot, op, on, os_, om, oa, oc⟩ = ot.length + 4 := by simp [olen]
          rw [hol] at htk
          have ew1 : IntKind.i64.wrap ((V : Int) + (ot.length : Int)) = (V : Int) + (ot.length : Int) := by rw [IntWalk.i64_in] <;> omega
          have ew2 : IntKind.i64.wrap ((V : Int) + (ot.length : Int) + 4) = (V : Int) + (ot.length : Int) + 4 := by rw [IntWalk.i64_in] <;> omega
          have HV2 := Lib.hid (show V + ot.length + 4 = 1 + olens (os.take (k + 1)) by omega)
          clear hol htk hle hbl hll hV
          go_wp2_with fail
          go_region
          have HB6 := Lib.hid (kept_alloc HB (.cells #[.int .i64 0, .int .i64 0, .int .i64 2, .int .i64 3, .int .i64 1, .int .i64 1, .int .i64 4, .int .i64 3] 3)).out.drew
          clear g0 g1 g2 g3 g4 g5 g6 g7 l1 lb1 l2 l3 c0 c1 c2 c3 c4 ew1 ew2
          go_wp2_with fail
          go_roundg (os.length + 1 - (k + 1))
          case measure => omega
          case rel => exact ⟨k + 1, by omega, rfl, rfl, ⟨V + ot.length + 4, by rw [show ((V + ot.length + 4 : Nat) : Int) = (V : Int) + (ot.length : Int) + 4 from by omega], HV2⟩, HB6⟩
        · have hol : olen ⟨7, ot, op, on, os_, om, oa, oc⟩ = ot.length + 3 := by simp [olen]
          rw [hol] at htk
          have ew1 : IntKind.i64.wrap ((V : Int) + (ot.length : Int)) = (V : Int) + (ot.length : Int) := by rw [IntWalk.i64_in] <;> omega
          have ew2 : IntKind.i64.wrap ((V : Int) + (ot.length : Int) + 3) = (V : Int) + (ot.length : Int) + 3 := by rw [IntWalk.i64_in] <;> omega
          have HV2 := Lib.hid (show V + ot.length + 3 = 1 + olens (os.take (k + 1)) by omega)
          clear hol htk hle hbl hll hV
          go_wp2_with fail
          go_region
          have HB6 := Lib.hid (kept_alloc HB (.cells #[.int .i64 0, .int .i64 0, .int .i64 2, .int .i64 3, .int .i64 1, .int .i64 1, .int .i64 4, .int .i64 3] 3)).out.drew
          clear g0 g1 g2 g3 g4 g5 g6 g7 l1 lb1 l2 l3 c0 c1 c2 c3 c4 ew1 ew2
          go_wp2_with fail
          go_roundg (os.length + 1 - (k + 1))
          case measure => omega
          case rel => exact ⟨k + 1, by omega, rfl, rfl, ⟨V + ot.length + 3, by rw [show ((V + ot.length + 3 : Nat) : Int) = (V : Int) + (ot.length : Int) + 3 from by omega], HV2⟩, HB6⟩
      · obtain rfl : k = os.length := by omega
        obtain rfl := hn
        have hV := HV.out
        rw [List.take_length] at hV
        obtain ⟨hl0, _, hb0, hbp, hc0, hc1⟩ := HL0.out
        rw [← HW0.out] at hl0
        have hbl := HBL.out
        have hbe : ((bs.length : Int) == (V : Int)) = true := by simp; omega
        have hv : (V : Int) ≤ 8192 := by omega
        have OW5 := own_below OW.out HB.out
        obtain ⟨g, rfl, cb⟩ : ∃ g, va = some ⟨g, 0, none⟩ ∧ wr.cell? ⟨g, 0, none⟩ = some (.int .u8 cmd) := by
          obtain ⟨g, hg, this⟩ := own_first OW5 hbp
          rw [hb0, show ((cmd.toNat : Nat) : Int) = cmd from by omega] at this
          exact ⟨g, hg, this⟩
        have ec : wrap64 cmd = cmd := by unfold wrap64; omega
        have hi0 : (0 : Int) < (bs.length : Int) := by omega
        clear hlt hV hl0 hb0 hbp hbl OW5
        have hn0 : ¬ (os.length : Int) < (os.length : Int) := by omega
        go_wp2_with fail
        go_quiet (fail)
        have K7 := kept_draw HAW nq
        go_wp2_with fail
        go_ret
        exact ⟨rfl, K7.out⟩
/-- StreamLengths returns true. -/
theorem lengths_all (cmd : Int) (a u r : Bool) (ov : Value) (os : List O) (nn : Int) (w : World) (ho : OrdsIn w 0 ov os) (hb : ∀ o ∈ os, (∀ x ∈ o.t, x < 256) ∧ o.c < 256) (hm : os.length ≤ maxLen) (hn : (Lit.int .u16 nn).wf = true) (hgl : Handle w) :
    Calls Tryd.prog 7 #[.agg #[.int .i64 cmd, .bool a, .bool u, .bool r, ov], .int .u16 nn] w fun e w' => e = .returned (.bool true) ∧ Below w.heap.size w w' := by
  obtain ⟨ad, cap, rfl, _, _⟩ := ho.form
  cases hf : fewB os with
  | false => exact lengths_many cmd a u r ad _ cap os nn w ho hm hf hgl
  | true =>
    obtain ⟨hs, hos⟩ := sound_few hf hb
    have hn := wf_u16 hn
    obtain ⟨nn, rfl⟩ := Int.eq_ofNat_of_zero_le (a := nn) (by omega)
    exact lengths_few cmd a u r ad _ cap os nn _ w ho hm hf hs hos (by omega) rfl hgl
end Str
end Go.Proofs.YtmllmmamdkjndaaDoor
