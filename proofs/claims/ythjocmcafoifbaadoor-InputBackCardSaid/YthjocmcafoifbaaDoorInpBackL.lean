/- InputBack returns true. Written by tools/gen_inp_laws.py. -/
import Derived.Test.YthjocmcafoifbaaDoorInpTells
import Derived.Test.YthjocmcafoifbaaDoorInpRsame
import Derived.Deep.RegionHeld3
namespace Go.Proofs.YthjocmcafoifbaaDoor
open Go.RowKit Sha Cut Err Six Att Byt Apd
namespace Inp
set_option maxRecDepth 100000 in
set_option maxHeartbeats 4000000 in
theorem back_many (k : Nat) (c : Int) (ad : Option Addr) (n cap : Nat) (os : List F) (ba : Option Addr) (bl bc : Nat) (nn : Int) (w : World) (ho : FldsIn w 0 (.slice ad n cap) os) (hm : n ≤ maxLen) (hf : fewB os = false) (hgl : Handle w) :
    Calls Tryd.prog 4 #[.agg #[.int .u8 (k : Int), .int .i64 c, .slice ad n cap], .slice ba bl bc, .int .u16 nn] w fun e w' => e = .returned (.bool true) ∧ Below w.heap.size w w' := by
  have HF := fun W hb => few_any ⟨k, c, os⟩ ad n cap W (ho.below hb) hm
  simp only [hf] at HF
  replace HF := Lib.hid HF
  have HH := Lib.hid hgl
  have HA := Lib.hid (al_any w (.cells #[.int .u8 (k : Int), .int .i64 c, .slice ad n cap] 27))
  have HG := Lib.hid (heap_alloc_new w (.cells #[.int .u8 (k : Int), .int .i64 c, .slice ad n cap] 27))
  clear ho hm hf hgl
  go_enter Tryd.func4, Tryd.ntmps4
  go_wp2_with fail
  generalize w.alloc (.cells #[.int .u8 (k : Int), .int .i64 c, .slice ad n cap] 27) = w1 at *
  with_reducible refine (awake_any _ (hand_of HH.out HA.out)).mono ?_
  rintro e w2 ⟨rfl, hb⟩
  have K2 := kept_hid HA hb
  have G2 := Lib.hid (blk HG.out hb)
  clear hb HA HG
  obtain ⟨c0, c1, c2⟩ := cells3 G2.out
  go_wp2_with fail
  clear c0 c1 c2
  with_reducible refine (HF.out _ K2.out).mono ?_
  rintro e w3 ⟨rfl, hb⟩
  have K3 := kept_hid K2 hb
  have G3 := Lib.hid (blk G2.out hb)
  clear hb K2 HF G2
  go_wp2_with fail
  with_reducible refine (awake_any _ (hand_of HH.out K3.out)).mono ?_
  rintro e wz ⟨rfl, hb⟩
  have Kz := kept_hid K3 hb
  clear hb
  go_wp2_with fail
  go_ret
  exact ⟨rfl, Kz.out⟩
set_option maxRecDepth 100000 in
set_option maxHeartbeats 4000000 in
theorem back_long (k : Nat) (c : Int) (ad : Option Addr) (n cap : Nat) (os : List F) (ba : Option Addr) (bl bc : Nat) (nn : Int) (w : World) (ho : FldsIn w 0 (.slice ad n cap) os) (hm : n ≤ maxLen) (hf : fewB os = true) (hl : 9000 < bl) (hgl : Handle w) :
    Calls Tryd.prog 4 #[.agg #[.int .u8 (k : Int), .int .i64 c, .slice ad n cap], .slice ba bl bc, .int .u16 nn] w fun e w' => e = .returned (.bool true) ∧ Below w.heap.size w w' := by
  have hg : (9000 : Int) < (bl : Int) := by omega
  have HF := fun W hb => few_any ⟨k, c, os⟩ ad n cap W (ho.below hb) hm
  simp only [hf] at HF
  replace HF := Lib.hid HF
  have HH := Lib.hid hgl
  have HA := Lib.hid (al_any w (.cells #[.int .u8 (k : Int), .int .i64 c, .slice ad n cap] 27))
  have HG := Lib.hid (heap_alloc_new w (.cells #[.int .u8 (k : Int), .int .i64 c, .slice ad n cap] 27))
  clear ho hm hf hgl hl
  go_enter Tryd.func4, Tryd.ntmps4
  go_wp2_with fail
  generalize w.alloc (.cells #[.int .u8 (k : Int), .int .i64 c, .slice ad n cap] 27) = w1 at *
  with_reducible refine (awake_any _ (hand_of HH.out HA.out)).mono ?_
  rintro e w2 ⟨rfl, hb⟩
  have K2 := kept_hid HA hb
  have G2 := Lib.hid (blk HG.out hb)
  clear hb HA HG
  obtain ⟨c0, c1, c2⟩ := cells3 G2.out
  go_wp2_with fail
  clear c0 c1 c2
  with_reducible refine (HF.out _ K2.out).mono ?_
  rintro e w3 ⟨rfl, hb⟩
  have K3 := kept_hid K2 hb
  have G3 := Lib.hid (blk G2.out hb)
  clear hb K2 HF G2
  go_wp2_with fail
  with_reducible refine (awake_any _ (hand_of HH.out K3.out)).mono ?_
  rintro e wz ⟨rfl, hb⟩
  have Kz := kept_hid K3 hb
  clear hb
  go_wp2_with fail
  go_ret
  exact ⟨rfl, Kz.out⟩
set_option maxRecDepth 100000 in
set_option maxHeartbeats 16000000 in
theorem back_main (k : Nat) (c : Int) (ad : Option Addr) (n cap : Nat) (os : List F) {xs : List Nat} (ba : Option Addr) (bc : Nat) (nn z : Nat) (w : World) (hka : k < 256) (ho : FldsIn w 0 (.slice ad n cap) os) (hm : n ≤ maxLen) (hf : fewB os = true) (hs : Sound os) (hos : os.length ≤ 60)
    (hB : BytesIn w (.slice ba xs.length bc) xs) (h8 : ∀ x ∈ xs, x < 256) (hba : ba = none → xs.length = 0 ∧ bc = 0) (hl : xs.length ≤ 9000) (hnn : nn < 65536) (hz : 1 + nn % 16383 = z) (hgl : Handle w) :
    Calls Tryd.prog 4 #[.agg #[.int .u8 (k : Int), .int .i64 c, .slice ad n cap], .slice ba xs.length bc, .int .u16 (nn : Int)] w fun e w' => e = .returned (.bool true) ∧ Below w.heap.size w w' := by
  have hz1 : 1 ≤ z := by omega
  have hz2 : z ≤ 16383 := by omega
  have hg : ¬ (9000 : Int) < (xs.length : Int) := by omega
  have HZ := Lib.hid fun W => size_any nn W hnn
  rw [hz] at HZ
  have HF := fun W hb => few_any ⟨k, c, os⟩ ad n cap W (ho.below hb) hm
  simp only [hf] at HF
  replace HF := Lib.hid HF
  have HP := fun W hb => write_any ⟨k, c, os⟩ ad n cap z W hka (ho.below hb) hs (by simp only; omega) hz1 hz2 _ rfl
  obtain ⟨b8, bl⟩ := iwrite_bytes (x := ⟨k, c, os⟩) (z := z) hz2 hka hs
  have HRX := fun (h0 : (iwrite ⟨k, c, os⟩ z).2.1 = 0) (W : World) (hh : Handle W) (va : Option Addr) (vc : Nat) (hw : BytesIn W (.slice va (iwrite ⟨k, c, os⟩ z).1.length vc) (iwrite ⟨k, c, os⟩ z).1) (hv : va = none → (iwrite ⟨k, c, os⟩ z).1.length = 0 ∧ vc = 0) => read_any va _ vc z W hh hw b8 hv (by omega) (⟨k, c, os⟩, 0, -1) (iread_write hz2 h0).symm
  simp only at HP HRX
  have HSO := Lib.hid hs
  have HO60 := Lib.hid (show os.length < 1000000 by omega)
  have HO := Lib.hid ho
  -- whatever is read is written as it stood
  have HRB := fun W hh hb => read_any ba xs.length bc z W hh (bytes_below hB hb) h8 hba (by omega) _ rfl
  obtain ⟨qk8, qsl, qs⟩ := iread_sound (z := z) h8
  have qsd : Sound (iread xs z).1.fs := fun o ho => ⟨(qs o ho).2.2, by have := (qs o ho).2.1; omega⟩
  have HQW := fun (h0 : (iread xs z).2.1 = 0) (W : World) (oa : Option Addr) (kk oc : Nat) (hw : FldsIn W 0 (.slice oa kk oc) (iread xs z).1.fs) => (write_any (iread xs z).1 oa kk oc z W qk8 hw qsd (by omega) hz1 hz2 (xs, 0, -1) (iwrite_read h8 h0).1.symm).mono (R' := fun e w' => ∃ va vc, e = .returned (.tuple #[.slice va xs.length vc, .nilIface]) ∧ Below W.heap.size W w' ∧ BytesIn w' (.slice va xs.length vc) xs) (by
    rintro e w' ⟨va, vc, ev, rfl, hb, hS, hown⟩
    obtain rfl := hS.none rfl
    exact ⟨va, vc, rfl, hb, own_bytes hown⟩)
  have HQR := fun (h0 : (iread xs z).2.1 = 0) (W : World) (oa : Option Addr) (kk oc : Nat) (hw : FldsIn W 0 (.slice oa kk oc) (iread xs z).1.fs) => (right_any (iread xs z).1 oa kk oc z W qk8 hw qsd (by omega) hz1 hz2 _ (iwrite_read h8 h0).2.symm).mono (R' := fun e w' => e = .returned .nilIface ∧ Below W.heap.size W w') (by
    rintro e w' ⟨ev, rfl, hb, hS⟩
    obtain rfl := hS.none rfl
    exact ⟨rfl, hb⟩)
  have HQN := fun h => show (iread xs z).1.aid = 0 ∧ (iread xs z).1.cur = 0 ∧ (iread xs z).1.fs = [] by
    rw [(iread_fail (z := z) h8 h).1]; exact ⟨rfl, rfl, rfl⟩
  have HQP := fun h => (iread_fail (z := z) h8 h).2
  have H8 := Lib.hid h8
  have HXL := Lib.hid (show xs.length < 1000000 by omega)
  have HBB := Lib.hid hB
  generalize iread xs z = Q at *
  generalize iwrite ⟨k, c, os⟩ z = R at *
  obtain ⟨⟨qk, qc, qo⟩, qw, qp⟩ := Q
  obtain ⟨bs, bw, bp⟩ := R
  simp only at HRB HQW HQR HQN HQP HP HRX
  replace HRB := Lib.hid HRB
  replace HQW := Lib.hid HQW
  replace HQR := Lib.hid HQR
  replace HQN := Lib.hid HQN
  replace HQP := Lib.hid HQP
  replace HP := Lib.hid HP
  replace HRX := Lib.hid HRX
  have HH := Lib.hid hgl
  have HA := Lib.hid (al_any w (.cells #[.int .u8 (k : Int), .int .i64 c, .slice ad n cap] 27))
  have HG := Lib.hid (heap_alloc_new w (.cells #[.int .u8 (k : Int), .int .i64 c, .slice ad n cap] 27))
  clear hka ho hm hf hs hos hB h8 hba hl hnn hz hgl hz1 hz2 b8 bl qk8 qsl qs qsd
  go_enter Tryd.func4, Tryd.ntmps4
  go_wp2_with fail
  generalize w.alloc (.cells #[.int .u8 (k : Int), .int .i64 c, .slice ad n cap] 27) = w1 at *
  with_reducible refine (awake_any _ (hand_of HH.out HA.out)).mono ?_
  rintro e w2 ⟨rfl, hb⟩
  have K2 := kept_hid HA hb
  have G2 := Lib.hid (blk HG.out hb)
  clear hb HA HG
  obtain ⟨c0, c1, c2⟩ := cells3 G2.out
  go_wp2_with fail
  clear c0 c1 c2
  with_reducible refine (HF.out _ K2.out).mono ?_
  rintro e w3 ⟨rfl, hb⟩
  have K3 := kept_hid K2 hb
  have G3 := Lib.hid (blk G2.out hb)
  clear hb K2 HF G2
  go_wp2_with fail
  go_region_held3 (fun W' => Below w3.heap.size w3 W' ∧ W'.cell? ⟨w.heap.size, 0, none⟩ = some (.int .u8 (k : Int)) ∧ W'.cell? ⟨w.heap.size, 1, none⟩ = some (.int .i64 c) ∧ W'.cell? ⟨w.heap.size, 2, none⟩ = some (.slice ad n cap))
    (first | exact below3 G3.out _ (Below.refl _ _).drew | exact below3 G3.out _ (Below.refl _ _) | exact below3 G3.out _ (And.left (by assumption)) | exact below3 G3.out _ (kept_trans (And.left (by assumption)) hb))
    (first
      | (go_at_call 10; with_reducible refine (HZ.out _).mono ?_; rintro e wa ⟨rfl, rfl⟩)
      | (go_at_call 16; with_reducible refine (HP.out _ (kept_trans K3.out (And.left (by assumption)))).mono ?_; rintro e w4 ⟨va, vc, ev, rfl, hb, hS, hown⟩))
  have hS4 := And.left (by assumption : Below w3.heap.size w3 w4 ∧ _)
  have K4 := kept_hid K3 hS4
  have G4 := Lib.hid (blk G3.out hS4)
  clear hb hS4 K3 G3 HP
  rcases hS with ⟨h0, rfl⟩ | ⟨_, ⟨_, rfl⟩ | ⟨b, rfl, _⟩⟩
  · have BW := Lib.hid (own_bytes hown)
    have HX := Lib.hid fun W hh hw => HRX.out h0 W hh va vc hw (own_nil hown)
    clear h0 hown HRX
    go_wp2_with fail
    with_reducible refine (HZ.out _).mono ?_
    rintro e w' ⟨rfl, rfl⟩
    go_wp2_with fail
    with_reducible refine (HX.out w4 (hand_of HH.out K4.out) BW.out).mono ?_
    rintro e w5 ⟨pa, pk, pc, b5, rfl, hp, _, hb⟩
    simp only [errR, if_true]
    have HAL := al_any w5 (.cells #[.int .u8 (k : Int), .int .i64 c, .slice pa pk pc] 27)
    have hb6 := kept_trans hb HAL
    have K6 := kept_hid K4 hb6
    have P6 := Lib.hid ((hp.mono (Nat.zero_le _)).below HAL)
    obtain ⟨c0, c1, c2⟩ := cells3 (blk G4.out hb)
    have l5 := there_lt (blk G4.out hb)
    have G6 := Lib.hid (blk G4.out hb6)
    have L6 := Lib.hid (heap_alloc_new w5 (.cells #[.int .u8 (k : Int), .int .i64 c, .slice pa pk pc] 27))
    clear hp hb HAL hb6 K4 G4 HX BW
    go_wp2_with fail
    clear c0 c1 c2 l5
    generalize w5.heap.size = L5 at *
    generalize w5.alloc (.cells #[.int .u8 (k : Int), .int .i64 c, .slice pa pk pc] 27) = w6 at *
    have HSM := isame_any ⟨k, c, os⟩ ⟨k, c, os⟩ pa pk pc ad n cap w6 P6.out (HO.out.below K6.out) HSO.out HSO.out HO60.out
    rw [isame_self] at HSM
    replace HSM := Lib.hid HSM
    with_reducible refine HSM.out.mono ?_
    rintro e w7 ⟨rfl, hb⟩
    have K7 := kept_hid K6 hb
    have P7 := Lib.hid (P6.out.below hb)
    obtain ⟨c0, c1, c2⟩ := cells3 (blk G6.out hb)
    obtain ⟨d0, d1, d2⟩ := cells3 (blk L6.out hb)
    clear hb K6 P6 G6 L6 HSM
    go_wp2_with fail
    clear c0 c1 c2 d0 d1 d2
    have HSM := risame_any ⟨k, c, os⟩ ⟨k, c, os⟩ pa pk pc ad n cap w7 P7.out (HO.out.below K7.out) HSO.out HSO.out HO60.out
    rw [isame_self] at HSM
    replace HSM := Lib.hid HSM
    with_reducible refine HSM.out.mono ?_
    rintro e w8 ⟨rfl, hb⟩
    have K8 := kept_hid K7 hb
    clear hb K7 P7 HSM
    go_wp2_with fail
    with_reducible refine (HZ.out _).mono ?_
    rintro e w' ⟨rfl, rfl⟩
    go_wp2_with fail
    with_reducible refine (HRB.out _ (hand_of HH.out K8.out) K8.out).mono ?_
    rintro e wp ⟨oa, kk, oc, b9, rfl, ho, ht, hb⟩
    have HAL := al_any wp (.cells #[.int .u8 (qk : Int), .int .i64 qc, .slice oa kk oc] 27)
    have Kq := Lib.hid (kept_trans (kept_trans K8.out hb) HAL)
    have Oq := Lib.hid ((ho.mono (Nat.zero_le _)).below HAL)
    have Lq := Lib.hid (heap_alloc_new wp (.cells #[.int .u8 (qk : Int), .int .i64 qc, .slice oa kk oc] 27))
    have Tq := Lib.hid (ht.below HAL)
    clear ho hb ht HAL K8 HRB
    by_cases h0 : qw = 0
    · have HWR0 := Lib.hid (HQW.out h0)
      have HRT0 := Lib.hid (HQR.out h0)
      subst h0
      simp only [errR, if_true]
      clear Tq HQW HQR HQN HQP
      go_wp2_with fail
      generalize wp.heap.size = LQ at *
      generalize wp.alloc (.cells #[.int .u8 (qk : Int), .int .i64 qc, .slice oa kk oc] 27) = wq at *
      go_region_held3 (fun W' => Below wq.heap.size wq W' ∧ W'.cell? ⟨LQ, 0, none⟩ = some (.int .u8 (qk : Int)) ∧ W'.cell? ⟨LQ, 1, none⟩ = some (.int .i64 qc) ∧ W'.cell? ⟨LQ, 2, none⟩ = some (.slice oa kk oc))
        (first | exact below3 Lq.out _ (Below.refl _ _).drew | exact below3 Lq.out _ (Below.refl _ _) | exact below3 Lq.out _ (And.left (by assumption)) | exact below3 Lq.out _ (kept_trans (And.left (by assumption)) hb))
        (first
          | (go_at_call 10; with_reducible refine (HZ.out _).mono ?_; rintro e wa ⟨rfl, rfl⟩)
          | (go_at_call 16; with_reducible refine (HWR0.out _ oa kk oc (Oq.out.below (And.left (by assumption)))).mono ?_; rintro e wr ⟨ya, yc, rfl, hb, hB⟩))
      have hS := And.left (by assumption : Below wq.heap.size wq wr ∧ _)
      have Kr := kept_hid Kq hS
      have Or := Lib.hid (Oq.out.below hS)
      have Lr := Lib.hid (blk Lq.out hS)
      have Br := Lib.hid hB
      clear hb hS hB Kq Oq Lq HWR0
      go_wp2_with fail
      go_region_held3 (fun W' => Below wr.heap.size wr W' ∧ W'.cell? ⟨LQ, 0, none⟩ = some (.int .u8 (qk : Int)) ∧ W'.cell? ⟨LQ, 1, none⟩ = some (.int .i64 qc) ∧ W'.cell? ⟨LQ, 2, none⟩ = some (.slice oa kk oc))
        (first | exact below3 Lr.out _ (Below.refl _ _).drew | exact below3 Lr.out _ (Below.refl _ _) | exact below3 Lr.out _ (And.left (by assumption)) | exact below3 Lr.out _ (kept_trans (And.left (by assumption)) hb))
        (first
          | (go_at_call 10; with_reducible refine (HZ.out _).mono ?_; rintro e wa ⟨rfl, rfl⟩)
          | (go_at_call 18; with_reducible refine (Sam.same_b _ _ xs _ (bytes_below Br.out (And.left (by assumption))) (bytes_below HBB.out (kept_trans Kr.out (And.left (by assumption)))) H8.out HXL.out).mono ?_; rintro e ws ⟨rfl, hb⟩)
          | (go_at_call 19; with_reducible refine (HRT0.out _ oa kk oc (Or.out.below (And.left (by assumption)))).mono ?_; rintro e wt ⟨rfl, hb⟩))
      have hS := And.left (by assumption : Below wr.heap.size wr _ ∧ _)
      have Ks := kept_hid Kr hS
      clear hS
      go_wp2_with fail
      go_ret
      exact ⟨rfl, Ks.out⟩
    · obtain ⟨rfl, rfl, rfl⟩ := HQN.out h0
      have hp := HQP.out h0
      rw [show errR qw b9 = .iface 49 (.pointer (some ⟨b9, 0, none⟩)) from if_neg h0] at *
      have hp1 : (0 : Int) ≤ qp := hp.1
      have hp2 : qp ≤ (xs.length : Int) := hp.2
      clear h0 HQW HQR HQN HQP hp
      generalize hqw : (qw : Int) = qwi at *
      clear hqw
      go_wp2_with fail
      have HSM := isame_any noneI noneI oa kk oc none 0 0 (wp.alloc (.cells #[.int .u8 0, .int .i64 0, .slice oa kk oc] 27)) Oq.out (fldsIn_nil _ _) nofun nofun (by decide)
      rw [isame_self] at HSM
      simp only [noneI, show ((0 : Nat) : Int) = 0 from rfl] at HSM
      replace HSM := Lib.hid HSM
      with_reducible refine HSM.out.mono ?_
      rintro e ws ⟨rfl, hb⟩
      have Ks := kept_hid Kq hb
      have Ts := Lib.hid (Tq.out.below hb)
      clear hb HSM Kq Tq Lq Oq
      go_wp2_with fail
      with_reducible refine (where_told _ qwi qp ws (hand_of HH.out Ks.out) Ts.out).mono ?_
      rintro e wt ⟨rfl, hb⟩
      have Kt := kept_hid Ks hb
      have Tt := Lib.hid (Ts.out.below hb)
      clear hb Ks Ts
      go_wp2_with fail
      with_reducible refine (where_told _ qwi qp wt (hand_of HH.out Kt.out) Tt.out).mono ?_
      rintro e wu ⟨rfl, hb⟩
      have Ku := kept_hid Kt hb
      clear hb Kt Tt
      go_wp2_with fail
      go_ret
      exact ⟨rfl, Ku.out⟩
  · clear hown HRX HO HSO HO60 G4
    go_wp2_with fail
    with_reducible refine (HZ.out _).mono ?_
    rintro e w' ⟨rfl, rfl⟩
    go_wp2_with fail
    with_reducible refine (HRB.out _ (hand_of HH.out K4.out) K4.out).mono ?_
    rintro e wp ⟨oa, kk, oc, b9, rfl, ho, ht, hb⟩
    have HAL := al_any wp (.cells #[.int .u8 (qk : Int), .int .i64 qc, .slice oa kk oc] 27)
    have Kq := Lib.hid (kept_trans (kept_trans K4.out hb) HAL)
    have Oq := Lib.hid ((ho.mono (Nat.zero_le _)).below HAL)
    have Lq := Lib.hid (heap_alloc_new wp (.cells #[.int .u8 (qk : Int), .int .i64 qc, .slice oa kk oc] 27))
    have Tq := Lib.hid (ht.below HAL)
    clear ho hb ht HAL K4 HRB
    by_cases h0 : qw = 0
    · have HWR0 := Lib.hid (HQW.out h0)
      have HRT0 := Lib.hid (HQR.out h0)
      subst h0
      simp only [errR, if_true]
      clear Tq HQW HQR HQN HQP
      go_wp2_with fail
      generalize wp.heap.size = LQ at *
      generalize wp.alloc (.cells #[.int .u8 (qk : Int), .int .i64 qc, .slice oa kk oc] 27) = wq at *
      go_region_held3 (fun W' => Below wq.heap.size wq W' ∧ W'.cell? ⟨LQ, 0, none⟩ = some (.int .u8 (qk : Int)) ∧ W'.cell? ⟨LQ, 1, none⟩ = some (.int .i64 qc) ∧ W'.cell? ⟨LQ, 2, none⟩ = some (.slice oa kk oc))
        (first | exact below3 Lq.out _ (Below.refl _ _).drew | exact below3 Lq.out _ (Below.refl _ _) | exact below3 Lq.out _ (And.left (by assumption)) | exact below3 Lq.out _ (kept_trans (And.left (by assumption)) hb))
        (first
          | (go_at_call 10; with_reducible refine (HZ.out _).mono ?_; rintro e wa ⟨rfl, rfl⟩)
          | (go_at_call 16; with_reducible refine (HWR0.out _ oa kk oc (Oq.out.below (And.left (by assumption)))).mono ?_; rintro e wr ⟨ya, yc, rfl, hb, hB⟩))
      have hS := And.left (by assumption : Below wq.heap.size wq wr ∧ _)
      have Kr := kept_hid Kq hS
      have Or := Lib.hid (Oq.out.below hS)
      have Lr := Lib.hid (blk Lq.out hS)
      have Br := Lib.hid hB
      clear hb hS hB Kq Oq Lq HWR0
      go_wp2_with fail
      go_region_held3 (fun W' => Below wr.heap.size wr W' ∧ W'.cell? ⟨LQ, 0, none⟩ = some (.int .u8 (qk : Int)) ∧ W'.cell? ⟨LQ, 1, none⟩ = some (.int .i64 qc) ∧ W'.cell? ⟨LQ, 2, none⟩ = some (.slice oa kk oc))
        (first | exact below3 Lr.out _ (Below.refl _ _).drew | exact below3 Lr.out _ (Below.refl _ _) | exact below3 Lr.out _ (And.left (by assumption)) | exact below3 Lr.out _ (kept_trans (And.left (by assumption)) hb))
        (first
          | (go_at_call 10; with_reducible refine (HZ.out _).mono ?_; rintro e wa ⟨rfl, rfl⟩)
          | (go_at_call 18; with_reducible refine (Sam.same_b _ _ xs _ (bytes_below Br.out (And.left (by assumption))) (bytes_below HBB.out (kept_trans Kr.out (And.left (by assumption)))) H8.out HXL.out).mono ?_; rintro e ws ⟨rfl, hb⟩)
          | (go_at_call 19; with_reducible refine (HRT0.out _ oa kk oc (Or.out.below (And.left (by assumption)))).mono ?_; rintro e wt ⟨rfl, hb⟩))
      have hS := And.left (by assumption : Below wr.heap.size wr _ ∧ _)
      have Ks := kept_hid Kr hS
      clear hS
      go_wp2_with fail
      go_ret
      exact ⟨rfl, Ks.out⟩
    · obtain ⟨rfl, rfl, rfl⟩ := HQN.out h0
      have hp := HQP.out h0
      rw [show errR qw b9 = .iface 49 (.pointer (some ⟨b9, 0, none⟩)) from if_neg h0] at *
      have hp1 : (0 : Int) ≤ qp := hp.1
      have hp2 : qp ≤ (xs.length : Int) := hp.2
      clear h0 HQW HQR HQN HQP hp
      generalize hqw : (qw : Int) = qwi at *
      clear hqw
      go_wp2_with fail
      have HSM := isame_any noneI noneI oa kk oc none 0 0 (wp.alloc (.cells #[.int .u8 0, .int .i64 0, .slice oa kk oc] 27)) Oq.out (fldsIn_nil _ _) nofun nofun (by decide)
      rw [isame_self] at HSM
      simp only [noneI, show ((0 : Nat) : Int) = 0 from rfl] at HSM
      replace HSM := Lib.hid HSM
      with_reducible refine HSM.out.mono ?_
      rintro e ws ⟨rfl, hb⟩
      have Ks := kept_hid Kq hb
      have Ts := Lib.hid (Tq.out.below hb)
      clear hb HSM Kq Tq Lq Oq
      go_wp2_with fail
      with_reducible refine (where_told _ qwi qp ws (hand_of HH.out Ks.out) Ts.out).mono ?_
      rintro e wt ⟨rfl, hb⟩
      have Kt := kept_hid Ks hb
      have Tt := Lib.hid (Ts.out.below hb)
      clear hb Ks Ts
      go_wp2_with fail
      with_reducible refine (where_told _ qwi qp wt (hand_of HH.out Kt.out) Tt.out).mono ?_
      rintro e wu ⟨rfl, hb⟩
      have Ku := kept_hid Kt hb
      clear hb Kt Tt
      go_wp2_with fail
      go_ret
      exact ⟨rfl, Ku.out⟩
  · clear hown HRX HO HSO HO60 G4
    go_wp2_with fail
    with_reducible refine (HZ.out _).mono ?_
    rintro e w' ⟨rfl, rfl⟩
    go_wp2_with fail
    with_reducible refine (HRB.out _ (hand_of HH.out K4.out) K4.out).mono ?_
    rintro e wp ⟨oa, kk, oc, b9, rfl, ho, ht, hb⟩
    have HAL := al_any wp (.cells #[.int .u8 (qk : Int), .int .i64 qc, .slice oa kk oc] 27)
    have Kq := Lib.hid (kept_trans (kept_trans K4.out hb) HAL)
    have Oq := Lib.hid ((ho.mono (Nat.zero_le _)).below HAL)
    have Lq := Lib.hid (heap_alloc_new wp (.cells #[.int .u8 (qk : Int), .int .i64 qc, .slice oa kk oc] 27))
    have Tq := Lib.hid (ht.below HAL)
    clear ho hb ht HAL K4 HRB
    by_cases h0 : qw = 0
    · have HWR0 := Lib.hid (HQW.out h0)
      have HRT0 := Lib.hid (HQR.out h0)
      subst h0
      simp only [errR, if_true]
      clear Tq HQW HQR HQN HQP
      go_wp2_with fail
      generalize wp.heap.size = LQ at *
      generalize wp.alloc (.cells #[.int .u8 (qk : Int), .int .i64 qc, .slice oa kk oc] 27) = wq at *
      go_region_held3 (fun W' => Below wq.heap.size wq W' ∧ W'.cell? ⟨LQ, 0, none⟩ = some (.int .u8 (qk : Int)) ∧ W'.cell? ⟨LQ, 1, none⟩ = some (.int .i64 qc) ∧ W'.cell? ⟨LQ, 2, none⟩ = some (.slice oa kk oc))
        (first | exact below3 Lq.out _ (Below.refl _ _).drew | exact below3 Lq.out _ (Below.refl _ _) | exact below3 Lq.out _ (And.left (by assumption)) | exact below3 Lq.out _ (kept_trans (And.left (by assumption)) hb))
        (first
          | (go_at_call 10; with_reducible refine (HZ.out _).mono ?_; rintro e wa ⟨rfl, rfl⟩)
          | (go_at_call 16; with_reducible refine (HWR0.out _ oa kk oc (Oq.out.below (And.left (by assumption)))).mono ?_; rintro e wr ⟨ya, yc, rfl, hb, hB⟩))
      have hS := And.left (by assumption : Below wq.heap.size wq wr ∧ _)
      have Kr := kept_hid Kq hS
      have Or := Lib.hid (Oq.out.below hS)
      have Lr := Lib.hid (blk Lq.out hS)
      have Br := Lib.hid hB
      clear hb hS hB Kq Oq Lq HWR0
      go_wp2_with fail
      go_region_held3 (fun W' => Below wr.heap.size wr W' ∧ W'.cell? ⟨LQ, 0, none⟩ = some (.int .u8 (qk : Int)) ∧ W'.cell? ⟨LQ, 1, none⟩ = some (.int .i64 qc) ∧ W'.cell? ⟨LQ, 2, none⟩ = some (.slice oa kk oc))
        (first | exact below3 Lr.out _ (Below.refl _ _).drew | exact below3 Lr.out _ (Below.refl _ _) | exact below3 Lr.out _ (And.left (by assumption)) | exact below3 Lr.out _ (kept_trans (And.left (by assumption)) hb))
        (first
          | (go_at_call 10; with_reducible refine (HZ.out _).mono ?_; rintro e wa ⟨rfl, rfl⟩)
          | (go_at_call 18; with_reducible refine (Sam.same_b _ _ xs _ (bytes_below Br.out (And.left (by assumption))) (bytes_below HBB.out (kept_trans Kr.out (And.left (by assumption)))) H8.out HXL.out).mono ?_; rintro e ws ⟨rfl, hb⟩)
          | (go_at_call 19; with_reducible refine (HRT0.out _ oa kk oc (Or.out.below (And.left (by assumption)))).mono ?_; rintro e wt ⟨rfl, hb⟩))
      have hS := And.left (by assumption : Below wr.heap.size wr _ ∧ _)
      have Ks := kept_hid Kr hS
      clear hS
      go_wp2_with fail
      go_ret
      exact ⟨rfl, Ks.out⟩
    · obtain ⟨rfl, rfl, rfl⟩ := HQN.out h0
      have hp := HQP.out h0
      rw [show errR qw b9 = .iface 49 (.pointer (some ⟨b9, 0, none⟩)) from if_neg h0] at *
      have hp1 : (0 : Int) ≤ qp := hp.1
      have hp2 : qp ≤ (xs.length : Int) := hp.2
      clear h0 HQW HQR HQN HQP hp
      generalize hqw : (qw : Int) = qwi at *
      clear hqw
      go_wp2_with fail
      have HSM := isame_any noneI noneI oa kk oc none 0 0 (wp.alloc (.cells #[.int .u8 0, .int .i64 0, .slice oa kk oc] 27)) Oq.out (fldsIn_nil _ _) nofun nofun (by decide)
      rw [isame_self] at HSM
      simp only [noneI, show ((0 : Nat) : Int) = 0 from rfl] at HSM
      replace HSM := Lib.hid HSM
      with_reducible refine HSM.out.mono ?_
      rintro e ws ⟨rfl, hb⟩
      have Ks := kept_hid Kq hb
      have Ts := Lib.hid (Tq.out.below hb)
      clear hb HSM Kq Tq Lq Oq
      go_wp2_with fail
      with_reducible refine (where_told _ qwi qp ws (hand_of HH.out Ks.out) Ts.out).mono ?_
      rintro e wt ⟨rfl, hb⟩
      have Kt := kept_hid Ks hb
      have Tt := Lib.hid (Ts.out.below hb)
      clear hb Ks Ts
      go_wp2_with fail
      with_reducible refine (where_told _ qwi qp wt (hand_of HH.out Kt.out) Tt.out).mono ?_
      rintro e wu ⟨rfl, hb⟩
      have Ku := kept_hid Kt hb
      clear hb Kt Tt
      go_wp2_with fail
      go_ret
      exact ⟨rfl, Ku.out⟩
/-- InputBack returns true. -/
theorem back_all (k : Nat) (c : Int) (ov : Value) (os : List F) (ba : Option Addr) (bl bc : Nat) (zs : List Int) (nn : Int) (w : World) (hka : k < 256) (ho : FldsIn w 0 ov os) (hb : ∀ o ∈ os, ∀ x ∈ o.t, x < 256) (hm : os.length ≤ maxLen) (hr : IsRow .u8 w ba bl bc zs) (hn : (Lit.int .u16 nn).wf = true) (hgl : Handle w) :
    Calls Tryd.prog 4 #[.agg #[.int .u8 (k : Int), .int .i64 c, ov], .slice ba bl bc, .int .u16 nn] w fun e w' => e = .returned (.bool true) ∧ Below w.heap.size w w' := by
  obtain ⟨ad, cap, rfl, _, _⟩ := ho.form
  cases hf : fewB os with
  | false => exact back_many k c ad _ cap os ba bl bc nn w ho hm hf hgl
  | true =>
    by_cases hl : 9000 < bl
    · exact back_long k c ad _ cap os ba bl bc nn w ho hm hf hl hgl
    · obtain ⟨xs, hx, h8, hB⟩ := isRow_bytes hr
      have hnone := isRow_nil hr
      subst hx
      obtain ⟨hs, hos⟩ := sound_few hf hb
      have hn := Ord.wf_u16 hn
      obtain ⟨nn, rfl⟩ := Int.eq_ofNat_of_zero_le (a := nn) (by omega)
      exact back_main k c ad _ cap os ba bc nn _ w hka ho hm hf hs hos hB h8 hnone (by omega) (by omega) rfl hgl
end Inp
end Go.Proofs.YthjocmcafoifbaaDoor
