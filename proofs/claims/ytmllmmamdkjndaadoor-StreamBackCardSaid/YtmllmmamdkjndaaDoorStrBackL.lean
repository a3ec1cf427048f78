/- StreamBack returns true. Written by tools/gen_str_back.py. -/
import Derived.Test.YtmllmmamdkjndaaDoorStrTells
import Derived.Test.YtmllmmamdkjndaaDoorStrReadAll
import Derived.Test.YtmllmmamdkjndaaDoorStrRsame
namespace Go.Proofs.YtmllmmamdkjndaaDoor
open Go.RowKit Sha Cut Err Six Att Byt Apd
namespace Str
open Go.Proofs.YtmllmmamdkjndaaDoor.Ord
theorem row_nil {w : World} {base n : Nat} {v : Value} {m : List Nat} (h : w.ownsRow base 5 1 v n (u8s m)) : ∃ ad c, v = .slice ad m.length c ∧ (ad = none → m.length = 0 ∧ c = 0) := by
  obtain ⟨ad, c, rfl⟩ := own_form h
  have := own_len h
  subst this
  exact ⟨ad, c, rfl, own_nil h⟩
set_option maxRecDepth 100000 in
set_option maxHeartbeats 4000000 in
theorem back_many (cmd : Int) (a u r : Bool) (ad : Option Addr) (n cap : Nat) (os : List O) (ba : Option Addr) (bl bc : Nat) (nn : Int) (w : World) (ho : OrdsIn w 0 (.slice ad n cap) os) (hm : n ≤ maxLen) (hf : fewB os = false) (hgl : Handle w) :
    Calls Tryd.prog 4 #[.agg #[.int .i64 cmd, .bool a, .bool u, .bool r, .slice ad n cap], .slice ba bl bc, .int .u16 nn] w fun e w' => e = .returned (.bool true) ∧ Below w.heap.size w w' := by
  have HF := fun W hb => few_any ⟨cmd, a, u, r, os⟩ ad n cap W (ho.below hb) hm
  simp only [hf] at HF
  have HF := Lib.hid HF
  have HH := Lib.hid hgl
  have HA := Lib.hid (al_any w (.cells #[.int .i64 cmd, .bool a, .bool u, .bool r, .slice ad n cap] 26))
  have HG := Lib.hid (heap_alloc_new w (.cells #[.int .i64 cmd, .bool a, .bool u, .bool r, .slice ad n cap] 26))
  clear ho hm hf hgl
  go_enter Tryd.func4, Tryd.ntmps4
  go_wp2_with fail
  generalize w.alloc (.cells #[.int .i64 cmd, .bool a, .bool u, .bool r, .slice ad n cap] 26) = w1 at *
  with_reducible refine (awake_any _ (hand_of HH.out HA.out)).mono ?_
  rintro e w2 ⟨rfl, hb⟩
  have K2 := kept_hid HA hb
  obtain ⟨c0, c1, c2, c3, c4⟩ := cells5w (blk HG.out hb)
  clear hb HA HG
  go_wp2_with fail
  clear c0 c1 c2 c3 c4
  with_reducible refine (HF.out _ K2.out).mono ?_
  rintro e w3 ⟨rfl, hb⟩
  have K3 := kept_hid K2 hb
  clear hb K2 HF
  go_wp2_with fail
  with_reducible refine (awake_any _ (hand_of HH.out K3.out)).mono ?_
  rintro e w4 ⟨rfl, hb⟩
  have K4 := kept_hid K3 hb
  clear hb K3
  go_wp2_with fail
  go_ret
  exact ⟨rfl, K4.out⟩
set_option maxRecDepth 100000 in
set_option maxHeartbeats 4000000 in
theorem back_long (cmd : Int) (a u r : Bool) (ad : Option Addr) (n cap : Nat) (os : List O) (ba : Option Addr) (bl bc : Nat) (nn : Int) (w : World) (ho : OrdsIn w 0 (.slice ad n cap) os) (hm : n ≤ maxLen) (hf : fewB os = true) (hl : 9000 < bl) (hgl : Handle w) :
    Calls Tryd.prog 4 #[.agg #[.int .i64 cmd, .bool a, .bool u, .bool r, .slice ad n cap], .slice ba bl bc, .int .u16 nn] w fun e w' => e = .returned (.bool true) ∧ Below w.heap.size w w' := by
  have hg : (9000 : Int) < (bl : Int) := by omega
  have HF := fun W hb => few_any ⟨cmd, a, u, r, os⟩ ad n cap W (ho.below hb) hm
  simp only [hf] at HF
  have HF := Lib.hid HF
  clear ho hm hf hl
  have HH := Lib.hid hgl
  have HA := Lib.hid (al_any w (.cells #[.int .i64 cmd, .bool a, .bool u, .bool r, .slice ad n cap] 26))
  have HG := Lib.hid (heap_alloc_new w (.cells #[.int .i64 cmd, .bool a, .bool u, .bool r, .slice ad n cap] 26))
  go_enter Tryd.func4, Tryd.ntmps4
  go_wp2_with fail
  generalize w.alloc (.cells #[.int .i64 cmd, .bool a, .bool u, .bool r, .slice ad n cap] 26) = w1 at *
  with_reducible refine (awake_any _ (hand_of HH.out HA.out)).mono ?_
  rintro e w2 ⟨rfl, hb⟩
  have K2 := kept_hid HA hb
  have G2 := Lib.hid (blk HG.out hb)
  clear hb HA HG
  obtain ⟨c0, c1, c2, c3, c4⟩ := cells5w G2.out
  go_wp2_with fail
  clear c0 c1 c2 c3 c4
  with_reducible refine (HF.out _ K2.out).mono ?_
  rintro e w3 ⟨rfl, hb⟩
  have K3 := kept_hid K2 hb
  have G3 := Lib.hid (blk G2.out hb)
  clear hb K2 HF G2
  go_wp2_with fail
  with_reducible refine (awake_any _ (hand_of HH.out K3.out)).mono ?_
  rintro e w4 ⟨rfl, hb⟩
  have K4 := kept_hid K3 hb
  clear hb K3 G3
  go_wp2_with fail
  go_ret
  exact ⟨rfl, K4.out⟩
set_option maxRecDepth 100000 in
set_option maxHeartbeats 16000000 in
theorem back_main (cmd : Int) (a u r : Bool) (ad : Option Addr) (n cap : Nat) (os : List O) {xs : List Nat} (ba : Option Addr) (bc : Nat) (nn z : Nat) (w : World) (ho : OrdsIn w 0 (.slice ad n cap) os) (hm : n ≤ maxLen) (hf : fewB os = true) (hs : Sound os) (hos : os.length ≤ 60)
    (hB : BytesIn w (.slice ba xs.length bc) xs) (h8 : ∀ x ∈ xs, x < 256) (hba : ba = none → xs.length = 0 ∧ bc = 0) (hl : xs.length ≤ 9000) (hnn : nn < 65536) (hz : 1 + nn % 16383 = z) (hgl : Handle w) :
    Calls Tryd.prog 4 #[.agg #[.int .i64 cmd, .bool a, .bool u, .bool r, .slice ad n cap], .slice ba xs.length bc, .int .u16 (nn : Int)] w fun e w' => e = .returned (.bool true) ∧ Below w.heap.size w w' := by
  have hz1 : 1 ≤ z := by omega
  have hz2 : z ≤ 16383 := by omega
  have hg : ¬ (9000 : Int) < (xs.length : Int) := by omega
  have HZ := Lib.hid fun W => size_any nn W hnn
  rw [hz] at HZ
  have HF := fun W hb => few_any ⟨cmd, a, u, r, os⟩ ad n cap W (ho.below hb) hm
  simp only [hf] at HF
  replace HF := Lib.hid HF
  have HP := fun W hb => write_any ⟨cmd, a, u, r, os⟩ ad n cap z W (ho.below hb) hs (by simp only; omega) hz1 hz2
  simp only at HP
  replace HP := Lib.hid HP
  obtain ⟨b8, bl⟩ := cwrite_bytes (x := ⟨cmd, a, u, r, os⟩) (z := z) hz2 hs
  -- what is written is read as it was
  have HRX := fun (W : World) (va : Option Addr) (vc : Nat) (h0 : (cwrite ⟨cmd, a, u, r, os⟩ z).2.1 = 0) (hw : BytesIn W (.slice va (cwrite ⟨cmd, a, u, r, os⟩ z).1.length vc) (cwrite ⟨cmd, a, u, r, os⟩ z).1) (hv : va = none → (cwrite ⟨cmd, a, u, r, os⟩ z).1.length = 0 ∧ vc = 0) => read_ok va vc z W hw b8 hv bl (by rw [cread_write hz2 h0])
  have HRX2 := fun (W : World) (va : Option Addr) (vc : Nat) (h0 : (cwrite ⟨cmd, a, u, r, os⟩ z).2.1 = 0) (hw : BytesIn W (.slice va (cwrite ⟨cmd, a, u, r, os⟩ z).1.length vc) (cwrite ⟨cmd, a, u, r, os⟩ z).1) (hv : va = none → (cwrite ⟨cmd, a, u, r, os⟩ z).1.length = 0 ∧ vc = 0) => by
    have := HRX W va vc h0 hw hv
    rw [cread_write hz2 h0] at this
    exact this
  simp only at HRX2
  replace HRX2 := Lib.hid HRX2
  clear HRX
  have HSO := Lib.hid hs
  have HO60 := Lib.hid (show os.length < 1000000 by omega)
  have HO := Lib.hid ho
  -- whatever is read is written as it stood
  have HRB := fun W hb => read_any ba bc z W (bytes_below hB hb) h8 hba (by omega)
  obtain ⟨qs, ql⟩ := cread_sound (z := z) h8 (by omega : xs.length < 1000000)
  have HQW := fun (h0 : (cread xs z).2.1 = 0) (W : World) (oa : Option Addr) (kk oc : Nat) (hw : OrdsIn W 0 (.slice oa kk oc) (cread xs z).1.os) => (write_any (cread xs z).1 oa kk oc z W hw qs (by omega) hz1 hz2).mono (R' := fun e w' => ∃ v, e = .returned (.tuple #[v, .nilIface]) ∧ Below W.heap.size W w' ∧ BytesIn w' v xs) (by
    rintro e w' ⟨v, ev, rfl, hb, hwr⟩
    have hcw := cwrite_read (ys := xs) (z := z) h8 h0
    rcases hwr with ⟨_, rfl, hown⟩ | ⟨h1, _⟩
    · rw [hcw] at hown
      exact ⟨v, rfl, hb, own_bytes hown⟩
    · rw [hcw] at h1; exact absurd rfl h1)
  have HQN := Lib.hid (show (cread xs z).2.1 ≠ 0 → (cread xs z).1.cmd = 0 ∧ (cread xs z).1.a = false ∧ (cread xs z).1.u = false ∧ (cread xs z).1.r = false ∧ (cread xs z).1.os = [] from fun h => by
    rcases cread_cases xs z with ⟨_, hc⟩ | ⟨h0, _⟩
    · rw [hc]; exact ⟨rfl, rfl, rfl, rfl, rfl⟩
    · exact absurd h0 h)
  have H8 := Lib.hid h8
  have HXL := Lib.hid (show xs.length < 1000000 by omega)
  have HBB := Lib.hid hB
  generalize cread xs z = Q at *
  obtain ⟨⟨qc, qa, qu, qr, qo⟩, qw, qat⟩ := Q
  simp only at HRB HQW HQN qs ql
  replace HRB := Lib.hid HRB
  replace HQW := Lib.hid HQW
  clear ho hm hf hs hos hB h8 hba hl hnn hz b8 bl qs ql hz1 hz2
  have HH := Lib.hid hgl
  have HA := Lib.hid (al_any w (.cells #[.int .i64 cmd, .bool a, .bool u, .bool r, .slice ad n cap] 26))
  have HG := Lib.hid (heap_alloc_new w (.cells #[.int .i64 cmd, .bool a, .bool u, .bool r, .slice ad n cap] 26))
  go_enter Tryd.func4, Tryd.ntmps4
  go_wp2_with fail
  generalize w.alloc (.cells #[.int .i64 cmd, .bool a, .bool u, .bool r, .slice ad n cap] 26) = w1 at *
  with_reducible refine (awake_any _ (hand_of HH.out HA.out)).mono ?_
  rintro e w2 ⟨rfl, hb⟩
  have K2 := kept_hid HA hb
  have G2 := Lib.hid (blk HG.out hb)
  clear hb HA HG
  obtain ⟨c0, c1, c2, c3, c4⟩ := cells5w G2.out
  go_wp2_with fail
  clear c0 c1 c2 c3 c4
  with_reducible refine (HF.out _ K2.out).mono ?_
  rintro e w3 ⟨rfl, hb⟩
  have K3 := kept_hid K2 hb
  have G3 := Lib.hid (blk G2.out hb)
  clear hb K2 HF G2
  go_wp2_with fail
  go_region_held3 (fun W' => Below w3.heap.size w3 W' ∧ W'.cell? ⟨w.heap.size, 0, none⟩ = some (.int .i64 cmd) ∧ W'.cell? ⟨w.heap.size, 1, none⟩ = some (.bool a) ∧ W'.cell? ⟨w.heap.size, 2, none⟩ = some (.bool u) ∧ W'.cell? ⟨w.heap.size, 3, none⟩ = some (.bool r) ∧ W'.cell? ⟨w.heap.size, 4, none⟩ = some (.slice ad n cap))
    (first | exact below5 G3.out _ (Below.refl _ _).drew | exact below5 G3.out _ (Below.refl _ _) | exact below5 G3.out _ (And.left (by assumption)) | exact below5 G3.out _ (kept_trans (And.left (by assumption)) hb))
    (first
      | (go_at_call 11; with_reducible refine (HZ.out _).mono ?_; rintro e wa ⟨rfl, rfl⟩)
      | (go_at_call 10; with_reducible refine (HP.out _ (kept_trans K3.out (And.left (by assumption)))).mono ?_; rintro e w4 ⟨v, ev, rfl, hb, hwr⟩))
  have hS := And.left (by assumption : Below w3.heap.size w3 w4 ∧ _)
  have K4 := kept_hid K3 hS
  have G4 := Lib.hid (blk G3.out hS)
  clear hb hS K3 G3 HP
  rcases hwr with ⟨h0, rfl, hown⟩ | ⟨h0, rfl, ⟨t, u', rfl⟩, _⟩
  · have BW := Lib.hid (own_bytes hown)
    obtain ⟨va, vc, rfl, hv⟩ := row_nil hown
    have HX := Lib.hid fun W hw => HRX2.out W va vc h0 hw hv
    clear h0 hown hv HRX2
    generalize (cwrite ⟨cmd, a, u, r, os⟩ z).1 = bs at *
    go_wp2_with fail
    with_reducible refine (HZ.out _).mono ?_
    rintro e w' ⟨rfl, rfl⟩
    go_wp2_with fail
    with_reducible refine (HX.out w4 BW.out).mono ?_
    rintro e w5 ⟨pa, pk, pc, rfl, hp, hb⟩
    have HAL := al_any w5 (.cells #[.int .i64 cmd, .bool a, .bool u, .bool r, .slice pa pk pc] 26)
    have hb6 := kept_trans hb HAL
    have K6 := kept_hid K4 hb6
    have P6 := Lib.hid ((hp.mono (Nat.zero_le _)).below HAL)
    obtain ⟨c0, c1, c2, c3, c4⟩ := cells5w (blk G4.out hb)
    have l5 := there_lt (blk G4.out hb)
    have G6 := Lib.hid (blk G4.out hb6)
    have L6 := Lib.hid (heap_alloc_new w5 (.cells #[.int .i64 cmd, .bool a, .bool u, .bool r, .slice pa pk pc] 26))
    clear hp hb HAL hb6 K4 G4 HX BW
    go_wp2_with fail
    clear c0 c1 c2 c3 c4 l5
    generalize w5.heap.size = L5 at *
    generalize w5.alloc (.cells #[.int .i64 cmd, .bool a, .bool u, .bool r, .slice pa pk pc] 26) = w6 at *
    have HSM := csame_any ⟨cmd, a, u, r, os⟩ ⟨cmd, a, u, r, os⟩ pa pk pc ad n cap w6 P6.out (HO.out.below K6.out) HSO.out HSO.out HO60.out
    rw [(csame_iff _ _).2 rfl] at HSM
    replace HSM := Lib.hid HSM
    with_reducible refine HSM.out.mono ?_
    rintro e w7 ⟨rfl, hb⟩
    have K7 := kept_hid K6 hb
    have P7 := Lib.hid (P6.out.below hb)
    obtain ⟨c0, c1, c2, c3, c4⟩ := cells5w (blk G6.out hb)
    obtain ⟨d0, d1, d2, d3, d4⟩ := cells5w (blk L6.out hb)
    clear hb K6 P6 G6 L6 HSM
    go_wp2_with fail
    clear c0 c1 c2 c3 c4 d0 d1 d2 d3 d4
    have HSM := rcsame_any ⟨cmd, a, u, r, os⟩ ⟨cmd, a, u, r, os⟩ pa pk pc ad n cap w7 P7.out (HO.out.below K7.out) HSO.out HSO.out HO60.out
    rw [(csame_iff _ _).2 rfl] at HSM
    replace HSM := Lib.hid HSM
    with_reducible refine HSM.out.mono ?_
    rintro e w8 ⟨rfl, hb⟩
    have K8 := kept_hid K7 hb
    clear hb K7 P7 HSM
    go_wp2_with fail
    with_reducible refine (HZ.out _).mono ?_
    rintro e w' ⟨rfl, rfl⟩
    go_wp2_with fail
    with_reducible refine (HRB.out _ K8.out).mono ?_
    rintro e wp ⟨oa, kk, oc, ev, rfl, ho, hb, hev, ht⟩
    have HAL := al_any wp (.cells #[.int .i64 qc, .bool qa, .bool qu, .bool qr, .slice oa kk oc] 26)
    have Kq := Lib.hid (kept_trans (kept_trans K8.out hb) HAL)
    have Oq := Lib.hid ((ho.mono (Nat.zero_le _)).below HAL)
    have Lq := Lib.hid (heap_alloc_new wp (.cells #[.int .i64 qc, .bool qa, .bool qu, .bool qr, .slice oa kk oc] 26))
    clear ho hb ht HAL K8 HRB
    rcases hev with ⟨h0, rfl⟩ | ⟨h0, t, u', rfl⟩
    · have HWR0 := Lib.hid (HQW.out h0)
      clear h0
      go_wp2_with fail
      generalize wp.heap.size = LQ at *
      generalize wp.alloc (.cells #[.int .i64 qc, .bool qa, .bool qu, .bool qr, .slice oa kk oc] 26) = wq at *
      go_region_held3 (fun W' => Below wq.heap.size wq W' ∧ W'.cell? ⟨LQ, 0, none⟩ = some (.int .i64 qc) ∧ W'.cell? ⟨LQ, 1, none⟩ = some (.bool qa) ∧ W'.cell? ⟨LQ, 2, none⟩ = some (.bool qu) ∧ W'.cell? ⟨LQ, 3, none⟩ = some (.bool qr) ∧ W'.cell? ⟨LQ, 4, none⟩ = some (.slice oa kk oc))
        (first | exact below5 Lq.out _ (Below.refl _ _).drew | exact below5 Lq.out _ (Below.refl _ _) | exact below5 Lq.out _ (And.left (by assumption)) | exact below5 Lq.out _ (kept_trans (And.left (by assumption)) hb))
        (first
          | (go_at_call 11; with_reducible refine (HZ.out _).mono ?_; rintro e wa ⟨rfl, rfl⟩)
          | (go_at_call 10; with_reducible refine (HWR0.out _ oa kk oc (Oq.out.below (And.left (by assumption)))).mono ?_; rintro e wr ⟨v, rfl, hb, hB⟩))
      have hS := And.left (by assumption : Below wq.heap.size wq wr ∧ _)
      have Kr := kept_hid Kq hS
      have Br := Lib.hid hB
      clear hb hS hB Kq Oq Lq HWR0
      go_wp2_with fail
      with_reducible refine (Sam.same_b _ _ xs _ Br.out (bytes_below HBB.out Kr.out) H8.out HXL.out).mono ?_
      rintro e ws ⟨rfl, hb⟩
      have Ks := kept_hid Kr hb
      clear hb Kr Br
      go_wp2_with fail
      go_ret
      exact ⟨rfl, Ks.out⟩
    · have HNQ := Lib.hid (HQN.out h0)
      clear h0
      obtain ⟨rfl, rfl, rfl, rfl, rfl⟩ := HNQ.out
      go_wp2_with fail
      have HSM := csame_any noneC noneC oa kk oc none 0 0 (wp.alloc (.cells #[.int .i64 0, .bool false, .bool false, .bool false, .slice oa kk oc] 26)) Oq.out (ordsIn_nil _ _) nofun nofun (by decide)
      rw [(csame_iff _ _).2 rfl] at HSM
      simp only [noneC] at HSM
      replace HSM := Lib.hid HSM
      with_reducible refine HSM.out.mono ?_
      rintro e ws ⟨rfl, hb⟩
      have Ks := kept_hid Kq hb
      clear hb HSM
      go_wp2_with fail
      go_ret
      exact ⟨rfl, Ks.out⟩
  · clear h0 HRX2 HO HSO HO60
    go_wp2_with fail
    with_reducible refine (HZ.out _).mono ?_
    rintro e w' ⟨rfl, rfl⟩
    go_wp2_with fail
    with_reducible refine (HRB.out _ K4.out).mono ?_
    rintro e wp ⟨oa, kk, oc, ev, rfl, ho, hb, hev, ht⟩
    have HAL := al_any wp (.cells #[.int .i64 qc, .bool qa, .bool qu, .bool qr, .slice oa kk oc] 26)
    have Kq := Lib.hid (kept_trans (kept_trans K4.out hb) HAL)
    have Oq := Lib.hid ((ho.mono (Nat.zero_le _)).below HAL)
    have Lq := Lib.hid (heap_alloc_new wp (.cells #[.int .i64 qc, .bool qa, .bool qu, .bool qr, .slice oa kk oc] 26))
    clear ho hb ht HAL K4 HRB
    rcases hev with ⟨h0, rfl⟩ | ⟨h0, t, u', rfl⟩
    · have HWR0 := Lib.hid (HQW.out h0)
      clear h0
      go_wp2_with fail
      generalize wp.heap.size = LQ at *
      generalize wp.alloc (.cells #[.int .i64 qc, .bool qa, .bool qu, .bool qr, .slice oa kk oc] 26) = wq at *
      go_region_held3 (fun W' => Below wq.heap.size wq W' ∧ W'.cell? ⟨LQ, 0, none⟩ = some (.int .i64 qc) ∧ W'.cell? ⟨LQ, 1, none⟩ = some (.bool qa) ∧ W'.cell? ⟨LQ, 2, none⟩ = some (.bool qu) ∧ W'.cell? ⟨LQ, 3, none⟩ = some (.bool qr) ∧ W'.cell? ⟨LQ, 4, none⟩ = some (.slice oa kk oc))
        (first | exact below5 Lq.out _ (Below.refl _ _).drew | exact below5 Lq.out _ (Below.refl _ _) | exact below5 Lq.out _ (And.left (by assumption)) | exact below5 Lq.out _ (kept_trans (And.left (by assumption)) hb))
        (first
          | (go_at_call 11; with_reducible refine (HZ.out _).mono ?_; rintro e wa ⟨rfl, rfl⟩)
          | (go_at_call 10; with_reducible refine (HWR0.out _ oa kk oc (Oq.out.below (And.left (by assumption)))).mono ?_; rintro e wr ⟨v, rfl, hb, hB⟩))
      have hS := And.left (by assumption : Below wq.heap.size wq wr ∧ _)
      have Kr := kept_hid Kq hS
      have Br := Lib.hid hB
      clear hb hS hB Kq Oq Lq HWR0
      go_wp2_with fail
      with_reducible refine (Sam.same_b _ _ xs _ Br.out (bytes_below HBB.out Kr.out) H8.out HXL.out).mono ?_
      rintro e ws ⟨rfl, hb⟩
      have Ks := kept_hid Kr hb
      clear hb Kr Br
      go_wp2_with fail
      go_ret
      exact ⟨rfl, Ks.out⟩
    · have HNQ := Lib.hid (HQN.out h0)
      clear h0
      obtain ⟨rfl, rfl, rfl, rfl, rfl⟩ := HNQ.out
      go_wp2_with fail
      have HSM := csame_any noneC noneC oa kk oc none 0 0 (wp.alloc (.cells #[.int .i64 0, .bool false, .bool false, .bool false, .slice oa kk oc] 26)) Oq.out (ordsIn_nil _ _) nofun nofun (by decide)
      rw [(csame_iff _ _).2 rfl] at HSM
      simp only [noneC] at HSM
      replace HSM := Lib.hid HSM
      with_reducible refine HSM.out.mono ?_
      rintro e ws ⟨rfl, hb⟩
      have Ks := kept_hid Kq hb
      clear hb HSM
      go_wp2_with fail
      go_ret
      exact ⟨rfl, Ks.out⟩
/-- StreamBack returns true. -/
theorem back_all (cmd : Int) (a u r : Bool) (ov : Value) (os : List O) (ba : Option Addr) (bl bc : Nat) (zs : List Int) (nn : Int) (w : World) (ho : OrdsIn w 0 ov os) (hb : ∀ o ∈ os, (∀ x ∈ o.t, x < 256) ∧ o.c < 256) (hm : os.length ≤ maxLen) (hr : IsRow .u8 w ba bl bc zs) (hn : (Lit.int .u16 nn).wf = true) (hgl : Handle w) :
    Calls Tryd.prog 4 #[.agg #[.int .i64 cmd, .bool a, .bool u, .bool r, ov], .slice ba bl bc, .int .u16 nn] w fun e w' => e = .returned (.bool true) ∧ Below w.heap.size w w' := by
  obtain ⟨ad, cap, rfl, _, _⟩ := ho.form
  cases hf : fewB os with
  | false => exact back_many cmd a u r ad _ cap os ba bl bc nn w ho hm hf hgl
  | true =>
    by_cases hl : 9000 < bl
    · exact back_long cmd a u r ad _ cap os ba bl bc nn w ho hm hf hl hgl
    obtain ⟨hs, hos⟩ := sound_few hf hb
    have hn := wf_u16 hn
    obtain ⟨nn, rfl⟩ := Int.eq_ofNat_of_zero_le (a := nn) (by omega)
    obtain ⟨xs, hx, h8, hB⟩ := isRow_bytes hr
    have hnone := isRow_nil hr
    subst hx
    exact back_main cmd a u r ad _ cap os ba bc nn _ w ho hm hf hs hos hB h8 hnone (by omega) (by omega) rfl hgl
end Str
end Go.Proofs.YtmllmmamdkjndaaDoor
