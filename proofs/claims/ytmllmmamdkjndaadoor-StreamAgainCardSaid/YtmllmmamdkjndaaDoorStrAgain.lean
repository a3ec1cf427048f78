/- StreamAgain returns true. Written by tools/gen_str_back.py. -/
import Derived.Test.YtmllmmamdkjndaaDoorStrTells
import Derived.Test.YtmllmmamdkjndaaDoorStrReadAll
namespace Go.Proofs.YtmllmmamdkjndaaDoor
open Go.RowKit Sha Cut Err Six Att Byt Apd
namespace Str
open Go.Proofs.YtmllmmamdkjndaaDoor.Ord
theorem run_h (a : Option Addr) (len cap k : Nat) (hk : k ≤ cap) (w : World) :
    (Instr.slice 30 (.slice a len cap) none (some (.int .i64 (k : Int))) none).run Tryd.prog w = .ok (.slice a k cap) w := by
  have hu : Tryd.prog.underlying 30 = some (.slice (Tryd.prog.elem 30)) := by kernel_rfl
  have hs : ((sizeOf (Tryd.prog.elem 30)).run Tryd.prog w) = .ok 1 w := by kernel_rfl
  rw [run_slice_h (P := Tryd.prog) w _ _ _ _ hu _ _ (by omega) (by omega), hs]
  simp only [Result.andThen, sliced]
  cases a <;> simp [Addr.add]
theorem bytes_h {w : World} {a : Option Addr} {len cap k : Nat} {xs : List Nat} (h : BytesIn w (.slice a len cap) xs) (hk : k ≤ len) : BytesIn w (.slice a k cap) (xs.take k) := by
  obtain ⟨ad, c, hv, hcap, hc⟩ := h
  injection hv with e1 e2 e3
  subst e1 e2 e3
  have hl : (xs.take k).length = k := by rw [List.length_take]; omega
  refine ⟨a, cap, by rw [hl], by omega, ?_⟩
  rcases hc with h0 | ⟨g, off, rfl, hc⟩
  · exact .inl (by rw [h0]; simp)
  · refine .inr ⟨g, off, rfl, fun j hj => ?_⟩
    rw [hl] at hj
    rw [hc j (by omega)]
    simp [List.getD_eq_getElem?_getD, hj]
theorem cread_cases2 (xs : List Nat) (z : Nat) : ((cread xs z).2.1 ≠ 0 ∧ (cread xs z).1 = noneC) ∨ ((cread xs z).2.1 = 0 ∧ (cread xs z).2.2 = -1 ∧ xs.length ≤ 8192 ∧ 0 < xs.length ∧ ∃ c, (cread xs z).1.cmd = (c : Nat) ∧ xs.getD 0 0 = c ∧ ((writes (c : Int) = false ∧ (cread xs z).1.os = []) ∨ ∃ b r, xs = c :: b :: r ∧ writes (c : Int) = true ∧ (ords z r.length 2 r).2.1 = 0 ∧ (cread xs z).1.os = (ords z r.length 2 r).1)) := by
  by_cases hl : 8192 < xs.length
  · left; unfold cread; rw [if_pos hl]; exact ⟨by show (6 : Nat) ≠ 0; decide, rfl⟩
  cases xs with
  | nil => left; exact ⟨by show (2 : Nat) ≠ 0; decide, rfl⟩
  | cons c ys =>
    rw [cread_cons c ys z (by omega)]
    cases hk : known (c : Int) with
    | false => left; rw [if_pos rfl]; exact ⟨by show (5 : Nat) ≠ 0; decide, rfl⟩
    | true =>
      rw [if_neg (by decide)]
      cases hw : writes (c : Int) with
      | false =>
        rw [if_pos rfl]
        by_cases hys : ys = []
        · right; rw [if_neg (by simp [hys])]; exact ⟨rfl, rfl, by omega, by simp, c, rfl, rfl, .inl ⟨hw, rfl⟩⟩
        · left; rw [if_pos hys]; exact ⟨by show (1 : Nat) ≠ 0; decide, rfl⟩
      | true =>
        rw [if_neg (by decide)]
        cases ys with
        | nil => left; exact ⟨by show (2 : Nat) ≠ 0; decide, rfl⟩
        | cons b r =>
          simp only
          cases hn : noWrite b with
          | true => left; rw [if_pos rfl]; exact ⟨by show (3 : Nat) ≠ 0; decide, rfl⟩
          | false =>
            rw [if_neg (by decide)]
            by_cases hE : (ords z r.length 2 r).2.1 = 0
            · right; rw [if_neg (by rw [hE]; simp)]; exact ⟨rfl, rfl, by omega, by simp, c, rfl, rfl, .inr ⟨b, r, rfl, hw, hE, rfl⟩⟩
            · left; rw [if_pos hE]; exact ⟨hE, rfl⟩
/-- A beginning that is a command has no more orders. -/
theorem cread_prefix {xs : List Nat} {z k : Nat} (hz : z ≤ 16383) (h8 : ∀ x ∈ xs, x < 256) (h : (cread xs z).2.1 = 0) (hk : (cread (xs.take k) z).2.1 = 0) : (cread (xs.take k) z).1.os.length ≤ (cread xs z).1.os.length := by
  rcases cread_cases2 (xs.take k) z with ⟨h0, _⟩ | ⟨_, _, _, _, c', _, _, ⟨_, ho⟩ | ⟨b', r', he, hw', hE', ho⟩⟩
  · exact absurd hk h0
  · rw [ho]; exact Nat.zero_le _
  · rcases cread_cases2 xs z with ⟨h0, _⟩ | ⟨_, _, hl, _, c, hc, hcx, ⟨hwf, _⟩ | ⟨b, r, hx, _, hE, ho2⟩⟩
    · exact absurd h h0
    · -- both begin with the same byte
      exfalso
      have hp : xs.take k <+: xs := List.take_prefix _ _
      rw [he] at hp
      obtain ⟨s, hs⟩ := hp
      rw [← hs] at hcx
      have : c' = c := hcx
      rw [← this, hw'] at hwf
      cases hwf
    · rw [ho, ho2]
      have hp : xs.take k <+: xs := List.take_prefix _ _
      rw [he, hx] at hp
      have h3 : r' <+: r := by
        obtain ⟨s, hs⟩ := hp
        injection hs with e1 e2
        injection e2 with e2 e3
        exact ⟨s, e3⟩
      exact ords_prefix z hz r'.length r.length r' r 2 2 (fun y hy => h8 y (by rw [hx]; simp [hy])) h3 (Nat.le_refl _) (Nat.le_refl _) hE' hE
theorem below_set5 {B P : Nat} {w a : World} (u0 u1 u2 u3 u4 : Value) (h : Below B w a) (hP : B ≤ P) : Below B w (((((a.setCell ⟨P, 0, none⟩ u0).setCell ⟨P, 1, none⟩ u1).setCell ⟨P, 2, none⟩ u2).setCell ⟨P, 3, none⟩ u3).setCell ⟨P, 4, none⟩ u4) :=
  ((((h.setCell hP u0).setCell hP u1).setCell hP u2).setCell hP u3).setCell hP u4
theorem blk_dr {wt wu : World} {x : Obj} (hb : Below (wt.alloc x).drew.heap.size (wt.alloc x).drew wu) : wu.heap[wt.heap.size]? = some x := blk (w := (wt.alloc x).drew) (heap_alloc_new wt x) hb
theorem row_nil2 {w : World} {base n : Nat} {v : Value} {m : List Nat} (h : w.ownsRow base 5 1 v n (u8s m)) : ∃ ad c, v = .slice ad m.length c ∧ (ad = none → m.length = 0 ∧ c = 0) := by
  obtain ⟨ad, c, rfl⟩ := own_form h
  have := own_len h
  subst this
  exact ⟨ad, c, rfl, own_nil h⟩
theorem rem_of (a n : Nat) : (a : Int) % ((n : Int) + 1) = ((a % (n + 1) : Nat) : Int) := by
  rw [Int.natCast_emod]; rfl
set_option maxRecDepth 100000 in
set_option maxHeartbeats 4000000 in
theorem again_long (ad : Option Addr) (len cap : Nat) (nn cu : Int) (w : World) (h : 2000 < len) (hgl : Handle w) :
    Calls Tryd.prog 5 #[.slice ad len cap, .int .u16 nn, .int .u8 cu] w fun e w' => e = .returned (.bool true) ∧ Below w.heap.size w w' := by
  have hg : (2000 : Int) < (len : Int) := by omega
  have HH := Lib.hid hgl
  clear h hgl
  go_enter Tryd.func5, Tryd.ntmps5
  go_wp2_with fail
  with_reducible refine (awake_any _ HH.out).mono ?_
  rintro e w1 ⟨rfl, hb⟩
  have K1 := Lib.hid hb
  clear hb
  go_wp2_with fail
  with_reducible refine (awake_any _ (hand_of HH.out K1.out)).mono ?_
  rintro e w2 ⟨rfl, hb⟩
  have K2 := kept_hid K1 hb
  clear hb K1
  go_wp2_with fail
  go_ret
  exact ⟨rfl, K2.out⟩
set_option maxRecDepth 100000 in
set_option maxHeartbeats 16000000 in
theorem again_bad {xs : List Nat} (ad : Option Addr) (cap nn z cu k : Nat) (w : World) (hB : BytesIn w (.slice ad xs.length cap) xs) (h8 : ∀ x ∈ xs, x < 256) (hn : ad = none → xs.length = 0 ∧ cap = 0) (hl : xs.length ≤ 2000) (hnn : nn < 65536) (hz : 1 + nn % 16383 = z) (hcu : cu < 256) (hk : cu % (xs.length + 1) = k) (hgl : Handle w) (hE : (cread xs z).2.1 ≠ 0) :
    Calls Tryd.prog 5 #[.slice ad xs.length cap, .int .u16 (nn : Int), .int .u8 (cu : Int)] w fun e w' => e = .returned (.bool true) ∧ Below w.heap.size w w' := by
  have hg : ¬ (2000 : Int) < (xs.length : Int) := by omega
  have hz1 : 1 ≤ z := by omega
  have hz2 : z ≤ 16383 := by omega
  have hkl : k ≤ xs.length := by have := Nat.mod_lt cu (show 0 < xs.length + 1 by omega); omega
  have hcap : xs.length ≤ cap := by obtain ⟨_, _, hv, hh, _⟩ := hB; injection hv with _ _ e3; omega
  have HZ := Lib.hid fun W => size_any nn W hnn
  rw [hz] at HZ
  have ek := rem_of cu xs.length
  rw [hk] at ek
  have ew : IntKind.i64.wrap ((xs.length : Int) + 1) = (xs.length : Int) + 1 := by rw [IntWalk.i64_in] <;> omega
  have hp : (0 : Int) ≤ (xs.length : Int) := by omega
  have hp1 : (0 : Int) ≤ (cu : Int) := by omega
  have hp2 : (cu : Int) < 256 := by omega
  have hp3 : (0 : Int) < (xs.length : Int) + 1 := by omega
  have HKC := Lib.hid (show (0 : Int) ≤ (k : Int) ∧ (k : Int) ≤ (cap : Int) ∧ ¬ ((xs.length : Int) + 1 = 0) ∧ k ≤ cap by omega)
  have hSL : ∀ w, (Instr.slice 30 (.slice ad xs.length cap) none (some (.int .i64 (k : Int))) none).run Tryd.prog w = .ok (.slice ad k cap) w := fun w => run_h ad xs.length cap k (by omega) w
  have HR := fun W hb => read_any ad cap z W (bytes_below hB hb) h8 hn (by omega)
  obtain ⟨qs, ql⟩ := cread_sound (z := z) h8 (by omega : xs.length < 1000000)
  have HQW := fun (h0 : (cread xs z).2.1 = 0) (W : World) (oa : Option Addr) (kk oc : Nat) (hw : OrdsIn W 0 (.slice oa kk oc) (cread xs z).1.os) => (write_any (cread xs z).1 oa kk oc z W hw qs (by omega) hz1 hz2).mono (R' := fun e w' => ∃ va vc, e = .returned (.tuple #[.slice va xs.length vc, .nilIface]) ∧ Below W.heap.size W w' ∧ BytesIn w' (.slice va xs.length vc) xs ∧ (va = none → xs.length = 0 ∧ vc = 0)) (by
    rintro e w' ⟨v, ev, rfl, hb, hwr⟩
    have hcw := cwrite_read (ys := xs) (z := z) h8 h0
    rcases hwr with ⟨_, rfl, hown⟩ | ⟨h1, _⟩
    · rw [hcw] at hown
      obtain ⟨va, vc, rfl, hv⟩ := row_nil2 hown
      exact ⟨va, vc, rfl, hb, own_bytes hown, hv⟩
    · rw [hcw] at h1; exact absurd rfl h1)
  have HRX := fun (W : World) (va : Option Addr) (vc : Nat) (hw : BytesIn W (.slice va xs.length vc) xs) (hv : va = none → xs.length = 0 ∧ vc = 0) => read_any va vc z W hw h8 hv (by omega)
  have htk : (xs.take k).length = k := by rw [List.length_take]; omega
  have HRP := fun W hb => read_any (xs := xs.take k) ad cap z W (by rw [htk]; exact bytes_h (bytes_below hB hb) hkl) (fun x hx => h8 x (List.mem_of_mem_take hx)) (fun h => by have := hn h; rw [htk]; omega) (by rw [htk]; omega)
  rw [htk] at HRP
  have HPF := Lib.hid fun h h' => cread_prefix (xs := xs) (k := k) hz2 h8 h h'
  have HE0 := Lib.hid hE
  have HWH := Lib.hid fun h => cread_where (z := z) h8 (by omega : xs.length ≤ 8192) h
  have HQS := Lib.hid qs
  have HQL := Lib.hid (show (cread xs z).1.os.length < 1000000 by omega)
  generalize cread (xs.take k) z = P at *
  obtain ⟨⟨pc, pa, pu, pr, po⟩, pw, pat⟩ := P
  generalize cread xs z = Q at *
  obtain ⟨⟨qc, qa, qu, qr, qo⟩, qw, qat⟩ := Q
  simp only at HR HQW HRX HRP HPF HWH HQS HQL HE0
  replace HR := Lib.hid HR
  replace HQW := Lib.hid HQW
  replace HRX := Lib.hid HRX
  replace HRP := Lib.hid HRP
  have HH := Lib.hid hgl
  clear hE hB h8 hn hl hnn hz hcu hk hgl hz1 hz2 hkl hcap qs ql htk
  go_enter Tryd.func5, Tryd.ntmps5
  go_wp2_with fail
  with_reducible refine (awake_any _ HH.out).mono ?_
  rintro e w1 ⟨rfl, hb⟩
  have K1 := Lib.hid hb
  clear hb
  go_wp2_with fail
  with_reducible refine (HZ.out _).mono ?_
  rintro e w' ⟨rfl, rfl⟩
  go_wp2_with fail
  with_reducible refine (HR.out _ K1.out).mono ?_
  rintro e wp ⟨oa, kk, oc, ev, rfl, ho, hb, hev, ht⟩
  have HAL := al_any wp (.cells #[.int .i64 qc, .bool qa, .bool qu, .bool qr, .slice oa kk oc] 26)
  have Kq := Lib.hid (kept_trans (kept_trans K1.out hb) HAL)
  have Oq := Lib.hid ((ho.mono (Nat.zero_le _)).below HAL)
  have Lq := Lib.hid (heap_alloc_new wp (.cells #[.int .i64 qc, .bool qa, .bool qu, .bool qr, .slice oa kk oc] 26))
  have Tq := Lib.hid (ht.below HAL)
  clear ho hb ht HAL K1 HR
  rcases hev with ⟨h0, _⟩ | ⟨h0, t, u', rfl⟩
  · exact absurd h0 HE0.out
  · have hwh := HWH.out h0
    have e0 : ((qw : Int) != 0) = true := by simp; exact h0
    have e1 : (0 : Int) ≤ qat := hwh.1
    have e2 : qat ≤ (xs.length : Int) := hwh.2
    clear h0 hwh HWH HPF HQW HRX HRP Oq Lq ek ew hp1 hp2 hp3 hSL
    go_wp2_with fail
    generalize wp.alloc (.cells #[.int .i64 qc, .bool qa, .bool qu, .bool qr, .slice oa kk oc] 26) = wq at *
    with_reducible refine (code_told _ (qw : Int) qat wq (hand_of HH.out Kq.out) Tq.out).mono ?_
    rintro e w5 ⟨rfl, hb⟩
    have K5 := kept_hid Kq hb
    have T5 := Lib.hid (Tq.out.below hb)
    clear hb Kq Tq
    go_wp2_with fail
    with_reducible refine (where_told _ (qw : Int) qat w5 (hand_of HH.out K5.out) T5.out).mono ?_
    rintro e w6 ⟨rfl, hb⟩
    have K6 := kept_hid K5 hb
    have T6 := Lib.hid (T5.out.below hb)
    clear hb K5 T5
    go_wp2_with fail
    with_reducible refine (where_told _ (qw : Int) qat w6 (hand_of HH.out K6.out) T6.out).mono ?_
    rintro e w7 ⟨rfl, hb⟩
    have K7 := kept_hid K6 hb
    clear hb K6 T6
    go_wp2_with fail
    go_ret
    exact ⟨rfl, K7.out⟩
set_option maxRecDepth 100000 in
set_option maxHeartbeats 16000000 in
theorem again_ok {xs : List Nat} (ad : Option Addr) (cap nn z cu k : Nat) (w : World) (hB : BytesIn w (.slice ad xs.length cap) xs) (h8 : ∀ x ∈ xs, x < 256) (hn : ad = none → xs.length = 0 ∧ cap = 0) (hl : xs.length ≤ 2000) (hnn : nn < 65536) (hz : 1 + nn % 16383 = z) (hcu : cu < 256) (hk : cu % (xs.length + 1) = k) (hgl : Handle w) (hE : (cread xs z).2.1 = 0) :
    Calls Tryd.prog 5 #[.slice ad xs.length cap, .int .u16 (nn : Int), .int .u8 (cu : Int)] w fun e w' => e = .returned (.bool true) ∧ Below w.heap.size w w' := by
  have hpos : 0 < xs.length := by
    rcases cread_cases xs z with ⟨h, _⟩ | ⟨_, _, _, h, _⟩
    · exact absurd hE h
    · exact h
  obtain ⟨g, o, rfl⟩ : ∃ g o, ad = some ⟨g, o, none⟩ := by
    obtain ⟨_, _, hv, _, hc⟩ := hB
    injection hv with e1 _ _
    rcases hc with h0 | ⟨g, o, h, _⟩
    · rw [h0] at hpos; cases hpos
    · exact ⟨g, o, e1.trans h⟩
  have hg : ¬ (2000 : Int) < (xs.length : Int) := by omega
  have hz1 : 1 ≤ z := by omega
  have hz2 : z ≤ 16383 := by omega
  have hkl : k ≤ xs.length := by have := Nat.mod_lt cu (show 0 < xs.length + 1 by omega); omega
  have hcap : xs.length ≤ cap := by obtain ⟨_, _, hv, hh, _⟩ := hB; injection hv with _ _ e3; omega
  have HZ := Lib.hid fun W => size_any nn W hnn
  rw [hz] at HZ
  have ek := rem_of cu xs.length
  rw [hk] at ek
  have ew : IntKind.i64.wrap ((xs.length : Int) + 1) = (xs.length : Int) + 1 := by rw [IntWalk.i64_in] <;> omega
  have hp : (0 : Int) ≤ (xs.length : Int) := by omega
  have hp1 : (0 : Int) ≤ (cu : Int) := by omega
  have hp2 : (cu : Int) < 256 := by omega
  have hp3 : (0 : Int) < (xs.length : Int) + 1 := by omega
  have HTM := Lib.hid (show (IntKind.i64.wrap (cu : Int)).tmod ((xs.length : Int) + 1) = (k : Int) by rw [IntWalk.i64_in _ (by omega), Int.tmod_eq_emod_of_nonneg hp1, ek])
  have HKC := Lib.hid (show (0 : Int) ≤ (k : Int) ∧ (k : Int) ≤ (cap : Int) ∧ ¬ ((xs.length : Int) + 1 = 0) ∧ k ≤ cap ∧ ¬ cap = 0 by omega)
  have hSL : ∀ w, (Instr.slice 30 (.slice (some ⟨g, o, none⟩) xs.length cap) none (some (.int .i64 (k : Int))) none).run Tryd.prog w = .ok (.slice (some ⟨g, o, none⟩) k cap) w := fun w => run_h (some ⟨g, o, none⟩) xs.length cap k (by omega) w
  have HR := fun W hb => read_any (some ⟨g, o, none⟩) cap z W (bytes_below hB hb) h8 hn (by omega)
  obtain ⟨qs, ql⟩ := cread_sound (z := z) h8 (by omega : xs.length < 1000000)
  have HQW := fun (h0 : (cread xs z).2.1 = 0) (W : World) (oa : Option Addr) (kk oc : Nat) (hw : OrdsIn W 0 (.slice oa kk oc) (cread xs z).1.os) => (write_any (cread xs z).1 oa kk oc z W hw qs (by omega) hz1 hz2).mono (R' := fun e w' => ∃ va vc, e = .returned (.tuple #[.slice va xs.length vc, .nilIface]) ∧ Below W.heap.size W w' ∧ BytesIn w' (.slice va xs.length vc) xs ∧ (va = none → xs.length = 0 ∧ vc = 0)) (by
    rintro e w' ⟨v, ev, rfl, hb, hwr⟩
    have hcw := cwrite_read (ys := xs) (z := z) h8 h0
    rcases hwr with ⟨_, rfl, hown⟩ | ⟨h1, _⟩
    · rw [hcw] at hown
      obtain ⟨va, vc, rfl, hv⟩ := row_nil2 hown
      exact ⟨va, vc, rfl, hb, own_bytes hown, hv⟩
    · rw [hcw] at h1; exact absurd rfl h1)
  have HRX := fun (W : World) (va : Option Addr) (vc : Nat) (hw : BytesIn W (.slice va xs.length vc) xs) (hv : va = none → xs.length = 0 ∧ vc = 0) => read_any va vc z W hw h8 hv (by omega)
  have htk : (xs.take k).length = k := by rw [List.length_take]; omega
  have HRP := fun W hb => read_any (xs := xs.take k) (some ⟨g, o, none⟩) cap z W (by rw [htk]; exact bytes_h (bytes_below hB hb) hkl) (fun x hx => h8 x (List.mem_of_mem_take hx)) (fun h => by have := hn h; rw [htk]; omega) (by rw [htk]; omega)
  rw [htk] at HRP
  have HPF := Lib.hid fun h h' => cread_prefix (xs := xs) (k := k) hz2 h8 h h'
  have HE0 := Lib.hid hE
  have HWH := Lib.hid fun h => cread_where (z := z) h8 (by omega : xs.length ≤ 8192) h
  have HQS := Lib.hid qs
  have HQL := Lib.hid (show (cread xs z).1.os.length < 1000000 by omega)
  generalize cread (xs.take k) z = P at *
  obtain ⟨⟨pc, pa, pu, pr, po⟩, pw, pat⟩ := P
  generalize cread xs z = Q at *
  obtain ⟨⟨qc, qa, qu, qr, qo⟩, qw, qat⟩ := Q
  simp only at HR HQW HRX HRP HPF HWH HQS HQL HE0
  replace HR := Lib.hid HR
  replace HQW := Lib.hid HQW
  replace HRX := Lib.hid HRX
  replace HRP := Lib.hid HRP
  have HH := Lib.hid hgl
  clear hE hpos hB h8 hn hl hnn hz hcu hk hgl hz1 hz2 hkl hcap qs ql htk
  go_enter Tryd.func5, Tryd.ntmps5
  go_wp2_with fail
  with_reducible refine (awake_any _ HH.out).mono ?_
  rintro e w1 ⟨rfl, hb⟩
  have K1 := Lib.hid hb
  clear hb
  go_wp2_with fail
  with_reducible refine (HZ.out _).mono ?_
  rintro e w' ⟨rfl, rfl⟩
  go_wp2_with fail
  with_reducible refine (HR.out _ K1.out).mono ?_
  rintro e wp ⟨oa, kk, oc, ev, rfl, ho, hb, hev, ht⟩
  have HAL := al_any wp (.cells #[.int .i64 qc, .bool qa, .bool qu, .bool qr, .slice oa kk oc] 26)
  have Kq := Lib.hid (kept_trans (kept_trans K1.out hb) HAL)
  have Oq := Lib.hid ((ho.mono (Nat.zero_le _)).below HAL)
  have Lq := Lib.hid (heap_alloc_new wp (.cells #[.int .i64 qc, .bool qa, .bool qu, .bool qr, .slice oa kk oc] 26))
  have Tq := Lib.hid (ht.below HAL)
  clear ho hb ht HAL K1 HR
  rcases hev with ⟨h0, rfl⟩ | ⟨h0, _⟩
  rotate_left
  · exact absurd HE0.out h0
  have HWR0 := Lib.hid (HQW.out h0)
  clear h0 Tq HWH HQW
  go_wp2_with fail
  generalize wp.heap.size = LQ at *
  generalize wp.alloc (.cells #[.int .i64 qc, .bool qa, .bool qu, .bool qr, .slice oa kk oc] 26) = wq at *
  go_region_held3 (fun W' => Below wq.heap.size wq W' ∧ W'.cell? ⟨LQ, 0, none⟩ = some (.int .i64 qc) ∧ W'.cell? ⟨LQ, 1, none⟩ = some (.bool qa) ∧ W'.cell? ⟨LQ, 2, none⟩ = some (.bool qu) ∧ W'.cell? ⟨LQ, 3, none⟩ = some (.bool qr) ∧ W'.cell? ⟨LQ, 4, none⟩ = some (.slice oa kk oc))
    (first | exact below5 Lq.out _ (Below.refl _ _).drew | exact below5 Lq.out _ (Below.refl _ _) | exact below5 Lq.out _ (And.left (by assumption)) | exact below5 Lq.out _ (kept_trans (And.left (by assumption)) hb))
    (first
      | (go_at_call 11; with_reducible refine (HZ.out _).mono ?_; rintro e wa ⟨rfl, rfl⟩)
      | (go_at_call 10; with_reducible refine (HWR0.out _ oa kk oc (Oq.out.below (And.left (by assumption)))).mono ?_; rintro e wr ⟨va, vc, rfl, hb, hBv, hv⟩))
  have hS := And.left (by assumption : Below wq.heap.size wq wr ∧ _)
  have Kr := kept_hid Kq hS
  have Or := Lib.hid (Oq.out.below hS)
  have Lr := Lib.hid (blk Lq.out hS)
  have HX := Lib.hid (HRX.out wr va vc hBv hv)
  clear hb hS hBv hv Kq Oq Lq HWR0 HRX
  go_wp2_with fail
  with_reducible refine (HZ.out _).mono ?_
  rintro e w' ⟨rfl, rfl⟩
  go_wp2_with fail
  with_reducible refine HX.out.mono ?_
  rintro e ws ⟨xa, xk, xc, ev2, rfl, ho, hb, hev, _⟩
  rcases hev with ⟨_, rfl⟩ | ⟨h1, _⟩
  rotate_left
  · exact absurd HE0.out h1
  have HAL := al_any ws (.cells #[.int .i64 qc, .bool qa, .bool qu, .bool qr, .slice xa xk xc] 26)
  have hb2 := kept_trans hb HAL
  have Kt := kept_hid Kr hb2
  have Ot := Lib.hid (Or.out.below hb2)
  have Lt := Lib.hid (blk Lr.out hb2)
  have Xt := Lib.hid ((ho.mono (Nat.zero_le _)).below HAL)
  have Mt := Lib.hid (heap_alloc_new ws (.cells #[.int .i64 qc, .bool qa, .bool qu, .bool qr, .slice xa xk xc] 26))
  clear ho hb HAL hb2 Kr Or Lr HX
  go_wp2_with fail
  generalize ws.heap.size = LX at *
  generalize ws.alloc (.cells #[.int .i64 qc, .bool qa, .bool qu, .bool qr, .slice xa xk xc] 26) = wt at *
  obtain ⟨hk0, hkc, hp5, hkn, hc0⟩ := HKC.out
  have etm := HTM.out
  go_region_held3 (fun W' => Below wt.heap.size wt W')
    (first | with_reducible assumption | with_reducible exact Below.refl _ _ | with_reducible exact (Below.refl _ _).drew | with_reducible exact below_set5 _ _ _ _ _ (by with_reducible assumption) (by first | with_reducible exact Nat.le_refl _ | with_reducible exact hwge) | with_reducible exact kept_trans (by with_reducible assumption) (al_any _ _))
    (first
      | (go_at_call 11; with_reducible refine (HZ.out _).mono ?_; rintro e wa ⟨rfl, rfl⟩)
      | (go_at_call 18; have hS0 := (by assumption : Below wt.heap.size wt _); with_reducible refine (HRP.out _ (kept_trans Kt.out hS0)).mono ?_; rintro e wu ⟨ya, yk, yc, ev3, rfl, hyo, hb, hev, hyt⟩; have hS1 := kept_trans hS0 hb; have hwge := hS1.size; obtain ⟨n0, n1, n2, n3, n4⟩ := cells5w (heap_alloc_new wu (.cells #[.int .i64 0, .bool false, .bool false, .bool false, .slice none 0 0] 26)); obtain ⟨m0, m1, m2, m3, m4⟩ := free5 (heap_alloc_new wu (.cells #[.int .i64 0, .bool false, .bool false, .bool false, .slice none 0 0] 26)); (first | (have hzc := blk_dr hb; have hz5 := cells5w hzc; have hf5 := free5 hzc; clear hzc; obtain ⟨z0, z1, z2, z3, z4⟩ := hz5; obtain ⟨y0, y1, y2, y3, y4⟩ := hf5) | skip)))
  · have hwz := kept_trans hS1 (al_any wu (.cells #[.int .i64 pc, .bool pa, .bool pu, .bool pr, .slice ya yk yc] 26))
    have PZ := Lib.hid (heap_alloc_new wu (.cells #[.int .i64 pc, .bool pa, .bool pu, .bool pr, .slice ya yk yc] 26))
    have OZ := Lib.hid (Ot.out.below hwz)
    have XZ := Lib.hid (Xt.out.below hwz)
    have LZ := Lib.hid (blk Lt.out hwz)
    have MZ := Lib.hid (blk Mt.out hwz)
    have KZ := kept_hid Kt hwz
    have HYL := Lib.hid hyo.len
    have HKL := Lib.hid Ot.out.len
    clear hwz hS0 hS1 hwge hb hyo hyt Ot Xt Lt Mt Kt ek ew hp1 hp2 hp3 hSL hk0 hkc hp5 hkn hc0 etm
    clear n0 n1 n2 n3 n4 m0 m1 m2 m3 m4
    generalize wu.heap.size = PB at *
    generalize wu.alloc (.cells #[.int .i64 pc, .bool pa, .bool pu, .bool pr, .slice ya yk yc] 26) = wz at *
    obtain ⟨c0, c1, c2, c3, c4⟩ := cells5w LZ.out
    obtain ⟨d0, d1, d2, d3, d4⟩ := cells5w MZ.out
    go_wp2_with fail
    clear c0 c1 c2 c3 c4 d0 d1 d2 d3 d4
    have HSM := csame_any ⟨qc, qa, qu, qr, qo⟩ ⟨qc, qa, qu, qr, qo⟩ oa kk oc xa xk xc wz OZ.out XZ.out HQS.out HQS.out HQL.out
    rw [(csame_iff _ _).2 rfl] at HSM
    replace HSM := Lib.hid HSM
    with_reducible refine HSM.out.mono ?_
    rintro e wv ⟨rfl, hb⟩
    have KV := kept_hid KZ hb
    obtain ⟨c0, c1, c2, c3, c4⟩ := cells5w (blk LZ.out hb)
    obtain ⟨d0, d1, d2, d3, d4⟩ := cells5w (blk PZ.out hb)
    clear hb HSM KZ OZ XZ LZ MZ PZ
    rcases hev with ⟨h1, rfl⟩ | ⟨h1, t, u', rfl⟩
    · have hle := HPF.out HE0.out h1
      have hi : (yk : Int) ≤ (kk : Int) := by have := HYL.out; have := HKL.out; clear hp hg; omega
      clear hle h1
      go_wp2_with fail
      go_ret
      exact ⟨rfl, KV.out⟩
    · clear h1
      go_wp2_with fail
      go_ret
      exact ⟨rfl, KV.out⟩
  · have SF := set5b wu wt.heap.size 26 _ _ _ _ _ (.int .i64 pc) (.bool pa) (.bool pu) (.bool pr) (.slice ya yk yc) (blk_dr hb) hS1 (Nat.le_refl _)
    have PZ := Lib.hid SF.1
    have hwz := SF.2.2
    clear SF z0 z1 z2 z3 z4 y0 y1 y2 y3 y4
    have OZ := Lib.hid (Ot.out.below hwz)
    have XZ := Lib.hid (Xt.out.below hwz)
    have LZ := Lib.hid (blk Lt.out hwz)
    have MZ := Lib.hid (blk Mt.out hwz)
    have KZ := kept_hid Kt hwz
    have HYL := Lib.hid hyo.len
    have HKL := Lib.hid Ot.out.len
    clear hwz hS0 hS1 hwge hb hyo hyt Ot Xt Lt Mt Kt ek ew hp1 hp2 hp3 hSL hk0 hkc hp5 hkn hc0 etm
    clear n0 n1 n2 n3 n4 m0 m1 m2 m3 m4
    generalize ((((wu.setCell ⟨wt.heap.size, 0, none⟩ (.int .i64 pc)).setCell ⟨wt.heap.size, 1, none⟩ (.bool pa)).setCell ⟨wt.heap.size, 2, none⟩ (.bool pu)).setCell ⟨wt.heap.size, 3, none⟩ (.bool pr)).setCell ⟨wt.heap.size, 4, none⟩ (.slice ya yk yc) = wz at *
    generalize wt.heap.size = PB at *
    obtain ⟨c0, c1, c2, c3, c4⟩ := cells5w LZ.out
    obtain ⟨d0, d1, d2, d3, d4⟩ := cells5w MZ.out
    go_wp2_with fail
    clear c0 c1 c2 c3 c4 d0 d1 d2 d3 d4
    have HSM := csame_any ⟨qc, qa, qu, qr, qo⟩ ⟨qc, qa, qu, qr, qo⟩ oa kk oc xa xk xc wz OZ.out XZ.out HQS.out HQS.out HQL.out
    rw [(csame_iff _ _).2 rfl] at HSM
    replace HSM := Lib.hid HSM
    with_reducible refine HSM.out.mono ?_
    rintro e wv ⟨rfl, hb⟩
    have KV := kept_hid KZ hb
    obtain ⟨c0, c1, c2, c3, c4⟩ := cells5w (blk LZ.out hb)
    obtain ⟨d0, d1, d2, d3, d4⟩ := cells5w (blk PZ.out hb)
    clear hb HSM KZ OZ XZ LZ MZ PZ
    rcases hev with ⟨h1, rfl⟩ | ⟨h1, t, u', rfl⟩
    · have hle := HPF.out HE0.out h1
      have hi : (yk : Int) ≤ (kk : Int) := by have := HYL.out; have := HKL.out; clear hp hg; omega
      clear hle h1
      go_wp2_with fail
      go_ret
      exact ⟨rfl, KV.out⟩
    · clear h1
      go_wp2_with fail
      go_ret
      exact ⟨rfl, KV.out⟩
  · have SF := set5b wu wt.heap.size 26 _ _ _ _ _ (.int .i64 pc) (.bool pa) (.bool pu) (.bool pr) (.slice ya yk yc) (blk_dr hb) hS1 (Nat.le_refl _)
    have PZ := Lib.hid SF.1
    have hwz := SF.2.2
    clear SF z0 z1 z2 z3 z4 y0 y1 y2 y3 y4
    have OZ := Lib.hid (Ot.out.below hwz)
    have XZ := Lib.hid (Xt.out.below hwz)
    have LZ := Lib.hid (blk Lt.out hwz)
    have MZ := Lib.hid (blk Mt.out hwz)
    have KZ := kept_hid Kt hwz
    have HYL := Lib.hid hyo.len
    have HKL := Lib.hid Ot.out.len
    clear hwz hS0 hS1 hwge hb hyo hyt Ot Xt Lt Mt Kt ek ew hp1 hp2 hp3 hSL hk0 hkc hp5 hkn hc0 etm
    clear n0 n1 n2 n3 n4 m0 m1 m2 m3 m4
    generalize ((((wu.setCell ⟨wt.heap.size, 0, none⟩ (.int .i64 pc)).setCell ⟨wt.heap.size, 1, none⟩ (.bool pa)).setCell ⟨wt.heap.size, 2, none⟩ (.bool pu)).setCell ⟨wt.heap.size, 3, none⟩ (.bool pr)).setCell ⟨wt.heap.size, 4, none⟩ (.slice ya yk yc) = wz at *
    generalize wt.heap.size = PB at *
    obtain ⟨c0, c1, c2, c3, c4⟩ := cells5w LZ.out
    obtain ⟨d0, d1, d2, d3, d4⟩ := cells5w MZ.out
    go_wp2_with fail
    clear c0 c1 c2 c3 c4 d0 d1 d2 d3 d4
    have HSM := csame_any ⟨qc, qa, qu, qr, qo⟩ ⟨qc, qa, qu, qr, qo⟩ oa kk oc xa xk xc wz OZ.out XZ.out HQS.out HQS.out HQL.out
    rw [(csame_iff _ _).2 rfl] at HSM
    replace HSM := Lib.hid HSM
    with_reducible refine HSM.out.mono ?_
    rintro e wv ⟨rfl, hb⟩
    have KV := kept_hid KZ hb
    obtain ⟨c0, c1, c2, c3, c4⟩ := cells5w (blk LZ.out hb)
    obtain ⟨d0, d1, d2, d3, d4⟩ := cells5w (blk PZ.out hb)
    clear hb HSM KZ OZ XZ LZ MZ PZ
    rcases hev with ⟨h1, rfl⟩ | ⟨h1, t, u', rfl⟩
    · have hle := HPF.out HE0.out h1
      have hi : (yk : Int) ≤ (kk : Int) := by have := HYL.out; have := HKL.out; clear hp hg; omega
      clear hle h1
      go_wp2_with fail
      go_ret
      exact ⟨rfl, KV.out⟩
    · clear h1
      go_wp2_with fail
      go_ret
      exact ⟨rfl, KV.out⟩
/-- StreamAgain returns true. -/
theorem again_all (ad : Option Addr) (len cap : Nat) (zs : List Int) (nn cu : Int) (w : World) (hr : IsRow .u8 w ad len cap zs) (hn : (Lit.int .u16 nn).wf = true) (hc : (Lit.int .u8 cu).wf = true) (hgl : Handle w) :
    Calls Tryd.prog 5 #[.slice ad len cap, .int .u16 nn, .int .u8 cu] w fun e w' => e = .returned (.bool true) ∧ Below w.heap.size w w' := by
  by_cases hl : 2000 < len
  · exact again_long ad len cap nn cu w hl hgl
  obtain ⟨xs, hx, h8, hB⟩ := isRow_bytes hr
  have hnone := isRow_nil hr
  subst hx
  have hn := wf_u16 hn
  have hc := wf_u8 hc
  obtain ⟨nn, rfl⟩ := Int.eq_ofNat_of_zero_le (a := nn) (by omega)
  obtain ⟨cu, rfl⟩ := Int.eq_ofNat_of_zero_le (a := cu) (by omega)
  by_cases hE : (cread xs (1 + nn % 16383)).2.1 = 0
  · exact again_ok ad cap nn _ cu _ w hB h8 hnone (by omega) (by omega) rfl (by omega) rfl hgl hE
  · exact again_bad ad cap nn _ cu _ w hB h8 hnone (by omega) (by omega) rfl (by omega) rfl hgl hE
end Str
end Go.Proofs.YtmllmmamdkjndaaDoor
