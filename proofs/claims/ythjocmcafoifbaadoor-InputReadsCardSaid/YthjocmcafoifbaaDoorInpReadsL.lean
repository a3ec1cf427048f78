/- InputReads returns true. Written by tools/gen_inp_laws.py. -/
import Derived.Test.YthjocmcafoifbaaDoorInpTells
import Derived.Test.YthjocmcafoifbaaDoorInpRsame
import Derived.Test.YthjocmcafoifbaaDoorInpRread
namespace Go.Proofs.YthjocmcafoifbaaDoor
open Go.RowKit Sha Cut Err Six Att Byt Apd
namespace Inp
set_option maxRecDepth 100000 in
set_option maxHeartbeats 4000000 in
theorem reads_long (ad : Option Addr) (len cap : Nat) (nn : Int) (w : World) (hl : 9000 < len) (hgl : Handle w) :
    Calls Tryd.prog 3 #[.slice ad len cap, .int .u16 nn] w fun e w' => e = .returned (.bool true) ∧ Below w.heap.size w w' := by
  have hg : (9000 : Int) < (len : Int) := by omega
  have HH := Lib.hid hgl
  clear hl hgl
  go_enter Tryd.func3, Tryd.ntmps3
  go_wp2_with fail
  with_reducible refine (awake_any _ HH.out).mono ?_
  rintro e w1 ⟨rfl, hb⟩
  have K1 := Lib.hid hb
  clear hb
  go_wp2_with fail
  with_reducible refine (awake_any _ (hand_of HH.out K1.out)).mono ?_
  rintro e wz ⟨rfl, hb⟩
  have Kz := kept_hid K1 hb
  clear hb
  go_wp2_with fail
  go_ret
  exact ⟨rfl, Kz.out⟩
set_option maxRecDepth 100000 in
set_option maxHeartbeats 8000000 in
theorem reads_main {xs : List Nat} (ad : Option Addr) (cap nn z : Nat) (w : World) (hB : BytesIn w (.slice ad xs.length cap) xs) (h8 : ∀ x ∈ xs, x < 256) (hn : ad = none → xs.length = 0 ∧ cap = 0) (hl : xs.length ≤ 9000) (hnn : nn < 65536) (hz : 1 + nn % 16383 = z) (hgl : Handle w) :
    Calls Tryd.prog 3 #[.slice ad xs.length cap, .int .u16 (nn : Int)] w fun e w' => e = .returned (.bool true) ∧ Below w.heap.size w w' := by
  have hg : ¬ (9000 : Int) < (xs.length : Int) := by omega
  have HZ := Lib.hid fun W => size_any nn W hnn
  rw [hz] at HZ
  have HR := fun W hh hb => read_any ad xs.length cap z W hh (bytes_below hB hb) h8 hn (by omega) _ rfl
  have HQ := fun W hb => rread_any ad cap z W (bytes_below hB hb) h8 (by omega) _ rfl
  obtain ⟨_, qsl, qs⟩ := iread_sound (z := z) h8
  have HQS := Lib.hid (show Sound (iread xs z).1.fs from fun o ho => ⟨(qs o ho).2.2, by have := (qs o ho).2.1; omega⟩)
  have HQL := Lib.hid (show (iread xs z).1.fs.length < 1000000 by omega)
  generalize iread xs z = Q at *
  obtain ⟨⟨qk, qc, qo⟩, qw, qp⟩ := Q
  simp only at HR HQ HQS HQL
  replace HR := Lib.hid HR
  replace HQ := Lib.hid HQ
  have HH := Lib.hid hgl
  clear hB h8 hn hl hnn hz hgl qsl qs
  go_enter Tryd.func3, Tryd.ntmps3
  go_wp2_with fail
  with_reducible refine (awake_any _ HH.out).mono ?_
  rintro e w1 ⟨rfl, hb⟩
  have K1 := Lib.hid hb
  clear hb
  go_wp2_with fail
  with_reducible refine (HZ.out _).mono ?_
  rintro e w' ⟨rfl, rfl⟩
  go_wp2_with fail
  with_reducible refine (HR.out _ (hand_of HH.out K1.out) K1.out).mono ?_
  rintro e w2 ⟨oa, kk, oc, b2, rfl, ho, ht, hb⟩
  have HAL := al_any w2 (.cells #[.int .u8 (qk : Int), .int .i64 qc, .slice oa kk oc] 27)
  have K3 := Lib.hid (kept_trans (kept_trans K1.out hb) HAL)
  have O3 := Lib.hid ((ho.mono (Nat.zero_le _)).below HAL)
  have L3 := Lib.hid (heap_alloc_new w2 (.cells #[.int .u8 (qk : Int), .int .i64 qc, .slice oa kk oc] 27))
  have T3 := Lib.hid (ht.below HAL)
  clear ho ht hb HAL K1 HR
  go_wp2_with fail
  generalize w2.heap.size = LO at *
  generalize w2.alloc (.cells #[.int .u8 (qk : Int), .int .i64 qc, .slice oa kk oc] 27) = w3 at *
  with_reducible refine (HZ.out _).mono ?_
  rintro e w' ⟨rfl, rfl⟩
  go_wp2_with fail
  with_reducible refine (HQ.out _ K3.out).mono ?_
  rintro e w4 ⟨pa, pk, pc, rfl, ho, hb⟩
  have HAL := al_any w4 (.cells #[.int .u8 (qk : Int), .int .i64 qc, .slice pa pk pc] 27)
  have hb5 := kept_trans hb HAL
  have K5 := kept_hid K3 hb5
  have O5 := Lib.hid (O3.out.below hb5)
  have P5 := Lib.hid (ho.below HAL)
  have T5 := Lib.hid (T3.out.below hb5)
  have M5 := Lib.hid (heap_alloc_new w4 (.cells #[.int .u8 (qk : Int), .int .i64 qc, .slice pa pk pc] 27))
  obtain ⟨c0, c1, c2⟩ := cells3 (blk L3.out hb)
  have l4 := there_lt (blk L3.out hb)
  clear ho hb HAL hb5 K3 O3 T3 L3 HQ
  go_wp2_with fail
  clear c0 c1 c2 l4
  generalize w4.alloc (.cells #[.int .u8 (qk : Int), .int .i64 qc, .slice pa pk pc] 27) = w5 at *
  have HSM := risame_any ⟨qk, qc, qo⟩ ⟨qk, qc, qo⟩ oa kk oc pa pk pc w5 O5.out P5.out HQS.out HQS.out HQL.out
  rw [isame_self] at HSM
  replace HSM := Lib.hid HSM
  with_reducible refine HSM.out.mono ?_
  rintro e w6 ⟨rfl, hb⟩
  have K6 := kept_hid K5 hb
  have T6 := Lib.hid (T5.out.below hb)
  clear hb HSM K5 O5 P5 T5 M5
  generalize errR qw b2 = ev at *
  go_wp2_with fail
  with_reducible refine (code_told ev (qw : Int) qp w6 (hand_of HH.out K6.out) T6.out).mono ?_
  rintro e w7 ⟨rfl, hb⟩
  have K7 := kept_hid K6 hb
  have T7 := Lib.hid (T6.out.below hb)
  clear hb K6 T6
  go_wp2_with fail
  with_reducible refine (where_told ev (qw : Int) qp w7 (hand_of HH.out K7.out) T7.out).mono ?_
  rintro e w8 ⟨rfl, hb⟩
  have K8 := kept_hid K7 hb
  clear hb K7 T7
  go_wp2_with fail
  go_ret
  exact ⟨rfl, K8.out⟩
/-- InputReads returns true. -/
theorem reads_all (ad : Option Addr) (len cap : Nat) (zs : List Int) (nn : Int) (w : World) (hr : IsRow .u8 w ad len cap zs) (hn : (Lit.int .u16 nn).wf = true) (hgl : Handle w) :
    Calls Tryd.prog 3 #[.slice ad len cap, .int .u16 nn] w fun e w' => e = .returned (.bool true) ∧ Below w.heap.size w w' := by
  by_cases hl : 9000 < len
  · exact reads_long ad len cap nn w hl hgl
  obtain ⟨xs, hx, h8, hB⟩ := isRow_bytes hr
  have hnone := isRow_nil hr
  subst hx
  have hn := Ord.wf_u16 hn
  obtain ⟨nn, rfl⟩ := Int.eq_ofNat_of_zero_le (a := nn) (by omega)
  exact reads_main ad cap nn _ w hB h8 hnone (by omega) (by omega) rfl hgl
end Inp
end Go.Proofs.YthjocmcafoifbaaDoor
