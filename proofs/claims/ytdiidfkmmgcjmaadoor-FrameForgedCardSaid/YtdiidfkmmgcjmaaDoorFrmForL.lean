/- The law FrameForged. Written by tools/gen_frm_laws.py. -/
import Derived.Test.YtdiidfkmmgcjmaaDoorFrmAwake
import Derived.Test.YtdiidfkmmgcjmaaDoorFrmWr
import Derived.Test.YtdiidfkmmgcjmaaDoorFrmSam
import Derived.Test.YtdiidfkmmgcjmaaDoorFrmSeal
import Derived.Test.YtdiidfkmmgcjmaaDoorFrmOpen
import Derived.Test.YtdiidfkmmgcjmaaDoorBunBase
import Derived.Deep.Cut
import Derived.Deep.LoopGhost
import Derived.Deep.RegionLaw
import Derived.Deep.RegionHeld3
import Derived.IntWalk
import Derived.StillTailTactics
import Derived.Lib.SlBytesConst
import Derived.Lib.SmallJoins
namespace Go.Proofs.YtdiidfkmmgcjmaaDoor
open Go.RowKit Sha Six Apd Cut Err
set_option linter.unusedVariables false
set_option linter.unusedSimpArgs false
namespace Frm
theorem u8_xor (a b : Nat) (ha : a < 256) (hb : b < 256) : bits .xor .u8 (a : Int) (b : Int) = ((a ^^^ b : Nat) : Int) := by
  have hx : a ^^^ b < 2 ^ 8 := Nat.xor_lt_two_pow ha hb
  have e1 : (BitVec.ofInt 8 (a : Int)).toNat = a := by rw [BitVec.ofInt_natCast, BitVec.toNat_ofNat]; exact Nat.mod_eq_of_lt (by omega)
  have e2 : (BitVec.ofInt 8 (b : Int)).toNat = b := by rw [BitVec.ofInt_natCast, BitVec.toNat_ofNat]; exact Nat.mod_eq_of_lt (by omega)
  show IntKind.u8.wrap ((BitVec.ofInt 8 (a : Int) ^^^ BitVec.ofInt 8 (b : Int)).toNat : Int) = _
  rw [BitVec.toNat_xor, e1, e2, IntWalk.u8_in]
  omega
theorem set_small {l : List Nat} (h : ∀ x ∈ l, x < 256) (p x : Nat) (hx : x < 256) : ∀ y ∈ l.set p x, y < 256 := fun y hy => by
  rcases List.mem_or_eq_of_mem_set hy with h1 | h1
  · exact h y h1
  · rw [h1]; exact hx
set_option maxRecDepth 100000 in
set_option maxHeartbeats 8000000 in
theorem forged_core (key : List Nat) (f : F) (at_ turn : Nat) (ka : Option Addr) (kc : Nat) (ba : Option Addr) (bc : Nat) (w : World) (hg : Handle w) (hk : Byts w ka kc key) (hf : Byts w ba bc f.b) (hat : at_ < 65536) (ht : turn < 256) :
    Calls Tryd.prog 5 #[.slice ka key.length kc, .agg #[.int .i64 f.d, .int .i64 f.q, .slice ba f.b.length bc], .int .u16 (at_ : Int), .int .u8 (turn : Int)] w fun e w' => e = .returned (.bool true) ∧ Below w.heap.size w w' := by
  have HAW := Lib.hid fun W (hb : Below w.heap.size w W) => awake_any W (hand_of hg hb)
  have HCO := Lib.hid fun W n (hb : Below w.heap.size w W) => code_errn n W (hand_of hg hb)
  have HB := Lib.hid (al_any w (.cells #[.int .i64 f.d, .int .i64 f.q, .slice ba f.b.length bc] 24))
  have HX := Lib.hid (heap_alloc_new w (.cells #[.int .i64 f.d, .int .i64 f.q, .slice ba f.b.length bc] 24))
  have HK := Lib.hid hk
  have HF := Lib.hid hf
  have HAT := Lib.hid hat
  have HT := Lib.hid ht
  have HWF := Lib.hid fun W => rwrong_any f ba bc W
  clear hg hk hf hat ht
  go_enter Tryd.func5, Tryd.ntmps5
  go_upto_region 1 with (fail)
  generalize w.alloc _ = w1 at *
  go_wp2_with fail
  with_reducible refine (HAW.out _ HB.out).mono ?_
  rintro e w2 ⟨rfl, hb⟩
  have X2 := Lib.hid (blk HX.out hb)
  have K2 := kept_hid HB hb
  clear hb HB HX
  obtain ⟨c0, c1, c2⟩ := cells3 X2.out
  by_cases hk : 200 < key.length
  · have hk' : decide ((200 : Int) < (key.length : Int)) = true := by simp; omega
    clear hk
    go_wp2_with fail
    with_reducible refine (HAW.out _ K2.out).mono ?_
    rintro e wq ⟨rfl, hb⟩
    have KE := kept_hid K2 hb
    clear hb
    go_wp2_with fail
    go_ret
    exact ⟨rfl, KE.out⟩
  have hk' : decide ((200 : Int) < (key.length : Int)) = false := by simp; omega
  have HKL := Lib.hid (show key.length ≤ 200 by omega)
  clear hk
  by_cases hl : 486 < f.b.length
  · have hl' : decide ((486 : Int) < (f.b.length : Int)) = true := by simp; omega
    clear hl
    go_wp2_with fail
    with_reducible refine (HAW.out _ K2.out).mono ?_
    rintro e wq ⟨rfl, hb⟩
    have KE := kept_hid K2 hb
    clear hb
    go_wp2_with fail
    go_ret
    exact ⟨rfl, KE.out⟩
  have hl' : decide ((486 : Int) < (f.b.length : Int)) = false := by simp; omega
  have HBL := Lib.hid (show f.b.length ≤ 486 by omega)
  clear hl
  rcases wrong_cases f with hwf | hwf | hwf
  rotate_left
  · rw [hwf] at HWF
    clear hwf
    go_wp2_with fail
    with_reducible refine (HWF.out _).mono ?_
    rintro e w3 ⟨rfl, hb⟩
    have K3 := kept_hid K2 hb
    clear hb HWF c0 c1 c2
    go_wp2_with fail
    with_reducible refine (HAW.out _ K3.out).mono ?_
    rintro e wq ⟨rfl, hb⟩
    have KE := kept_hid K3 hb
    clear hb
    go_wp2_with fail
    go_ret
    exact ⟨rfl, KE.out⟩
  · rw [hwf] at HWF
    clear hwf
    go_wp2_with fail
    with_reducible refine (HWF.out _).mono ?_
    rintro e w3 ⟨rfl, hb⟩
    have K3 := kept_hid K2 hb
    clear hb HWF c0 c1 c2
    go_wp2_with fail
    with_reducible refine (HAW.out _ K3.out).mono ?_
    rintro e wq ⟨rfl, hb⟩
    have KE := kept_hid K3 hb
    clear hb
    go_wp2_with fail
    go_ret
    exact ⟨rfl, KE.out⟩
  rw [hwf] at HWF
  have HW1 := Lib.hid hwf
  clear hwf
  go_wp2_with fail
  with_reducible refine (HWF.out _).mono ?_
  rintro e w3 ⟨rfl, hb⟩
  have X3 := Lib.hid (blk X2.out hb)
  have K3 := kept_hid K2 hb
  clear hb X2 K2 c0 c1 c2 hk' hl' HWF HAW
  have HSL := Lib.hid (seal_len key f)
  have H8 := Lib.hid (seal_small key (wrong_ok HW1.out).1 HF.out.small)
  have HDD := Lib.hid (wrong_ok HW1.out).1
  have HO1 := Lib.hid (open_seal key HW1.out)
  have QS := Lib.hid (rseal_any f key ka key.length kc ba bc w3 HKL.out rfl HK.out.small (HK.out.below K3.out).at_ HK.out.nil (HF.out.below K3.out).at_ HF.out.small HF.out.nil HW1.out)
  generalize seal_ key f = sl at *
  obtain ⟨c0, c1, c2⟩ := cells3 X3.out
  go_wp2_with fail
  with_reducible refine QS.out.mono ?_
  rintro e wc ⟨v1, k1, rfl, ho, hb⟩
  have L4 := Lib.hid (show w.heap.size < w3.heap.size from there_lt X3.out)
  clear c0 c1 c2
  go_upto_region 4 with (fail)
  have HPL := Lib.hid (show at_ % sl.length < sl.length from Nat.mod_lt _ (by have := HSL.out; omega))
  have hra : (at_ : Int).tmod (sl.length : Int) = ((at_ % sl.length : Nat) : Int) := by rw [Int.tmod_eq_emod_of_nonneg (by omega)]; rfl
  generalize at_ % sl.length = p at *
  have hra3 : (wrap64 (at_ : Int)).tmod (sl.length : Int) = (p : Int) := by rw [show wrap64 (at_ : Int) = (at_ : Int) from by have := HAT.out; rw [IntWalk.wrap64_in] <;> omega]; exact hra
  have hra2 : (IntKind.i64.wrap (at_ : Int)).tmod (sl.length : Int) = (p : Int) := by rw [show IntKind.i64.wrap (at_ : Int) = (at_ : Int) from by have := HAT.out; rw [IntWalk.i64_in] <;> omega]; exact hra
  have hn1 : ¬ sl.length = 0 := by have := HSL.out; omega
  have hn2 : ¬ sl = [] := fun e => hn1 (by rw [e]; rfl)
  have hn3 : ((sl.length : Int) == 0) = false := by simp [hn2]
  have hp0 : (0 : Int) ≤ (p : Int) := by omega
  have hp1 : (p : Int) < (sl.length : Int) := by have := HPL.out; omega
  have hpw : wrap64 (p : Int) = (p : Int) := by have := HSL.out; have := HBL.out; rw [IntWalk.wrap64_in] <;> omega
  have hpv : IntKind.i64.wrap (p : Int) = (p : Int) := by have := HSL.out; have := HBL.out; rw [IntWalk.i64_in] <;> omega
  obtain ⟨g, x0, rfl, hgl, cp, fp⟩ := own_at3 ho HPL.out
  have HZ := Lib.hid (byte_lt H8.out (by decide) p)
  have e9 := u8_xor (sl.getD p 0) turn HZ.out HT.out
  have HP0 := Lib.hid (show turn = 0 → sl.set p (sl.getD p 0 ^^^ turn) = sl from fun h => by
    rw [h, Nat.xor_zero, List.getD_eq_getElem?_getD, List.getElem?_eq_getElem HPL.out]
    exact List.set_getElem_self _)
  have HLS := Lib.hid (show (sl.set p (sl.getD p 0 ^^^ turn)).length = sl.length from List.length_set)
  have H85 := Lib.hid (set_small H8.out p (sl.getD p 0 ^^^ turn) (Nat.xor_lt_two_pow (n := 8) HZ.out HT.out))
  generalize hzz : sl.getD p 0 = z at *
  replace hzz := Lib.hid hzz
  go_still_tail 17, (by kernel_rfl)
  change wpList _ _ _ _ _ wc.drew
  have HD := (Below.refl wc.heap.size wc).drew
  have S4 := Lib.hid (own_below ho HD)
  have X4 := Lib.hid (blk X3.out (kept_trans hb HD))
  have K4 := kept_hid K3 (kept_trans hb HD)
  clear ho hb QS X3 HD cp fp hgl
  generalize wc.drew = w4 at *
  obtain ⟨g2, x2, e2, hgl, cp, fp⟩ := own_at3 S4.out HPL.out
  rw [hzz.out] at cp
  injection e2 with e2
  injection e2 with e2
  subst e2
  have HGE := Lib.hid ((own_blocks S4.out _ rfl).1)
  have S5 := Lib.hid (own_put (i := p) (v := z ^^^ turn) S4.out)
  have G5 := gsetCell w4 g p (.int .u8 ((z ^^^ turn : Nat) : Int))
  have X5 := Lib.hid (blk_g X4.out G5 (by intro e; injection e with e; have := HGE.out; have := L4.out; simp only at *; omega))
  have K5 := Lib.hid (K4.out.grown G5 K4.out.size (fun b hb => by injection hb with hb; have := HGE.out; have := K3.out.size; simp only at *; omega))
  clear G5 hra S4 X4 K4
  generalize sl.set p (z ^^^ turn) = tl at *
  go_upto_region 5 with (fail)
  generalize w4.setCell _ _ = w5 at *
  clear hn1 hn2 hn3 hp0 hp1 hpw hpv hra2 hra3 cp fp e9 hgl
  have HTL := Lib.hid (show tl.length < 1000000 by have := HLS.out; have := HSL.out; have := HBL.out; omega)
  have B5 := Lib.hid (byts_own (xs := tl) (by rw [HLS.out]; exact S5.out) H85.out)
  have HDW := Lib.hid (show IntKind.i64.wrap f.d = f.d by rcases HDD.out with h | h <;> rw [h] <;> rfl)
  have Q1 := Lib.hid (fopen_any key tl f.d ka kc (some ⟨g, 0, none⟩) k1 w5 (HK.out.below K5.out) B5.out (by have := HKL.out; omega) HTL.out HDW.out)
  have Q2 := Lib.hid fun W (hb : Below w5.heap.size w5 W) => ropen_any key tl f.d ka kc (some ⟨g, 0, none⟩) k1 W (HK.out.below (kept_trans K5.out hb)) (B5.out.below hb) HKL.out HDW.out
  have HC0 := Lib.hid (show turn = 0 → (open_ key f.d tl).2 = 0 from fun h => by rw [HP0.out h, HO1.out])
  have HOB := Lib.hid (open_small (k := key) (dir := f.d) H85.out)
  have HOL := Lib.hid (Nat.lt_of_le_of_lt (open_len key tl f.d) HTL.out)
  rw [HLS.out] at Q1 Q2
  generalize open_ key f.d tl = R at *
  obtain ⟨u, code⟩ := R
  simp only [GaveF, ShownF] at Q1 Q2 HC0 HOB HOL
  clear HP0 HO1 hzz H85 H8 S5 B5
  obtain ⟨c0, c1, c2⟩ := cells3 X5.out
  go_wp2_with fail
  with_reducible refine Q1.out.mono ?_
  rintro e w6 ⟨v2, k2, rfl, ho, hb⟩
  have HA := al_any w6 (.cells #[.int .i64 u.d, .int .i64 u.q, .slice v2 u.b.length k2] 24)
  have Y7 := Lib.hid (heap_alloc_new w6 (.cells #[.int .i64 u.d, .int .i64 u.q, .slice v2 u.b.length k2] 24))
  have O7 := Lib.hid (own_below ho HA)
  have X7 := Lib.hid (blk X5.out (kept_trans hb HA))
  have K57 := Lib.hid (kept_trans hb HA)
  clear HA ho hb Q1 X5 c0 c1 c2
  go_upto_region 6 with (fail)
  generalize w6.heap.size = N6 at *
  generalize w6.alloc _ = w7 at *
  obtain ⟨c0, c1, c2⟩ := cells3 X7.out
  go_wp2_with fail
  with_reducible refine (Q2.out w7 K57.out).mono ?_
  rintro e w8 ⟨v3, k3, rfl, hB, hb⟩
  have HA := al_any w8 (.cells #[.int .i64 u.d, .int .i64 u.q, .slice v3 u.b.length k3] 24)
  have Z9 := Lib.hid (heap_alloc_new w8 (.cells #[.int .i64 u.d, .int .i64 u.q, .slice v3 u.b.length k3] 24))
  have O9 := Lib.hid (own_below O7.out (kept_trans hb HA))
  have Y9 := Lib.hid (blk Y7.out (kept_trans hb HA))
  have B9 := Lib.hid (hB.below HA)
  have K9 := kept_hid (kept_hid K5 K57.out) (kept_trans hb HA)
  clear HA hB hb Q2 X7 K57 K5 c0 c1 c2 Y7 O7
  go_upto_region 7 with (fail)
  generalize w8.heap.size = N8 at *
  generalize w8.alloc _ = w9 at *
  have QS := Lib.hid (rsame_any u u v2 u.b.length k2 v3 u.b.length k3 w9 (own_bytes O9.out) B9.out.at_ HOB.out HOB.out HOL.out)
  rw [same_self] at QS
  obtain ⟨c0, c1, c2⟩ := cells3 Y9.out
  obtain ⟨d0, d1, d2⟩ := cells3 Z9.out
  go_wp2_with fail
  with_reducible refine QS.out.mono ?_
  rintro e wa ⟨rfl, hb⟩
  have KA := kept_hid K9 hb
  clear hb QS c0 c1 c2 d0 d1 d2 Y9 Z9 O9 B9 K9
  have HC := Lib.hid (HCO.out wa code KA.out)
  go_wp2_with fail
  with_reducible refine HC.out.mono ?_
  rintro e wb ⟨rfl, hb⟩
  have KB := kept_hid KA hb
  clear hb HC
  by_cases h0 : turn = 0
  · obtain rfl : code = 0 := HC0.out h0
    subst h0
    simp only [errn_0]
    go_wp2_with fail
    go_ret
    exact ⟨rfl, KB.out⟩
  · have h0' : ¬ (turn : Int) = 0 := by omega
    have h0'' : ((turn : Int) != 0) = true := by simp [bne, h0]
    go_wp2_with fail
    go_ret
    exact ⟨rfl, KB.out⟩
end Frm
end Go.Proofs.YtdiidfkmmgcjmaaDoor
