/- The law FrameBack. Written by tools/gen_frm_laws.py. -/
import Derived.Test.YtdiidfkmmgcjmaaDoorFrmAwake
import Derived.Test.YtdiidfkmmgcjmaaDoorFrmSam
import Derived.Test.YtdiidfkmmgcjmaaDoorBunBase
import Derived.Deep.Cut
import Derived.Deep.LoopGhost
import Derived.Deep.RegionLaw
import Derived.Deep.RegionHeld3
import Derived.IntWalk
import Derived.Lib.SlBytesConst
import Derived.Lib.SmallJoins
namespace Go.Proofs.YtdiidfkmmgcjmaaDoor
open Go.RowKit Sha Six Apd Cut Err
set_option linter.unusedVariables false
set_option linter.unusedSimpArgs false
namespace Frm
set_option maxRecDepth 100000 in
set_option maxHeartbeats 8000000 in
theorem back_core (key b : List Nat) (f : F) (dir : Int) (ka : Option Addr) (kc : Nat) (ba : Option Addr) (bc : Nat) (ca : Option Addr) (cc : Nat) (w : World) (hg : Handle w) (hk : Byts w ka kc key) (hf : Byts w ba bc f.b) (hbb : Byts w ca cc b) (hd : IntKind.i64.wrap dir = dir) :
    Calls Tryd.prog 4 #[.slice ka key.length kc, .agg #[.int .i64 f.d, .int .i64 f.q, .slice ba f.b.length bc], .slice ca b.length cc, .int .i64 dir] w fun e w' => e = .returned (.bool true) ∧ Below w.heap.size w w' := by
  have HAW := Lib.hid fun W (hb : Below w.heap.size w W) => awake_any W (hand_of hg hb)
  have HCO := Lib.hid fun W n (hb : Below w.heap.size w W) => code_errn n W (hand_of hg hb)
  have HB := Lib.hid (al_any w (.cells #[.int .i64 f.d, .int .i64 f.q, .slice ba f.b.length bc] 24))
  have HX := Lib.hid (heap_alloc_new w (.cells #[.int .i64 f.d, .int .i64 f.q, .slice ba f.b.length bc] 24))
  have HK := Lib.hid hk
  have HF := Lib.hid hf
  have HBB := Lib.hid hbb
  have HD := Lib.hid hd
  clear hg hk hf hbb hd
  go_enter Tryd.func4, Tryd.ntmps4
  go_upto_region 1 with (fail)
  generalize w.alloc _ = w1 at *
  go_wp2_with fail
  with_reducible refine (HAW.out _ HB.out).mono ?_
  rintro e w2 ⟨rfl, hb⟩
  have X2 := Lib.hid (blk HX.out hb)
  have K2 := kept_hid HB hb
  clear hb HB HX
  obtain ⟨c0, c1, c2⟩ := cells3 X2.out
  by_cases hk : 200 < key.length
  · have hk' : decide ((200 : Int) < (key.length : Int)) = true := by simp; omega
    clear hk
    go_wp2_with fail
    with_reducible refine (HAW.out _ K2.out).mono ?_
    rintro e wq ⟨rfl, hb⟩
    have KE := kept_hid K2 hb
    clear hb
    go_wp2_with fail
    go_ret
    exact ⟨rfl, KE.out⟩
  · have hk' : decide ((200 : Int) < (key.length : Int)) = false := by simp; omega
    have HKL := Lib.hid (show key.length < 1000000 by omega)
    clear hk
    by_cases hl : 1000 < f.b.length
    · have hl' : decide ((1000 : Int) < (f.b.length : Int)) = true := by simp; omega
      clear hl
      go_wp2_with fail
      with_reducible refine (HAW.out _ K2.out).mono ?_
      rintro e wq ⟨rfl, hb⟩
      have KE := kept_hid K2 hb
      clear hb
      go_wp2_with fail
      go_ret
      exact ⟨rfl, KE.out⟩
    · have hl' : decide ((1000 : Int) < (f.b.length : Int)) = false := by simp; omega
      have HBL := Lib.hid (show f.b.length < 1000000 by omega)
      clear hl
      by_cases hm : 1000 < b.length
      · have hm' : decide ((1000 : Int) < (b.length : Int)) = true := by simp; omega
        clear hm
        go_wp2_with fail
        with_reducible refine (HAW.out _ K2.out).mono ?_
        rintro e wq ⟨rfl, hb⟩
        have KE := kept_hid K2 hb
        clear hb
        go_wp2_with fail
        go_ret
        exact ⟨rfl, KE.out⟩
      · have hm' : decide ((1000 : Int) < (b.length : Int)) = false := by simp; omega
        have HML := Lib.hid (show b.length < 1000000 by omega)
        clear hm HAW
        have Q1 := Lib.hid fun W (hb : Below w.heap.size w W) => fseal_any key f ka kc ba bc W (HK.out.below hb) (HF.out.below hb) HKL.out HBL.out
        rcases wrong_cases f with hwf | hwf | hwf
        · rw [hwf] at Q1
          have HW1 := Lib.hid hwf
          have e1 : sealB key f = seal_ key f := by unfold sealB; rw [if_pos hwf]
          rw [e1] at Q1
          simp only [GaveS, errn_0] at Q1
          have H8 := Lib.hid (seal_small key (wrong_ok hwf).1 HF.out.small)
          have HSL := Lib.hid (seal_len key f)
          have HDD := Lib.hid (wrong_ok hwf).1
          have HO1 := Lib.hid (open_seal key hwf)
          have HO2 := Lib.hid (open_other key hwf)
          generalize seal_ key f = sl at *
          clear hwf e1
          go_wp2_with fail
          with_reducible refine (Q1.out _ K2.out).mono ?_
          rintro e w3 ⟨v1, k1, rfl, ho, hb⟩
          have S3 := Lib.hid (byts_own ho H8.out)
          have X3 := Lib.hid (blk X2.out hb)
          have K3 := kept_hid K2 hb
          clear hb ho K2 X2 c0 c1 c2 Q1 hk' hl' hm'
          have hlx : sl.length < 1000000 := by have := HSL.out; have := HBL.out; have := (wrong_ok HW1.out).2.2.2; omega
          have HLX := Lib.hid hlx
          clear hlx
          have Q2 := Lib.hid (fopen_any key sl f.d ka kc v1 k1 w3 (HK.out.below K3.out) S3.out HKL.out HLX.out (by rcases HDD.out with h | h <;> rw [h] <;> rfl))
          rw [HO1.out] at Q2
          simp only [GaveF, errn_0] at Q2
          obtain ⟨c0, c1, c2⟩ := cells3 X3.out
          go_wp2_with fail
          with_reducible refine Q2.out.mono ?_
          rintro e w4 ⟨v2, k2, rfl, ho, hb⟩
          have HA := al_any w4 (.cells #[.int .i64 f.d, .int .i64 f.q, .slice v2 f.b.length k2] 24)
          have Y5 := Lib.hid (heap_alloc_new w4 (.cells #[.int .i64 f.d, .int .i64 f.q, .slice v2 f.b.length k2] 24))
          have O5 := Lib.hid (own_below ho HA)
          have S5 := Lib.hid (S3.out.below (kept_trans hb HA))
          have X5 := Lib.hid (blk X3.out (kept_trans hb HA))
          have K5 := kept_hid K3 (kept_trans hb HA)
          clear HA ho hb Q2 S3 X3 K3 c0 c1 c2
          go_upto_region 6 with (fail)
          generalize w4.heap.size = N4 at *
          generalize w4.alloc _ = w5 at *
          have Q3 := Lib.hid (fopen_any key sl (1 - f.d) ka kc v1 k1 w5 (HK.out.below K5.out) S5.out HKL.out HLX.out (by rcases HDD.out with h | h <;> rw [h] <;> rfl))
          rw [HO2.out] at Q3
          simp only [GaveF, none_, show errn 13 = .iface 45 (.int .i64 13) from rfl, List.length_nil] at Q3
          have ewd : wrap64 (1 - f.d) = 1 - f.d := by rw [IntWalk.wrap64_in] <;> (rcases HDD.out with h | h <;> omega)
          obtain ⟨c0, c1, c2⟩ := cells3 X5.out
          go_wp2_with fail
          with_reducible refine Q3.out.mono ?_
          rintro e w6 ⟨v3, k3, rfl, ho3, hb⟩
          have HA := al_any w6 (.cells #[.int .i64 0, .int .i64 0, .slice v3 0 k3] 24)
          have O7 := Lib.hid (own_below O5.out (kept_trans hb HA))
          have Y7 := Lib.hid (blk Y5.out (kept_trans hb HA))
          have X7 := Lib.hid (blk X5.out (kept_trans hb HA))
          have K7 := kept_hid K5 (kept_trans hb HA)
          clear HA ho3 hb Q3 S5 X5 K5 Y5 O5 c0 c1 c2 ewd
          go_upto_region 7 with (fail)
          generalize w6.alloc _ = w7 at *
          have QS := Lib.hid (rsame_any f f v2 f.b.length k2 ba f.b.length bc w7 (own_bytes O7.out) (HF.out.below K7.out).at_ HF.out.small HF.out.small HBL.out)
          rw [same_self] at QS
          obtain ⟨c0, c1, c2⟩ := cells3 X7.out
          obtain ⟨d0, d1, d2⟩ := cells3 Y7.out
          have hsl : (sl.length : Int) = (f.b.length : Int) + 26 := by have := HSL.out; omega
          have ew26 : wrap64 ((f.b.length : Int) + 26) = (f.b.length : Int) + 26 := by have := HBL.out; rw [IntWalk.wrap64_in] <;> omega
          go_wp2_with fail
          with_reducible refine QS.out.mono ?_
          rintro e w8 ⟨rfl, hb⟩
          have X8 := Lib.hid (blk X7.out hb)
          have K8 := kept_hid K7 hb
          clear hb X7 Y7 K7 O7 QS c0 c1 c2 d0 d1 d2
          have HC13 := Lib.hid (HCO.out w8 13 K8.out)
          simp only [show errn 13 = .iface 45 (.int .i64 13) from rfl] at HC13
          go_wp2_with fail
          with_reducible refine HC13.out.mono ?_
          rintro e w9 ⟨rfl, hb⟩
          have X9 := Lib.hid (blk X8.out hb)
          have K9 := kept_hid K8 hb
          clear hb X8 K8 HC13
          obtain ⟨c0, c1, c2⟩ := cells3 X9.out
          go_upto_region 9 with (fail)
          clear c0 c1 c2 hsl ew26
          have QO := Lib.hid (fopen_any key b dir ka kc ca cc w9 (HK.out.below K9.out) (HBB.out.below K9.out) HKL.out HML.out HD.out)
          have HON := Lib.hid (open_none (k := key) (b := b) (dir := dir))
          have HOS := Lib.hid fun g (h : open_ key dir b = (g, 0)) => seal_open HBB.out.small h
          have HOB := Lib.hid (open_small (k := key) (dir := dir) HBB.out.small)
          have HOL := Lib.hid (Nat.lt_of_le_of_lt (open_len key b dir) HML.out)
          generalize open_ key dir b = R at *
          obtain ⟨g, code⟩ := R
          simp only [GaveF] at QO HON HOB HOL
          go_wp2_with fail
          with_reducible refine QO.out.mono ?_
          rintro e wx ⟨v5, k5, rfl, ho, hb⟩
          have HA := al_any wx (.cells #[.int .i64 g.d, .int .i64 g.q, .slice v5 g.b.length k5] 24)
          have Z := Lib.hid (heap_alloc_new wx (.cells #[.int .i64 g.d, .int .i64 g.q, .slice v5 g.b.length k5] 24))
          have OZ := Lib.hid (own_below ho HA)
          have KZ := kept_hid K9 (kept_trans hb HA)
          clear HA ho hb QO
          go_upto_region 10 with (fail)
          generalize wx.heap.size = NZ at *
          generalize wx.alloc _ = wy at *
          by_cases hc : code = 0
          · subst hc
            obtain ⟨hw, hse, hsm, hgd⟩ := HOS.out g rfl
            have HW := Lib.hid hw
            have e1 : sealB key g = b := by unfold sealB; rw [if_pos hw, hse]
            have QS := Lib.hid (fseal_any key g ka kc v5 k5 wy (HK.out.below KZ.out) (byts_own OZ.out HOB.out) HKL.out HOL.out)
            rw [e1, HW.out] at QS
            simp only [GaveS, errn_0] at QS
            simp only [errn_0]
            clear hw hse hsm hgd e1 HON HOS
            obtain ⟨z0, z1, z2⟩ := cells3 Z.out
            go_wp2_with fail
            with_reducible refine QS.out.mono ?_
            rintro e wu ⟨v6, k6, rfl, ho, hb⟩
            have KU := kept_hid KZ hb
            have QE := Lib.hid (Sam.same_any _ _ b wu (own_bytes ho) (HBB.out.below KU.out).at_ HBB.out.small HML.out)
            clear hb ho z0 z1 z2
            go_wp2_with fail
            with_reducible refine QE.out.mono ?_
            rintro e wv ⟨rfl, jj, rfl⟩
            go_wp2_with fail
            go_ret
            exact ⟨rfl, kept_trans KU.out (Six.below_drewN _ _ _)⟩
          · obtain rfl := HON.out hc
            have hee : errn code = .iface 45 (.int .i64 (code : Int)) := by unfold errn; rw [if_neg hc]
            rw [hee]
            have QE := Lib.hid (rsame_any none_ none_ v5 0 k5 none 0 0 wy (own_bytes OZ.out) ⟨none, 0, rfl, Nat.le_refl _, .inl rfl⟩ nofun nofun (by decide))
            rw [same_self] at QE
            clear hc hee HON HOS
            simp only [none_] at *
            obtain ⟨z0, z1, z2⟩ := cells3 Z.out
            go_wp2_with fail
            refine QE.out.mono ?_
            rintro e wv ⟨rfl, hb⟩
            have KV := kept_hid KZ hb
            clear hb
            go_wp2_with fail
            go_ret
            exact ⟨rfl, KV.out⟩
        · rw [hwf] at Q1
          have e1 : sealB key f = [] := by unfold sealB; rw [if_neg (by rw [hwf]; decide)]
          rw [e1] at Q1
          simp only [GaveS, show errn 1 = .iface 45 (.int .i64 1) from rfl] at Q1
          clear hwf e1
          go_wp2_with fail
          with_reducible refine (Q1.out _ K2.out).mono ?_
          rintro e w3 ⟨v1, k1, rfl, ho, hb⟩
          have K3 := kept_hid K2 hb
          clear hb ho K2 X2 c0 c1 c2 Q1 hk' hl' hm'
          have QO := Lib.hid (fopen_any key b dir ka kc ca cc w3 (HK.out.below K3.out) (HBB.out.below K3.out) HKL.out HML.out HD.out)
          have HON := Lib.hid (open_none (k := key) (b := b) (dir := dir))
          have HOS := Lib.hid fun g (h : open_ key dir b = (g, 0)) => seal_open HBB.out.small h
          have HOB := Lib.hid (open_small (k := key) (dir := dir) HBB.out.small)
          have HOL := Lib.hid (Nat.lt_of_le_of_lt (open_len key b dir) HML.out)
          generalize open_ key dir b = R at *
          obtain ⟨g, code⟩ := R
          simp only [GaveF] at QO HON HOB HOL
          go_wp2_with fail
          with_reducible refine QO.out.mono ?_
          rintro e wx ⟨v5, k5, rfl, ho, hb⟩
          have HA := al_any wx (.cells #[.int .i64 g.d, .int .i64 g.q, .slice v5 g.b.length k5] 24)
          have Z := Lib.hid (heap_alloc_new wx (.cells #[.int .i64 g.d, .int .i64 g.q, .slice v5 g.b.length k5] 24))
          have OZ := Lib.hid (own_below ho HA)
          have KZ := kept_hid K3 (kept_trans hb HA)
          clear HA ho hb QO
          go_upto_region 10 with (fail)
          generalize wx.heap.size = NZ at *
          generalize wx.alloc _ = wy at *
          by_cases hc : code = 0
          · subst hc
            obtain ⟨hw, hse, hsm, hgd⟩ := HOS.out g rfl
            have HW := Lib.hid hw
            have e1 : sealB key g = b := by unfold sealB; rw [if_pos hw, hse]
            have QS := Lib.hid (fseal_any key g ka kc v5 k5 wy (HK.out.below KZ.out) (byts_own OZ.out HOB.out) HKL.out HOL.out)
            rw [e1, HW.out] at QS
            simp only [GaveS, errn_0] at QS
            simp only [errn_0]
            clear hw hse hsm hgd e1 HON HOS
            obtain ⟨z0, z1, z2⟩ := cells3 Z.out
            go_wp2_with fail
            with_reducible refine QS.out.mono ?_
            rintro e wu ⟨v6, k6, rfl, ho, hb⟩
            have KU := kept_hid KZ hb
            have QE := Lib.hid (Sam.same_any _ _ b wu (own_bytes ho) (HBB.out.below KU.out).at_ HBB.out.small HML.out)
            clear hb ho z0 z1 z2
            go_wp2_with fail
            with_reducible refine QE.out.mono ?_
            rintro e wv ⟨rfl, jj, rfl⟩
            go_wp2_with fail
            go_ret
            exact ⟨rfl, kept_trans KU.out (Six.below_drewN _ _ _)⟩
          · obtain rfl := HON.out hc
            have hee : errn code = .iface 45 (.int .i64 (code : Int)) := by unfold errn; rw [if_neg hc]
            rw [hee]
            have QE := Lib.hid (rsame_any none_ none_ v5 0 k5 none 0 0 wy (own_bytes OZ.out) ⟨none, 0, rfl, Nat.le_refl _, .inl rfl⟩ nofun nofun (by decide))
            rw [same_self] at QE
            clear hc hee HON HOS
            simp only [none_] at *
            obtain ⟨z0, z1, z2⟩ := cells3 Z.out
            go_wp2_with fail
            refine QE.out.mono ?_
            rintro e wv ⟨rfl, hb⟩
            have KV := kept_hid KZ hb
            clear hb
            go_wp2_with fail
            go_ret
            exact ⟨rfl, KV.out⟩
        · rw [hwf] at Q1
          have e1 : sealB key f = [] := by unfold sealB; rw [if_neg (by rw [hwf]; decide)]
          rw [e1] at Q1
          simp only [GaveS, show errn 6 = .iface 45 (.int .i64 6) from rfl] at Q1
          clear hwf e1
          go_wp2_with fail
          with_reducible refine (Q1.out _ K2.out).mono ?_
          rintro e w3 ⟨v1, k1, rfl, ho, hb⟩
          have K3 := kept_hid K2 hb
          clear hb ho K2 X2 c0 c1 c2 Q1 hk' hl' hm'
          have QO := Lib.hid (fopen_any key b dir ka kc ca cc w3 (HK.out.below K3.out) (HBB.out.below K3.out) HKL.out HML.out HD.out)
          have HON := Lib.hid (open_none (k := key) (b := b) (dir := dir))
          have HOS := Lib.hid fun g (h : open_ key dir b = (g, 0)) => seal_open HBB.out.small h
          have HOB := Lib.hid (open_small (k := key) (dir := dir) HBB.out.small)
          have HOL := Lib.hid (Nat.lt_of_le_of_lt (open_len key b dir) HML.out)
          generalize open_ key dir b = R at *
          obtain ⟨g, code⟩ := R
          simp only [GaveF] at QO HON HOB HOL
          go_wp2_with fail
          with_reducible refine QO.out.mono ?_
          rintro e wx ⟨v5, k5, rfl, ho, hb⟩
          have HA := al_any wx (.cells #[.int .i64 g.d, .int .i64 g.q, .slice v5 g.b.length k5] 24)
          have Z := Lib.hid (heap_alloc_new wx (.cells #[.int .i64 g.d, .int .i64 g.q, .slice v5 g.b.length k5] 24))
          have OZ := Lib.hid (own_below ho HA)
          have KZ := kept_hid K3 (kept_trans hb HA)
          clear HA ho hb QO
          go_upto_region 10 with (fail)
          generalize wx.heap.size = NZ at *
          generalize wx.alloc _ = wy at *
          by_cases hc : code = 0
          · subst hc
            obtain ⟨hw, hse, hsm, hgd⟩ := HOS.out g rfl
            have HW := Lib.hid hw
            have e1 : sealB key g = b := by unfold sealB; rw [if_pos hw, hse]
            have QS := Lib.hid (fseal_any key g ka kc v5 k5 wy (HK.out.below KZ.out) (byts_own OZ.out HOB.out) HKL.out HOL.out)
            rw [e1, HW.out] at QS
            simp only [GaveS, errn_0] at QS
            simp only [errn_0]
            clear hw hse hsm hgd e1 HON HOS
            obtain ⟨z0, z1, z2⟩ := cells3 Z.out
            go_wp2_with fail
            with_reducible refine QS.out.mono ?_
            rintro e wu ⟨v6, k6, rfl, ho, hb⟩
            have KU := kept_hid KZ hb
            have QE := Lib.hid (Sam.same_any _ _ b wu (own_bytes ho) (HBB.out.below KU.out).at_ HBB.out.small HML.out)
            clear hb ho z0 z1 z2
            go_wp2_with fail
            with_reducible refine QE.out.mono ?_
            rintro e wv ⟨rfl, jj, rfl⟩
            go_wp2_with fail
            go_ret
            exact ⟨rfl, kept_trans KU.out (Six.below_drewN _ _ _)⟩
          · obtain rfl := HON.out hc
            have hee : errn code = .iface 45 (.int .i64 (code : Int)) := by unfold errn; rw [if_neg hc]
            rw [hee]
            have QE := Lib.hid (rsame_any none_ none_ v5 0 k5 none 0 0 wy (own_bytes OZ.out) ⟨none, 0, rfl, Nat.le_refl _, .inl rfl⟩ nofun nofun (by decide))
            rw [same_self] at QE
            clear hc hee HON HOS
            simp only [none_] at *
            obtain ⟨z0, z1, z2⟩ := cells3 Z.out
            go_wp2_with fail
            refine QE.out.mono ?_
            rintro e wv ⟨rfl, hb⟩
            have KV := kept_hid KZ hb
            clear hb
            go_wp2_with fail
            go_ret
            exact ⟨rfl, KV.out⟩
end Frm
end Go.Proofs.YtdiidfkmmgcjmaaDoor
