/- Seal of package frame. Written by tools/gen_frm_code.py. -/
import Derived.Test.YtdiidfkmmgcjmaaDoorFrmLow
import Derived.Test.YtdiidfkmmgcjmaaDoorFrmSeal
import Derived.Test.YtdiidfkmmgcjmaaDoorMacTag
import Derived.Test.YtdiidfkmmgcjmaaDoorShaParts
import Derived.Deep.Cut
import Derived.Deep.LoopGhost
import Derived.Deep.RegionLaw
import Derived.Deep.RegionHeld3
import Derived.IntWalk
import Derived.Lib.SmallJoins
namespace Go.Proofs.YtdiidfkmmgcjmaaDoor
open Go.RowKit Sha Six Apd Cut Err
set_option linter.unusedVariables false
set_option linter.unusedSimpArgs false
namespace Frm
set_option maxRecDepth 100000 in
set_option maxHeartbeats 8000000 in
theorem fseal_dir (k : List Nat) (d q : Int) (b : List Nat) (ka : Option Addr) (kc : Nat) (ba : Option Addr) (bc : Nat) (w : World) (hd : ((d == 0) || (d == 1)) = false) :
    Calls Tryd.prog 9 #[.slice ka k.length kc, .agg #[.int .i64 d, .int .i64 q, .slice ba b.length bc]] w fun e w' => GaveS w w' [] 1 e := by
  have HD := Lib.hid fun W => isDir_any d W
  rw [hd] at HD
  clear hd
  have HB := Lib.hid (al_any w (.cells #[.int .i64 d, .int .i64 q, .slice ba b.length bc] 24))
  have HX := Lib.hid (heap_alloc_new w (.cells #[.int .i64 d, .int .i64 q, .slice ba b.length bc] 24))
  go_enter Tryd.func9, Tryd.ntmps9
  go_upto_region 1 with (fail)
  generalize w.alloc _ = w1 at *
  obtain ⟨c0, c1, c2⟩ := cells3 HX.out
  go_wp2_with fail
  with_reducible refine (HD.out _).mono ?_
  rintro e w2 ⟨rfl, hb⟩
  have K2 := kept_hid HB hb
  have X2 := Lib.hid (blk HX.out hb)
  clear hb HB HX c0 c1 c2 HD
  go_wp2_with fail
  go_ret2
  exact ⟨none, 0, rfl, World.ownsRow_nil _ _ _ _, K2.out⟩
set_option maxRecDepth 100000 in
set_option maxHeartbeats 8000000 in
theorem fseal_seq (k : List Nat) (d q : Int) (b : List Nat) (ka : Option Addr) (kc : Nat) (ba : Option Addr) (bc : Nat) (w : World) (hd : ((d == 0) || (d == 1)) = true) (hq : (decide (1 ≤ q) && decide (q ≤ 4611686018427387904)) = false) :
    Calls Tryd.prog 9 #[.slice ka k.length kc, .agg #[.int .i64 d, .int .i64 q, .slice ba b.length bc]] w fun e w' => GaveS w w' [] 1 e := by
  have HD := Lib.hid fun W => isDir_any d W
  have HQ := Lib.hid fun W => isSeq_any q W
  rw [hd] at HD
  rw [hq] at HQ
  clear hd hq
  have HB := Lib.hid (al_any w (.cells #[.int .i64 d, .int .i64 q, .slice ba b.length bc] 24))
  have HX := Lib.hid (heap_alloc_new w (.cells #[.int .i64 d, .int .i64 q, .slice ba b.length bc] 24))
  go_enter Tryd.func9, Tryd.ntmps9
  go_upto_region 1 with (fail)
  generalize w.alloc _ = w1 at *
  obtain ⟨c0, c1, c2⟩ := cells3 HX.out
  go_wp2_with fail
  with_reducible refine (HD.out _).mono ?_
  rintro e w2 ⟨rfl, hb⟩
  have K2 := kept_hid HB hb
  have X2 := Lib.hid (blk HX.out hb)
  clear hb HB HX c0 c1 c2 HD
  obtain ⟨c0, c1, c2⟩ := cells3 X2.out
  go_wp2_with fail
  with_reducible refine (HQ.out _).mono ?_
  rintro e w3 ⟨rfl, hb⟩
  have K3 := kept_hid K2 hb
  have X3 := Lib.hid (blk X2.out hb)
  clear hb K2 X2 c0 c1 c2 HQ
  go_wp2_with fail
  go_ret2
  exact ⟨none, 0, rfl, World.ownsRow_nil _ _ _ _, K3.out⟩
set_option maxRecDepth 100000 in
set_option maxHeartbeats 8000000 in
theorem fseal_long (k : List Nat) (d q : Int) (b : List Nat) (ka : Option Addr) (kc : Nat) (ba : Option Addr) (bc : Nat) (w : World) (hd : ((d == 0) || (d == 1)) = true) (hq : (decide (1 ≤ q) && decide (q ≤ 4611686018427387904)) = true) (hl : 486 < b.length) :
    Calls Tryd.prog 9 #[.slice ka k.length kc, .agg #[.int .i64 d, .int .i64 q, .slice ba b.length bc]] w fun e w' => GaveS w w' [] 6 e := by
  have HD := Lib.hid fun W => isDir_any d W
  have HQ := Lib.hid fun W => isSeq_any q W
  rw [hd] at HD
  rw [hq] at HQ
  have hl1 : decide ((486 : Int) < (b.length : Int)) = true := by simp; omega
  clear hd hq hl
  have HB := Lib.hid (al_any w (.cells #[.int .i64 d, .int .i64 q, .slice ba b.length bc] 24))
  have HX := Lib.hid (heap_alloc_new w (.cells #[.int .i64 d, .int .i64 q, .slice ba b.length bc] 24))
  go_enter Tryd.func9, Tryd.ntmps9
  go_upto_region 1 with (fail)
  generalize w.alloc _ = w1 at *
  obtain ⟨c0, c1, c2⟩ := cells3 HX.out
  go_wp2_with fail
  with_reducible refine (HD.out _).mono ?_
  rintro e w2 ⟨rfl, hb⟩
  have K2 := kept_hid HB hb
  have X2 := Lib.hid (blk HX.out hb)
  clear hb HB HX c0 c1 c2 HD
  obtain ⟨c0, c1, c2⟩ := cells3 X2.out
  go_wp2_with fail
  with_reducible refine (HQ.out _).mono ?_
  rintro e w3 ⟨rfl, hb⟩
  have K3 := kept_hid K2 hb
  have X3 := Lib.hid (blk X2.out hb)
  clear hb K2 X2 c0 c1 c2 HQ
  obtain ⟨c0, c1, c2⟩ := cells3 X3.out
  go_wp2_with fail
  go_ret2
  exact ⟨none, 0, rfl, World.ownsRow_nil _ _ _ _, K3.out⟩
set_option maxRecDepth 100000 in
set_option maxHeartbeats 8000000 in
theorem fseal_ok (k : List Nat) (d q : Int) (b : List Nat) (ka : Option Addr) (kc : Nat) (ba : Option Addr) (bc : Nat) (w : World) (hkl : k.length < 1000000) (hk : Byts w ka kc k) (hb : Byts w ba bc b) (hw : wrong ⟨d, q, b⟩ = 0) :
    Calls Tryd.prog 9 #[.slice ka k.length kc, .agg #[.int .i64 d, .int .i64 q, .slice ba b.length bc]] w fun e w' => GaveS w w' (seal_ k ⟨d, q, b⟩) 0 e := by
  obtain ⟨hd, hq1, hq2, hbl⟩ := wrong_ok hw
  simp only at hd hq1 hq2 hbl
  have HTX := Lib.hid (show text ⟨d, q, b⟩ = ([1, d.toNat] ++ be8 q.toNat) ++ b from rfl)
  have HT8 := Lib.hid (text_small (f := ⟨d, q, b⟩) hd hb.small)
  have HTL := Lib.hid (text_len ⟨d, q, b⟩)
  have HSE := Lib.hid (show seal_ k ⟨d, q, b⟩ = text ⟨d, q, b⟩ ++ tag k (text ⟨d, q, b⟩) from rfl)
  have HTG := Lib.hid (tag_len k (text ⟨d, q, b⟩))
  have HTU := Lib.hid (show tag k (text ⟨d, q, b⟩) = (Sha.hmac k (text ⟨d, q, b⟩)).take 16 from rfl)
  have HD := Lib.hid fun W => isDir_any d W
  have HQ := Lib.hid fun W => isSeq_any q W
  rw [show ((d == 0) || (d == 1)) = true by rcases hd with rfl | rfl <;> rfl] at HD
  rw [show (decide (1 ≤ q) && decide (q ≤ 4611686018427387904)) = true by simp [hq1, hq2]] at HQ
  generalize seal_ k ⟨d, q, b⟩ = sl at *
  generalize text ⟨d, q, b⟩ = tx at *
  generalize tag k tx = tg at *
  obtain ⟨q, rfl⟩ := Int.eq_ofNat_of_zero_le (show 0 ≤ q by omega)
  obtain ⟨d, rfl⟩ := Int.eq_ofNat_of_zero_le (show 0 ≤ d by omega)
  simp only [Int.toNat_natCast] at HTX
  have HQ9 := Lib.hid (show q < 9223372036854775808 by omega)
  have HKL := Lib.hid hkl
  have HKB := Lib.hid hk
  have HBB := Lib.hid hb
  have HBL := Lib.hid hbl
  have hdw : IntKind.u8.wrap (d : Int) = (d : Int) := by
    rcases hd with h | h <;> (have : d = 0 ∨ d = 1 := by omega) <;> rcases this with rfl | rfl <;> rfl
  have hl1 : decide ((486 : Int) < (b.length : Int)) = false := by simp; omega
  clear hd hq1 hq2 hbl hw hk hkl hb
  have HB := Lib.hid (al_any w (.cells #[.int .i64 (d : Int), .int .i64 (q : Int), .slice ba b.length bc] 24))
  have HX := Lib.hid (heap_alloc_new w (.cells #[.int .i64 (d : Int), .int .i64 (q : Int), .slice ba b.length bc] 24))
  go_enter Tryd.func9, Tryd.ntmps9
  go_upto_region 1 with (fail)
  generalize w.alloc _ = w1 at *
  obtain ⟨c0, c1, c2⟩ := cells3 HX.out
  go_wp2_with fail
  with_reducible refine (HD.out _).mono ?_
  rintro e w2 ⟨rfl, hb⟩
  have K2 := kept_hid HB hb
  have X2 := Lib.hid (blk HX.out hb)
  clear hb HB HX c0 c1 c2 HD
  obtain ⟨c0, c1, c2⟩ := cells3 X2.out
  go_wp2_with fail
  with_reducible refine (HQ.out _).mono ?_
  rintro e w3 ⟨rfl, hb⟩
  have K3 := kept_hid K2 hb
  have X3 := Lib.hid (blk X2.out hb)
  clear hb K2 X2 c0 c1 c2 HQ
  have HZ := Lib.hid (there_lt X3.out)
  obtain ⟨c0, c1, c2⟩ := cells3 X3.out
  go_wp2_with (at_make; refine wpList_mark ?_)
  refine Lib.hid ?_
  obtain ⟨i0, hi, hz0, hz1, hz2⟩ := info_parts info8
  have HC := Lib.hid (show wrap64 ((b.length : Int) + 26) = ((b.length + 26 : Nat) : Int) by have := HBL.out; rw [IntWalk.wrap64_in] <;> omega)
  refine wpList_make_own _ rfl _ _ 22 rfl (w.heap.size + 1) 5 i0 _ 1 Tryd.underlying22 hi hz0 hz1 .i64 .i64 _ (b.length + 26) rfl rfl HC.out ?_ ?_ ?_ ?_
  · rw [hz2]; have := HBL.out; omega
  · have := HBL.out; unfold maxLen; omega
  · exact HZ.out
  intro w4 hown hgr
  have K4 := kept_hid K3 (belowg hgr)
  have X4 := Lib.hid (blk X3.out (belowg hgr))
  have O4 := Lib.hid (show w4.ownsRow (w.heap.size + 1) 5 1 (.slice (some ⟨w3.heap.size, 0, none⟩) 0 (b.length + 26)) 0 (u8s []) from hown)
  have L4 := Lib.hid (show w.heap.size + 1 ≤ w4.heap.size from there_lt X4.out)
  clear hown hgr K3 X3 hi hz0 hz1 hz2 HC c0 c1 c2 hl1
  obtain ⟨c0, c1, c2⟩ := cells3 X4.out
  generalize w3.heap.size = g3 at *
  go_upto_region 6 with (fail)
  go_wp2_with (at_builtin; refine wpList_mark ?_)
  have HA := al_any w4 (.cells #[.int .u8 1, .int .u8 (d : Int)] 5)
  have LT := Lib.hid (show BytesIn (w4.alloc (.cells #[.int .u8 1, .int .u8 (d : Int)] 5)) (.slice (some ⟨w4.heap.size, 0, none⟩) 2 2) [1, d] from lit_in w4 [1, d])
  have OS := Lib.hid (own_below O4.out HA)
  have XS := Lib.hid (blk X4.out HA)
  have KS := kept_hid K4 HA
  have LS := Lib.hid (Nat.le_trans L4.out HA.size)
  have HG := Lib.hid (own_ge OS.out)
  clear HA O4 X4 K4 L4 c0 c1 c2 hdw
  refine Lib.hid ?_
  refine append_own rfl (.tmp 29) (.tmp 33) rfl (w.heap.size + 1) (.slice (some ⟨g3, 0, none⟩) 0 (b.length + 26)) 0 (u8s []) rfl OS.out (some ⟨w4.heap.size, 0, none⟩) 2 2 [1, d] rfl rfl nofun (bytes_src LT.out) (by decide) LS.out ?_
  intro v' w5 hown hgr _
  have O5 := Lib.hid (show w5.ownsRow (w.heap.size + 1) 5 1 v' [1, d].length (u8s [1, d]) from by
    rw [Nat.zero_add] at hown
    exact hown)
  have HBW := (Below.refl (w.heap.size + 1) _).grown hgr LS.out HG.out
  have X5 := Lib.hid (blk_b XS.out (Nat.lt_succ_self _) HBW)
  have K5 := Lib.hid (KS.out.trans (HBW.mono (Nat.le_succ _)))
  have L5 := Lib.hid (Nat.le_trans LS.out HBW.size)
  obtain ⟨v5, k5, rfl⟩ := own_form O5.out
  clear hown hgr HBW OS XS KS LS LT HG
  obtain ⟨c0, c1, c2⟩ := cells3 X5.out
  have HAP := Lib.hid (show Calls Tryd.prog 19 #[.slice v5 2 k5, .int .i64 (q : Int)] w5 _ from appendSeq_any [1, d] q v5 k5 (w.heap.size + 1) w5 HQ9.out O5.out (by simp) L5.out)
  go_wp2_with fail
  with_reducible refine HAP.out.mono ?_
  rintro e w6 ⟨v6, k6, rfl, ho, hb⟩
  have O6 := Lib.hid ho
  have X6 := Lib.hid (blk_b X5.out (Nat.lt_succ_self _) hb)
  have K6 := Lib.hid (K5.out.trans (hb.mono (Nat.le_succ _)))
  have L6 := Lib.hid (Nat.le_trans L5.out hb.size)
  clear ho hb O5 X5 K5 L5 HAP c0 c1 c2
  have HHD := Lib.hid (show ([1, d] ++ be8 q).length = 10 from rfl)
  generalize [1, d] ++ be8 q = hd at *
  obtain ⟨c0, c1, c2⟩ := cells3 X6.out
  have BB := Lib.hid (bytes_below HBB.out.at_ K6.out)
  have HBN := Lib.hid HBB.out.nil
  have HG := Lib.hid (own_ge O6.out)
  go_wp2_with (at_builtin; refine wpList_mark ?_)
  clear c0 c1 c2
  refine Lib.hid ?_
  refine append_own rfl (.tmp 39) (.tmp 41) rfl (w.heap.size + 1) (.slice v6 hd.length k6) hd.length (u8s hd) rfl O6.out ba b.length bc b rfl rfl HBN.out (bytes_src BB.out) (by have := HHD.out; have := HBL.out; omega) L6.out ?_
  intro v' w7 hown hgr _
  have O7 := Lib.hid (show w7.ownsRow (w.heap.size + 1) 5 1 v' tx.length (u8s tx) from by
    rw [HTX.out, List.length_append]
    have e : u8s (hd ++ b) = u8s hd ++ u8s b := by simp [u8s]
    rw [e]
    exact hown)
  have HBW := (Below.refl (w.heap.size + 1) _).grown hgr L6.out HG.out
  have K7 := Lib.hid (K6.out.trans (HBW.mono (Nat.le_succ _)))
  have L7 := Lib.hid (Nat.le_trans L6.out HBW.size)
  obtain ⟨v7, k7, rfl⟩ := own_form O7.out
  clear hown hgr HBW O6 X6 K6 L6 HG BB HBN HTX HHD
  have HP := Lib.hid (one_part (own_bytes O7.out))
  have HA := al_any w7 (.cells #[.slice v7 tx.length k7] 22)
  have O8 := Lib.hid (own_below O7.out HA)
  have K8 := kept_hid K7 HA
  have L8 := Lib.hid (Nat.le_trans L7.out HA.size)
  clear HA O7 K7 L7
  go_wp2_with fail
  generalize w7.heap.size = g7 at *
  generalize w7.alloc _ = w8 at *
  have HT := Lib.hid (tag_any ka k.length kc k _ [tx] w8 (bytes_below HKB.out.at_ K8.out) HKB.out.small HKL.out HP.out (by simpa using HT8.out) (by have := HTL.out; have := HBL.out; simp; omega) (by simp))
  rw [show [tx].flatten = tx by simp, ← HTU.out] at HT
  with_reducible refine HT.out.mono ?_
  rintro e w9 ⟨rfl, hb⟩
  have O9 := Lib.hid (own_below O8.out hb)
  have K9 := kept_hid K8 hb
  have L9 := Lib.hid (Nat.le_trans L8.out hb.size)
  clear hb O8 K8 L8 HT HP
  have HTN := Lib.hid HTG.out
  dsimp only
  rename_i hK
  refine hK _ _ ?_
  clear hK
  refine wpList_plain rfl (fun K hK => ?_)
  go_simp
  refine hK _ _ ?_
  clear hK K
  have hbk : (w9.alloc (.cells (u8s (pad 16 [])).toArray 47)).heap[w9.heap.size]? = some (.cells (u8s (pad 16 [])).toArray 47 (0, 0)) := heap_alloc_new w9 _
  have hbl := al_any w9 (.cells (u8s (pad 16 [])).toArray 47)
  change wpList _ _ _ _ _ (w9.alloc (.cells (u8s (pad 16 [])).toArray 47))
  generalize w9.alloc (.cells (u8s (pad 16 [])).toArray 47) = w10 at hbk hbl
  have hsz : (u8s tg).toArray.size = 16 := by rw [List.size_toArray, u8s_length, HTG.out]
  refine wpList_store_mid rfl 47 _ _ rfl w9.heap.size 0 _ rfl rfl (there_of_block hbk 0 _ (by rw [hsz]; decide)) (by rw [hsz]; kernel_rfl) (u8s_cells _) ?_
  have HB11 := below_setCells w9.heap.size (Nat.le_refl _) (u8s tg).toArray.toList 0 _ hbl
  have G11 := put_row (D := tg) (by rw [HTG.out, pad_length (by decide)]) hbk
  generalize w10.setCells w9.heap.size 0 (u8s tg).toArray.toList = w11 at HB11 G11
  have O11 := Lib.hid (own_below O9.out HB11)
  have K11 := kept_hid K9 HB11
  have L11 := Lib.hid (Nat.le_trans L9.out HB11.size)
  have GB := Lib.hid (show BytesIn w11 (.slice (some ⟨w9.heap.size, 0, none⟩) 16 16) tg from by
    have := row_bytes (n := 16) (c := 16) G11 (by rw [HTG.out]; decide) (Nat.le_refl _)
    rwa [List.take_of_length_le (by rw [HTG.out]; decide)] at this)
  clear hbk hbl hsz HB11 G11 O9 K9 L9
  generalize w9.heap.size = N at *
  have HG := Lib.hid (own_ge O11.out)
  go_wp2_with (at_builtin; refine wpList_mark ?_)
  refine Lib.hid ?_
  refine append_own rfl (.tmp 47) (.tmp 48) rfl (w.heap.size + 1) (.slice v7 tx.length k7) tx.length (u8s tx) rfl O11.out (some ⟨N, 0, none⟩) 16 16 tg rfl HTG.out nofun (bytes_src GB.out) (by have := HTL.out; have := HBL.out; omega) L11.out ?_
  intro v' wC hown hgr _
  have OC := Lib.hid (show wC.ownsRow (w.heap.size + 1) 5 1 v' sl.length (u8s sl) from by
    rw [HSE.out, List.length_append, HTG.out]
    have e : u8s (tx ++ tg) = u8s tx ++ u8s tg := by simp [u8s]
    rw [e]
    exact hown)
  have WC := Lib.hid (K11.out.trans (((Below.refl (w.heap.size + 1) _).grown hgr L11.out HG.out).mono (Nat.le_succ _)))
  obtain ⟨v8, k8, rfl⟩ := own_form OC.out
  clear hown hgr O11 GB K11 L11 HG
  go_wp2_with fail
  go_ret2
  exact ⟨v8, k8, rfl, own_mono OC.out (Nat.le_succ _), WC.out⟩
theorem fseal_any (k : List Nat) (f : F) (ka : Option Addr) (kc : Nat) (ba : Option Addr) (bc : Nat) (w : World) (hk : Byts w ka kc k) (hb : Byts w ba bc f.b) (hkl : k.length < 1000000) (hbl : f.b.length < 1000000) :
    Calls Tryd.prog 9 #[.slice ka k.length kc, .agg #[.int .i64 f.d, .int .i64 f.q, .slice ba f.b.length bc]] w fun e w' => GaveS w w' (sealB k f) (wrong f) e := by
  obtain ⟨d, q, b⟩ := f
  simp only at hb hbl ⊢
  by_cases hw : wrong ⟨d, q, b⟩ = 0
  · rw [show sealB k ⟨d, q, b⟩ = seal_ k ⟨d, q, b⟩ from if_pos hw, hw]
    exact fseal_ok k d q b ka kc ba bc w hkl hk hb hw
  · rw [show sealB k ⟨d, q, b⟩ = [] from if_neg hw]
    cases hd : ((d == 0) || (d == 1)) with
    | false =>
      rw [show wrong ⟨d, q, b⟩ = 1 from by unfold wrong; rw [if_pos (by simp at hd ⊢; exact .inl hd)]]
      exact fseal_dir k d q b ka kc ba bc w hd
    | true =>
      cases hq : (decide (1 ≤ q) && decide (q ≤ 4611686018427387904)) with
      | false =>
        rw [show wrong ⟨d, q, b⟩ = 1 from by unfold wrong; rw [if_pos (by simp at hq ⊢; omega)]]
        exact fseal_seq k d q b ka kc ba bc w hd hq
      | true =>
        have hl : 486 < b.length := by
          simp at hd hq
          unfold wrong at hw
          rw [if_neg (by simp only; omega)] at hw
          simp at hw
          omega
        rw [show wrong ⟨d, q, b⟩ = 6 from by unfold wrong; rw [if_neg (by simp at hd hq ⊢; omega), if_pos hl]]
        exact fseal_long k d q b ka kc ba bc w hd hq hl
end Frm
end Go.Proofs.YtdiidfkmmgcjmaaDoor
