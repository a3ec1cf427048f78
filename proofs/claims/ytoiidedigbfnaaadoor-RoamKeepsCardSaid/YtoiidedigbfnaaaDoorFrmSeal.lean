/- Seal of the document. Written by tools/gen_frm_ref.py. -/
import Derived.Test.YtoiidedigbfnaaaDoorBunFru
import Derived.Test.YtoiidedigbfnaaaDoorBunShr
import Derived.Deep.Cut
import Derived.Deep.LoopGhost
import Derived.Deep.RegionHeld3
import Derived.IntWalk
namespace Go.Proofs.YtoiidedigbfnaaaDoor
open Go.RowKit Sha Six Apd Cut Err
set_option linter.unusedVariables false
namespace Frm
theorem byte_of {q : Nat} (hq : q < 9223372036854775808) (k : Nat) : (bits .and .i64 ((q : Int) / 2 ^ (8 * k)) 255 % 256 : Int) = ((q / 2 ^ (8 * k) % 256 : Nat) : Int) := by
  have e : ((q : Int) / 2 ^ (8 * k)) = ((q / 2 ^ (8 * k) : Nat) : Int) := by simp
  rw [e, Sha.mask8 _ (Nat.lt_of_le_of_lt (Nat.div_le_self _ _) hq)]
set_option maxRecDepth 100000 in
set_option maxHeartbeats 8000000 in
theorem rseal_any (f : F) (key : List Nat) (ka : Option Addr) (kn kc : Nat) (ba : Option Addr) (bc : Nat) (w : World) (hk : kn ≤ 200) (hkl : key.length = kn) (hk8 : ∀ x ∈ key, x < 256) (hkb : BytesIn w (.slice ka kn kc) key) (hkn : ka = none → kn = 0 ∧ kc = 0)
    (hbb : BytesIn w (.slice ba f.b.length bc) f.b) (hb8 : ∀ x ∈ f.b, x < 256) (hbn : ba = none → f.b.length = 0 ∧ bc = 0) (hw : wrong f = 0) :
    Calls Tryd.prog 7 #[.slice ka kn kc, .agg #[.int .i64 f.d, .int .i64 f.q, .slice ba f.b.length bc]] w fun e w' => ∃ va vc, e = .returned (.slice va (seal_ key f).length vc) ∧ w'.ownsRow w.heap.size 5 1 (.slice va (seal_ key f).length vc) (seal_ key f).length (u8s (seal_ key f)) ∧ Below w.heap.size w w' := by
  obtain ⟨hd, hq1, hq2, hbl⟩ := wrong_ok hw
  have HTX := Lib.hid (show text f = (1 :: f.d.toNat :: (be8 f.q.toNat).take 8) ++ f.b from by unfold text head; rw [List.take_of_length_le (by rw [be8_len]; exact Nat.le_refl _)])
  have HT8 := Lib.hid (text_small hd hb8)
  have HTL := Lib.hid (text_len f)
  have HSE := Lib.hid (show seal_ key f = text f ++ tag key (text f) from rfl)
  have HTG := Lib.hid (tag_len key (text f))
  have HTU := Lib.hid (show tag key (text f) = (Sha.hmac key (text f)).take 16 from rfl)
  generalize seal_ key f = sl at *
  generalize text f = tx at *
  generalize tag key tx = tg at *
  obtain ⟨d, q, b⟩ := f
  simp only at *
  obtain ⟨q, rfl⟩ := Int.eq_ofNat_of_zero_le (show 0 ≤ q by omega)
  obtain ⟨d, rfl⟩ := Int.eq_ofNat_of_zero_le (show 0 ≤ d by omega)
  simp only [Int.toNat_natCast] at HTX
  have HQ := Lib.hid (show q < 9223372036854775808 by omega)
  have HK := Lib.hid (show kn ≤ 200 from hk)
  have HKL := Lib.hid hkl
  have HK8 := Lib.hid hk8
  have HBL := Lib.hid hbl
  have HKN := Lib.hid hkn
  have HBN := Lib.hid hbn
  have hdw : IntKind.u8.wrap (d : Int) = (d : Int) := by
    rcases hd with h | h <;> (have : d = 0 ∨ d = 1 := by omega) <;> rcases this with rfl | rfl <;> rfl
  have HB := Lib.hid (al_any w (.cells #[.int .i64 (d : Int), .int .i64 (q : Int), .slice ba b.length bc] 38))
  have HX := Lib.hid (heap_alloc_new w (.cells #[.int .i64 (d : Int), .int .i64 (q : Int), .slice ba b.length bc] 38))
  have HKB := Lib.hid (show ∀ x, ka = some x → x.block < w.heap.size + 1 ∨ kn = 0 from fun x hx => bytes_block hkb hx)
  have HBB := Lib.hid (show ∀ x, ba = some x → x.block < w.heap.size + 1 ∨ b.length = 0 from fun x hx => bytes_block hbb hx)
  have KB := Lib.hid (bytes_below hkb HB.out)
  have BB := Lib.hid (bytes_below hbb HB.out)
  clear hd hq1 hq2 hbl hw hk hkl hk8 hkb hkn hbb hb8 hbn
  go_enter Tryd.func7, Tryd.ntmps7
  go_upto_region 1 with (fail)
  generalize w.alloc _ = w1 at *
  have HX1 := Lib.hid (there_lt HX.out)
  have HA := al_any w1 (.cells #[.int .u8 1, .int .u8 (d : Int)] 5)
  have O2 := Lib.hid (show (w1.alloc (.cells #[.int .u8 1, .int .u8 (d : Int)] 5)).ownsRow (w.heap.size + 1) 5 1 (.slice (some ⟨w1.heap.size, 0, none⟩) 2 2) 2 (u8s [1, d]) from own_lit w1 (w.heap.size + 1) [1, d] HX1.out (by simp))
  have X2 := Lib.hid (blk HX.out HA)
  have K2 := kept_hid HB HA
  have KB2 := Lib.hid (bytes_below KB.out HA)
  have BB2 := Lib.hid (bytes_below BB.out HA)
  have LA := Lib.hid (show w.heap.size + 1 ≤ (w1.alloc (.cells #[.int .u8 1, .int .u8 (d : Int)] 5)).heap.size from Nat.le_trans HX1.out HA.size)
  obtain ⟨c0, c1, c2⟩ := cells3 HX.out
  clear HA HX HB KB BB
  go_upto_region 2 with (fail)
  clear c0 c1 c2 hdw
  generalize w1.heap.size = g1 at *
  generalize w1.alloc _ = w2 at *
  go_wp2_with fail
  go_loopg [5, 6] 9 (fun mm vv ii wr => ∃ (m : Nat) (i : Int) (ts : List Nat) (ta : Option Addr) (tc : Nat), m ≤ 8 ∧ mm = m + 1 ∧ i = (m : Int) - 1 ∧ ii = .int .i64 i ∧ vv = .slice ta ts.length tc ∧ Hid (ts = 1 :: d :: (be8 q).take (8 - m)) ∧ Hid (ts.length = 10 - m) ∧ Hid (wr.ownsRow (w.heap.size + 1) 5 1 (.slice ta ts.length tc) ts.length (u8s ts)) ∧ Hid (wr.heap[w.heap.size]? = some (.cells #[.int .i64 (d : Int), .int .i64 (q : Int), .slice ba b.length bc] 38 (0, 0))) ∧ Hid (BytesIn wr (.slice ka kn kc) key) ∧ Hid (BytesIn wr (.slice ba b.length bc) b) ∧ Hid (Below w.heap.size w wr) ∧ Hid (w.heap.size + 1 ≤ wr.heap.size))
  case atStart => exact ⟨8, 7, [1, d], _, _, Nat.le_refl _, rfl, rfl, rfl, rfl, Lib.hid rfl, Lib.hid rfl, O2, X2, KB2, BB2, K2, LA⟩
  case round =>
    obtain ⟨m, i, ts, ta, tc, hm, rfl, hi, rfl, rfl, HTS, HLN, OT, XR, KR, BR, WR, LR⟩ := hrel
    clear O2 X2 KB2 BB2 K2 LA
    obtain ⟨c0, c1, c2⟩ := cells3 XR.out
    cases m with
    | succ k =>
      obtain rfl : i = (k : Int) := by omega
      have HM := Lib.hid hm
      have hk0 : (0 : Int) ≤ (k : Int) := by omega
      have hk1 : (0 : Int) ≤ 8 * (k : Int) := by omega
      have hk2 : 8 * (k : Int) ≤ 56 := by omega
      have ew : wrap64 ((k : Int) - 1) = (k : Int) - 1 := by rw [IntWalk.wrap64_in] <;> omega
      have HV := Lib.hid (byte_of HQ.out k)
      have HNX := Lib.hid (be8_take q (show k < 8 by omega))
      clear hm hi
      go_wp2_with (at_builtin; refine wpList_mark ?_)
      rw [HV.out]
      generalize q / 2 ^ (8 * k) % 256 = x at HNX ⊢
      have HA := al_any wr (.cells (u8s [x]).toArray 5)
      have LT := Lib.hid (lit_in wr [x])
      have OS := Lib.hid (own_below OT.out HA)
      have XS := Lib.hid (blk XR.out HA)
      have KS := Lib.hid (bytes_below KR.out HA)
      have BS := Lib.hid (bytes_below BR.out HA)
      have WS := kept_hid WR HA
      have LS := Lib.hid (Nat.le_trans LR.out HA.size)
      have HG := Lib.hid (own_ge OS.out)
      have HSN := Lib.hid (show ts ++ [x] = 1 :: d :: (be8 q).take (8 - k) from by rw [HTS.out, HNX.out]; rfl)
      clear HA OT XR KR BR WR LR HV c0 c1 c2 hk1 hk2
      refine Lib.hid ?_
      refine append_own rfl (.tmp 15) (.tmp 24) rfl (w.heap.size + 1) (.slice ta ts.length tc) ts.length (u8s ts) rfl OS.out (some ⟨wr.heap.size, 0, none⟩) 1 1 [x] rfl rfl nofun (bytes_src LT.out) (by have := HLN.out; omega) LS.out ?_
      intro v' wA hown hgr _
      have OA := Lib.hid (show wA.ownsRow (w.heap.size + 1) 5 1 v' (ts ++ [x]).length (u8s (ts ++ [x])) from by
        rw [List.length_append]
        have e : u8s (ts ++ [x]) = u8s ts ++ u8s [x] := by simp [u8s]
        rw [e]
        exact hown)
      have HBW := (Below.refl (w.heap.size + 1) _).grown hgr LS.out HG.out
      have XA := Lib.hid (blk_b XS.out (Nat.lt_succ_self _) HBW)
      have KA := Lib.hid (bytes_at KS.out HKB.out HBW)
      have BA := Lib.hid (bytes_at BS.out HBB.out HBW)
      have WA := Lib.hid (WS.out.trans (HBW.mono (Nat.le_succ _)))
      have LA := Lib.hid (Nat.le_trans LS.out HBW.size)
      obtain ⟨v7, k7, rfl⟩ := own_form OA.out
      clear hown hgr HBW OS XS KS BS WS LS LT HG
      go_wp2_with fail
      go_roundg (k + 1)
      case measure => omega
      case rel => exact ⟨k, (k : Int) - 1, ts ++ [x], v7, k7, by have := HM.out; omega, rfl, rfl, by first | rfl | go_num, by rw [List.length_append]; first | rfl | simp, HSN, Lib.hid (by rw [List.length_append]; have := HLN.out; have := HM.out; simp only [List.length_cons, List.length_nil]; omega), OA, XA, KA, BA, WA, LA⟩
    | zero =>
      obtain rfl : i = -1 := by omega
      have hn1 : ¬ (0 : Int) ≤ -1 := by omega
      have HLB := Lib.hid (show b.length < 100000 by have := HBL.out; omega)
      have HTX2 := Lib.hid (show tx = ts ++ b from by rw [HTX.out, HTS.out])
      have HG := Lib.hid (own_ge OT.out)
      clear hm hi
      go_wp2_with (at_builtin; refine wpList_mark ?_)
      clear hn1 c0 c1 c2
      refine Lib.hid ?_
      refine append_own rfl (.tmp 26) (.tmp 28) rfl (w.heap.size + 1) (.slice ta ts.length tc) ts.length (u8s ts) rfl OT.out ba b.length bc b rfl rfl HBN.out (bytes_src BR.out) (by have := HLN.out; have := HLB.out; omega) LR.out ?_
      intro v' wA hown hgr _
      have OA := Lib.hid (show wA.ownsRow (w.heap.size + 1) 5 1 v' tx.length (u8s tx) from by
        rw [HTX2.out, List.length_append]
        have e : u8s (ts ++ b) = u8s ts ++ u8s b := by simp [u8s]
        rw [e]
        exact hown)
      have HBW := (Below.refl (w.heap.size + 1) _).grown hgr LR.out HG.out
      have KA := Lib.hid (bytes_at KR.out HKB.out HBW)
      have WA := Lib.hid (WR.out.trans (HBW.mono (Nat.le_succ _)))
      have LA := Lib.hid (Nat.le_trans LR.out HBW.size)
      obtain ⟨v7, k7, rfl⟩ := own_form OA.out
      have HTLN := Lib.hid (show tx.length = 10 + b.length from HTL.out)
      clear hown hgr HBW OT XR KR BR WR LR HG HTX HTX2 HTS HLN
      have HRT := Lib.hid (Sha.rtag_any ka kn kc v7 tx.length k7 key tx wA HK.out (by have := HTLN.out; have := HBL.out; omega) HKL.out rfl HK8.out HT8.out KA.out (own_bytes OA.out) HKN.out (own_nil OA.out))
      go_wp2_with fail
      with_reducible refine HRT.out.mono ?_
      rintro e wB ⟨ga, gc, rfl, hgb, hb⟩
      rw [← HTU.out] at hgb
      have OB := Lib.hid (own_below OA.out hb)
      have GB := Lib.hid hgb
      have WB := kept_hid WA hb
      have LB := Lib.hid (Nat.le_trans LA.out hb.size)
      have HNG := Lib.hid (bytes_some hgb (by intro h; have := HTG.out; rw [h] at this; cases this))
      have HG := Lib.hid (own_ge OB.out)
      clear hb hgb OA KA WA LA HRT
      go_wp2_with (at_builtin; refine wpList_mark ?_)
      refine Lib.hid ?_
      refine append_own rfl (.tmp 30) (.tmp 33) rfl (w.heap.size + 1) (.slice v7 tx.length k7) tx.length (u8s tx) rfl OB.out ga 16 gc tg rfl HTG.out (fun h => absurd h HNG.out) (bytes_src GB.out) (by have := HTLN.out; have := HBL.out; omega) LB.out ?_
      intro v' wC hown hgr _
      have OC := Lib.hid (show wC.ownsRow (w.heap.size + 1) 5 1 v' sl.length (u8s sl) from by
        rw [HSE.out, List.length_append, HTG.out]
        have e : u8s (tx ++ tg) = u8s tx ++ u8s tg := by simp [u8s]
        rw [e]
        exact hown)
      have WC := Lib.hid (WB.out.trans (((Below.refl (w.heap.size + 1) _).grown hgr LB.out HG.out).mono (Nat.le_succ _)))
      obtain ⟨v8, k8, rfl⟩ := own_form OC.out
      clear hown hgr OB GB WB LB HG
      go_wp2_with fail
      go_ret
      exact ⟨v8, k8, rfl, own_mono OC.out (Nat.le_succ _), WC.out⟩
end Frm
end Go.Proofs.YtoiidedigbfnaaaDoor
