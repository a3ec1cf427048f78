/- List of the document. Written by tools/gen_win.py. -/
import Derived.Test.YteggdfkmncikpaaDoorWinRow
import Derived.Test.YteggdfkmncikpaaDoorWinBits
import Derived.Test.YteggdfkmncikpaaDoorWinRef
import Derived.Deep.Cut
import Derived.Deep.LoopGhost
import Derived.Deep.RegionLaw
import Derived.Deep.RegionHeld3
import Derived.IntWalk
import Derived.Lib.SmallJoins
namespace Go.Proofs.YteggdfkmncikpaaDoor
open Go.RowKit Sha Six Apd Cut Err
set_option linter.unusedVariables false
set_option linter.unusedSimpArgs false
namespace Win
set_option maxRecDepth 100000 in
set_option maxHeartbeats 8000000 in
theorem list_any (s : W) (w : World) (hf : Fit s) (ht0 : -1000 ≤ s.top) (ht1 : s.top ≤ 4611686018427387904) : Calls Tryd.prog 16 #[.agg #[.int .i64 s.top, .int .u64 (s.bits : Int)]] w fun e w' => ∃ ad c, e = .returned (.slice ad (list s).length c) ∧ OwnIs w' w.heap.size (.slice ad (list s).length c) (list s) ∧ Below w.heap.size w w' := by
  have HLT := Lib.hid (show list s = listTo s 64 from rfl)
  have HST := Lib.hid (listTo_step s)
  have HLN := Lib.hid (listTo_len s)
  have HBM := Lib.hid (bit_mod s.bits)
  have hb := hf.bits
  generalize list s = lst at *
  obtain ⟨t, b⟩ := s
  simp only at *
  have HB := Lib.hid (al_any w (.cells #[.int .i64 t, .int .u64 (b : Int)] 24))
  have HX := Lib.hid (heap_alloc_new w (.cells #[.int .i64 t, .int .u64 (b : Int)] 24))
  go_enter Tryd.func16, Tryd.ntmps16
  go_upto_region 1 with (fail)
  generalize w.alloc _ = w1 at *
  have HZ := Lib.hid (there_lt HX.out)
  go_wp2_with fail
  go_loopg [3, 4] 65 (fun mm vv ii wr => ∃ (k : Nat) (ad : Option Addr) (c : Nat), k ≤ 64 ∧ mm = 65 - k ∧ ii = .int .i64 (k : Int) ∧ vv = .slice ad (listTo ⟨t, b⟩ k).length c ∧ Hid (OwnIs wr (w.heap.size + 1) (.slice ad (listTo ⟨t, b⟩ k).length c) (listTo ⟨t, b⟩ k)) ∧ Hid (wr.heap[w.heap.size]? = some (.cells #[.int .i64 t, .int .u64 (b : Int)] 24 (0, 0))) ∧ Hid (Below w.heap.size w wr))
  case atStart => exact ⟨0, none, 0, Nat.zero_le _, rfl, rfl, rfl, Lib.hid (own_nilI _ _), HX, HB⟩
  case round =>
    obtain ⟨k, ad, c, hk, rfl, rfl, rfl, OR, XR, KR⟩ := hrel
    clear HB HX HZ
    have HZ := Lib.hid (there_lt XR.out)
    obtain ⟨c0, c1⟩ := cells2 XR.out
    by_cases hlt : k < 64
    · have HLT2 := Lib.hid hlt
      have HSK := Lib.hid (HST.out k)
      have HLK := Lib.hid (HLN.out k)
      have hj : (k : Int) < 64 := by omega
      have hs : (b : Int) / 2 ^ k = ((b >>> k : Nat) : Int) := shr_nat b k
      have hs2 : (b : Int) / 2 ^ min k 64 = ((b >>> k : Nat) : Int) := by rw [Nat.min_eq_left (by omega)]; exact hs
      have ha := and_one (b >>> k) (shr_lt b k hb)
      have HBK := Lib.hid (HBM.out k)
      have hc : IntKind.u64.wrap (k : Int) = (k : Int) := wi64 _ (by omega) (by omega)
      have ew : wrap64 ((k : Int) + 1) = (k : Int) + 1 := by rw [IntWalk.wrap64_in] <;> omega
      have et : wrap64 (t - (k : Int)) = t - (k : Int) := by rw [IntWalk.wrap64_in] <;> omega
      generalize listTo ⟨t, b⟩ k = lk at *
      cases htb : b.testBit k with
      | false =>
        rw [htb] at HBK HSK
        replace HSK : Hid (listTo ⟨t, b⟩ (k + 1) = lk) := Lib.hid (by rw [HSK.out]; simp)
        rw [show b >>> k % 2 = 0 from HBK.out] at ha
        generalize b >>> k = bk at *
        clear htb HBK hlt hk
        go_wp2_with fail
        go_roundg (65 - (k + 1))
        case measure => have := HLT2.out; omega
        case rel => exact ⟨k + 1, ad, c, HLT2.out, rfl, by first | exact congrArg (Value.int .i64) ew | rfl, by rw [HSK.out], by rw [HSK.out]; exact OR, XR, KR⟩
      | true =>
        rw [htb] at HBK HSK
        replace HSK : Hid (listTo ⟨t, b⟩ (k + 1) = lk ++ [t - (k : Int)]) := Lib.hid (by rw [HSK.out]; simp)
        rw [show b >>> k % 2 = 1 from HBK.out] at ha
        generalize b >>> k = bk at *
        clear htb HBK hlt hk
        go_wp2_with (at_builtin; refine wpList_mark ?_)
        have HA := al_any wr (.cells #[.int .i64 (t - (k : Int))] 3)
        have LT := Lib.hid (heap_alloc_new wr (.cells #[.int .i64 (t - (k : Int))] 3))
        have OS := Lib.hid (own_below OR.out HA)
        have XS := Lib.hid (blk XR.out HA)
        have KS := kept_hid KR HA
        have LS := Lib.hid (show w.heap.size + 1 ≤ (wr.alloc (.cells #[.int .i64 (t - (k : Int))] 3)).heap.size from there_lt XS.out)
        have HG := Lib.hid (own_ge OS.out)
        clear HA OR XR KR HZ c0 c1 hs hs2 ha hc et
        generalize wr.alloc _ = wl at *
        refine Lib.hid ?_
        refine append_i rfl (.tmp 16) (.tmp 21) rfl (w.heap.size + 1) (.slice ad lk.length c) lk rfl OS.out _ (t - (k : Int)) rfl LT.out (by have := HLK.out; have := HLT2.out; omega) LS.out ?_
        intro v' wA hown hgr
        have HBW := (Below.refl (w.heap.size + 1) _).grown hgr LS.out HG.out
        have OA := Lib.hid hown
        have XA := Lib.hid ((HBW.block _ (Nat.lt_succ_self _)).trans XS.out)
        have KA := Lib.hid (KS.out.trans (HBW.mono (Nat.le_succ _)))
        obtain ⟨v7, k7, rfl⟩ := hown.form
        clear hown hgr HBW OS XS KS LS LT HG
        go_wp2_with fail
        go_roundg (65 - (k + 1))
        case measure => have := HLT2.out; omega
        case rel => exact ⟨k + 1, v7, k7, HLT2.out, rfl, by first | exact congrArg (Value.int .i64) ew | rfl, by rw [HSK.out]; first | rfl | (rw [List.length_append]; rfl), by rw [HSK.out]; exact OA, XA, KA⟩
    · obtain rfl : k = 64 := by omega
      have hj : ¬ ((64 : Nat) : Int) < 64 := by decide
      rw [← HLT.out] at OR ⊢
      clear hk hlt
      go_wp2_with fail
      go_ret
      exact ⟨ad, c, rfl, OR.out.mono (Nat.le_succ _), KR.out⟩
end Win
end Go.Proofs.YteggdfkmncikpaaDoor
