/- isDir, isSeq, appendSeq, readSeq of package frame. Written by tools/gen_frm_code.py. -/
import Derived.Test.YtdiidfkmmgcjmaaDoorFrmArg
import Derived.Test.YtdiidfkmmgcjmaaDoorFrmMem
import Derived.Test.YtdiidfkmmgcjmaaDoorFrmBits
import Derived.Deep.Cut
import Derived.Deep.LoopGhost
import Derived.Deep.RegionLaw
import Derived.Deep.RegionHeld3
import Derived.IntWalk
import Derived.Lib.SmallJoins
namespace Go.Proofs.YtdiidfkmmgcjmaaDoor
open Go.RowKit Sha Six Apd Cut Err
set_option linter.unusedVariables false
set_option linter.unusedSimpArgs false
namespace Frm
set_option maxRecDepth 100000 in
set_option maxHeartbeats 8000000 in
theorem isDir_any (d : Int) (w : World) : Calls Tryd.prog 17 #[.int .i64 d] w fun e w' => e = .returned (.bool ((d == 0) || (d == 1))) ∧ Below w.heap.size w w' := by
  generalize h0 : (d == 0) = x0
  generalize h1 : (d == 1) = x1
  cases x0 <;> cases x1 <;>
  · go_enter Tryd.func17, Tryd.ntmps17
    go_wp2_with fail
    go_ret
    exact ⟨rfl, Below.refl _ _⟩
set_option maxRecDepth 100000 in
set_option maxHeartbeats 8000000 in
theorem isSeq_any (q : Int) (w : World) : Calls Tryd.prog 18 #[.int .i64 q] w fun e w' => e = .returned (.bool (decide (1 ≤ q) && decide (q ≤ 4611686018427387904))) ∧ Below w.heap.size w w' := by
  by_cases h1 : 1 ≤ q
  · by_cases h2 : q ≤ 4611686018427387904
    · rw [decide_eq_true h1, decide_eq_true h2]
      go_enter Tryd.func18, Tryd.ntmps18
      go_wp2_with fail
      go_ret
      exact ⟨rfl, Below.refl _ _⟩
    · rw [decide_eq_true h1, decide_eq_false h2]
      go_enter Tryd.func18, Tryd.ntmps18
      go_wp2_with fail
      go_ret
      exact ⟨rfl, Below.refl _ _⟩
  · rw [decide_eq_false h1]
    go_enter Tryd.func18, Tryd.ntmps18
    go_wp2_with fail
    go_ret
    exact ⟨rfl, Below.refl _ _⟩
theorem byte_shr (q k : Nat) : ((q : Int) / 2 ^ (8 * k) % 256 : Int) = ((q / 2 ^ (8 * k) % 256 : Nat) : Int) := by simp
set_option maxRecDepth 100000 in
set_option maxHeartbeats 8000000 in
theorem appendSeq_any (hd : List Nat) (q : Nat) (ta : Option Addr) (tc base : Nat) (w : World) (hq : q < 9223372036854775808) (ho : w.ownsRow base 5 1 (.slice ta hd.length tc) hd.length (u8s hd)) (hl : hd.length < 1000) (hb : base ≤ w.heap.size) :
    Calls Tryd.prog 19 #[.slice ta hd.length tc, .int .i64 (q : Int)] w fun e w' => ∃ va vc, e = .returned (.slice va (hd ++ be8 q).length vc) ∧ w'.ownsRow base 5 1 (.slice va (hd ++ be8 q).length vc) (hd ++ be8 q).length (u8s (hd ++ be8 q)) ∧ Below base w w' := by
  have HL := Lib.hid hl
  have O0 := Lib.hid ho
  have L0 := Lib.hid hb
  clear hq ho hl hb
  go_enter Tryd.func19, Tryd.ntmps19
  go_wp2_with fail
  go_loopg [0, 5] 9 (fun mm vv ii wr => ∃ (m : Nat) (i : Int) (ts : List Nat) (ta : Option Addr) (tc : Nat), m ≤ 8 ∧ mm = m + 1 ∧ i = 8 * (m : Int) - 8 ∧ ii = .int .i64 i ∧ vv = .slice ta ts.length tc ∧ Hid (ts = hd ++ (be8 q).take (8 - m)) ∧ Hid (ts.length = hd.length + (8 - m)) ∧ Hid (wr.ownsRow base 5 1 (.slice ta ts.length tc) ts.length (u8s ts)) ∧ Hid (Below base w wr) ∧ Hid (base ≤ wr.heap.size))
  case atStart => exact ⟨8, 56, hd, ta, tc, Nat.le_refl _, rfl, rfl, rfl, rfl, Lib.hid (by simp), Lib.hid rfl, O0, Lib.hid (Below.refl _ _), L0⟩
  case round =>
    obtain ⟨m, i, ts, ta, tc, hm, rfl, hi, rfl, rfl, HTS, HLN, OT, WR, LR⟩ := hrel
    clear O0 L0
    cases m with
    | succ k =>
      obtain rfl : i = 8 * (k : Int) := by omega
      have HM := Lib.hid hm
      have hk1 : (0 : Int) ≤ 8 * (k : Int) := by omega
      have hk2 : 8 * (k : Int) ≤ 56 := by omega
      have ew : wrap64 (8 * (k : Int) - 8) = 8 * (k : Int) - 8 := by rw [IntWalk.wrap64_in] <;> omega
      have HNX := Lib.hid (be8_take q (show k < 8 by omega))
      clear hm hi
      go_wp2_with (at_builtin; refine wpList_mark ?_)
      rw [byte_shr]
      generalize q / 2 ^ (8 * k) % 256 = x at HNX ⊢
      have HA := al_any wr (.cells (u8s [x]).toArray 5)
      have LT := Lib.hid (lit_in wr [x])
      have OS := Lib.hid (own_below OT.out HA)
      have WS := Lib.hid (WR.out.trans (HA.mono LR.out))
      have LS := Lib.hid (Nat.le_trans LR.out HA.size)
      have HG := Lib.hid (own_ge OS.out)
      have HSN := Lib.hid (show ts ++ [x] = hd ++ (be8 q).take (8 - k) from by rw [HTS.out, HNX.out, List.append_assoc])
      clear HA OT WR LR hk1 hk2
      refine Lib.hid ?_
      refine append_own rfl (.tmp 10) (.tmp 15) rfl base (.slice ta ts.length tc) ts.length (u8s ts) rfl OS.out (some ⟨wr.heap.size, 0, none⟩) 1 1 [x] rfl rfl nofun (bytes_src LT.out) (by have := HLN.out; have := HL.out; omega) LS.out ?_
      intro v' wA hown hgr _
      have OA := Lib.hid (show wA.ownsRow base 5 1 v' (ts ++ [x]).length (u8s (ts ++ [x])) from by
        rw [List.length_append]
        have e : u8s (ts ++ [x]) = u8s ts ++ u8s [x] := by simp [u8s]
        rw [e]
        exact hown)
      have HBW := (Below.refl base _).grown hgr LS.out HG.out
      have WA := Lib.hid (WS.out.trans HBW)
      have LA := Lib.hid (Nat.le_trans LS.out HBW.size)
      obtain ⟨v7, k7, rfl⟩ := own_form OA.out
      clear hown hgr HBW OS WS LS LT HG
      go_wp2_with fail
      go_roundg (k + 1)
      case measure => omega
      case rel => exact ⟨k, 8 * (k : Int) - 8, ts ++ [x], v7, k7, by have := HM.out; omega, rfl, rfl, by first | rfl | go_num, by rw [List.length_append]; first | rfl | simp, HSN, Lib.hid (by rw [List.length_append]; have := HLN.out; have := HM.out; simp only [List.length_cons, List.length_nil]; omega), OA, WA, LA⟩
    | zero =>
      obtain rfl : i = -8 := by omega
      have hn1 : ¬ (0 : Int) ≤ -8 := by omega
      have HSN := Lib.hid (show ts = hd ++ be8 q from by rw [HTS.out, List.take_of_length_le (by rw [be8_len]; exact Nat.le_refl _)])
      clear hm hi HTS HLN
      obtain rfl := HSN.out
      go_wp2_with fail
      go_ret
      exact ⟨ta, tc, rfl, by have := OT.out; simpa only [List.length_append] using this, WR.out⟩
set_option maxRecDepth 100000 in
set_option maxHeartbeats 8000000 in
theorem readSeq_any (l : List Nat) (la : Option Addr) (n lc : Nat) (w : World) (hb : BytesIn w (.slice la n lc) l) (hn : l.length = n) (h8 : ∀ x ∈ l, x < 256) (hl : l.length = 8) :
    Calls Tryd.prog 24 #[.slice la n lc] w fun e w' => e = .returned (.int .i64 (seqv l)) ∧ Below w.heap.size w w' := by
  subst hn
  obtain ⟨g, off, rfl, HCL⟩ : ∃ g off, la = some ⟨g, off, none⟩ ∧ Hid (∀ i, i < l.length → w.cell? ⟨g, off + i, none⟩ = some (.int .u8 (l.getD i 0))) := by
    obtain ⟨ad, c, hv, hcap, hc⟩ := hb
    injection hv with e1 e2 e3
    subst e1 e3
    rcases hc with h0 | ⟨g, off, h0, hc⟩
    · rw [h0] at hl; cases hl
    · exact ⟨g, off, h0, Lib.hid hc⟩
  have H8 := Lib.hid h8
  have HL := Lib.hid hl
  have HB8 := Lib.hid fun k (hk : k < 8) => num_pow (l := l) h8 k (by omega)
  have HSV := Lib.hid (show seqv l = wrap64 ((num (l.take 8) : Nat) : Int) from by rw [List.take_of_length_le (by omega)]; rfl)
  clear hb h8
  generalize seqv l = sv at HSV ⊢
  rw [hl]
  clear hl
  go_enter Tryd.func24, Tryd.ntmps24
  go_wp2_with fail
  go_loopg [3, 8] 9 (fun mm sv iv wr => ∃ (k : Nat), k ≤ 8 ∧ mm = 9 - k ∧ sv = .int .i64 (wrap64 ((num (l.take k) : Nat) : Int)) ∧ iv = .int .i64 (k : Int) ∧ wr = w)
  case atStart => exact ⟨0, Nat.zero_le _, rfl, by simp [num, wrap64], rfl, rfl⟩
  case round =>
    obtain ⟨k, hk, rfl, rfl, rfl, rfl⟩ := hrel
    by_cases hlt : k < 8
    · have hj0 : (0 : Int) ≤ (k : Int) := by omega
      have hj1 : (k : Int) < 8 := by omega
      have ck := HCL.out k (by rw [HL.out]; exact hlt)
      have HST := Lib.hid (num_step (l := l) (k := k) (by rw [HL.out]; exact hlt))
      have HXK := Lib.hid (show l.getD k 0 < 256 from byte_lt H8.out (by decide) _)
      have HPW := Lib.hid (show num (l.take k) < 72057594037927936 from Nat.lt_of_lt_of_le (HB8.out k hlt) (Nat.le_trans (Nat.pow_le_pow_right (by decide) (show k ≤ 7 by omega)) (by decide)))
      generalize l.getD k 0 = x at ck HST HXK
      generalize num (l.take k) = n at HPW HST ⊢
      have e0 : wrap64 (n : Int) = (n : Int) := by have := HPW.out; rw [IntWalk.wrap64_in] <;> omega
      have e2 : wrap64 (x : Int) = (x : Int) := by have := HXK.out; rw [IntWalk.wrap64_in] <;> omega
      have e3 := or_wrap n x HXK.out HPW.out
      have e4 : wrap64 ((k : Int) + 1) = (k : Int) + 1 := by rw [IntWalk.wrap64_in] <;> omega
      have HLT := Lib.hid hlt
      rw [e0]
      clear hk hlt HCL H8 e0
      go_wp2_with fail
      go_roundg (9 - (k + 1))
      case measure => have := HLT.out; omega
      case rel => exact ⟨k + 1, HLT.out, rfl, by rw [HST.out]; first | exact congrArg (Value.int .i64) e3 | rfl, by first | exact congrArg (Value.int .i64) e4 | rfl, rfl⟩
    · obtain rfl : k = 8 := by omega
      rw [← HSV.out]
      clear hk hlt
      go_wp2_with fail
      go_ret
      exact ⟨rfl, Below.refl _ _⟩
end Frm
end Go.Proofs.YtdiidfkmmgcjmaaDoor
