/- ShaLeaf, ShaWord, ShaMixed, ShaSpread, ShaTake, ShaFill, ShaNew, ShaAdd, ShaEnd, ShaOf, ShaParts, MacLeaf, MacCode, MacTag in one text (by tools/bundle.py). -/
import Derived.Test.YtoiidedigbfnaaaDoorRows
import Derived.WalkKit
import Derived.WalkSpells
import Derived.WalkLawsBesides
import Derived.Deep.QuietTactic
import Derived.BigQuiet
import Derived.Lib.Hide
import Derived.Test.YtoiidedigbfnaaaDoorBunShp
import Derived.Lib.SlBytesConst
import Derived.Lib.Strings
import Derived.Test.YtoiidedigbfnaaaDoorBunBase
import Derived.Deep.Cut
import Derived.StillTailTactics
import Derived.Deep.RegionHeld3
import Derived.Deep.DrawnRows
import Derived.Laws.CopyOwn
import Derived.Deep.RegionWith
import Derived.OwnWalk
import Derived.Test.YtoiidedigbfnaaaDoorBunBase
import Derived.OpenShut
/- The small functions of package hash return what the plain functions say; memory that was there stays. -/
set_option maxRecDepth 100000
namespace Go.Proofs.YtoiidedigbfnaaaDoor
open Go.RowKit
namespace Sha

theorem ret_u32 {a b : Int} (h : a = b) : Ending.returned (.int .u32 a) = .returned (.int .u32 b) := by rw [h]
theorem rotr_cast (x n : Nat) (hx : x < 4294967296) :
    bits .or .u32 ((x : Int) / 2 ^ n) ((x : Int) * 2 ^ (32 - n) % 4294967296) = ((rotr x n : Nat) : Int) := by
  have e1 : ((x : Int) / 2 ^ n) = ((x / 2 ^ n : Nat) : Int) := by simp
  have e2 : ((x : Int) * 2 ^ (32 - n) % 4294967296) = ((x * 2 ^ (32 - n) % 4294967296 : Nat) : Int) := by simp
  rw [e1, e2, u32_or_nat _ _ (Nat.lt_of_le_of_lt (Nat.div_le_self _ _) hx) (Nat.mod_lt _ (by decide))]; rfl
set_option maxHeartbeats 400000 in
theorem turned_any (x : Nat) (n : Int) (w : World) (hx : x < 4294967296) (h0 : 1 ≤ n) (h1 : n ≤ 31) :
    Calls Tryd.prog 55 #[.int .u32 x, .int .i64 n] w fun e w' => e = .returned (.int .u32 ((rotr x n.toNat : Nat) : Int)) ∧ ∃ k, w' = w.drewN k := by
  obtain ⟨n, rfl⟩ := Int.eq_ofNat_of_zero_le (show 0 ≤ n by omega)
  have E := rotr_cast x n hx
  have H := Lib.hid E
  clear E
  go_enter Tryd.func55, Tryd.ntmps55
  go_wp2
  go_quiet (fail)
  go_wp2
  go_ret
  exact ⟨ret_u32 H.out, _, rfl⟩

theorem xor2 (a b : Nat) (ha : a < 4294967296) (hb : b < 4294967296) : bits .xor .u32 (a : Int) (b : Int) = ((a ^^^ b : Nat) : Int) := u32_xor_nat a b ha hb
theorem div8 (x : Nat) : (x : Int) / 8 = ((x / 8 : Nat) : Int) := by omega
theorem div1024 (x : Nat) : (x : Int) / 1024 = ((x / 1024 : Nat) : Int) := by omega

set_option maxHeartbeats 400000 in
theorem ssig0_any (x : Nat) (w : World) (hx : x < 4294967296) :
    Calls Tryd.prog 54 #[.int .u32 x] w fun e w' => e = .returned (.int .u32 ((ssig0 x : Nat) : Int)) ∧ ∃ k, w' = w.drewN k := by
  have E : bits .xor .u32 (bits .xor .u32 ((rotr x 7 : Nat) : Int) ((rotr x 18 : Nat) : Int)) ((x : Int) / 8) = ((ssig0 x : Nat) : Int) := by
    rw [div8, xor2 _ _ (rotr_lt _ _ hx) (rotr_lt _ _ hx), xor2 _ _ (xor_lt (rotr_lt _ _ hx) (rotr_lt _ _ hx)) (by omega)]; rfl
  have H := Lib.hid E
  clear E
  go_enter Tryd.func54, Tryd.ntmps54
  go_wp2_with fail
  refine (turned_any x 7 _ hx (by decide) (by decide)).mono ?_
  rintro e w' ⟨rfl, k1, rfl⟩
  go_wp2_with fail
  refine (turned_any x 18 _ hx (by decide) (by decide)).mono ?_
  rintro e w' ⟨rfl, k2, rfl⟩
  go_wp2_with fail
  go_ret
  exact ⟨ret_u32 H.out, k1 + k2, rfl⟩
set_option maxHeartbeats 400000 in
theorem ssig1_any (x : Nat) (w : World) (hx : x < 4294967296) :
    Calls Tryd.prog 53 #[.int .u32 x] w fun e w' => e = .returned (.int .u32 ((ssig1 x : Nat) : Int)) ∧ ∃ k, w' = w.drewN k := by
  have E : bits .xor .u32 (bits .xor .u32 ((rotr x 17 : Nat) : Int) ((rotr x 19 : Nat) : Int)) ((x : Int) / 1024) = ((ssig1 x : Nat) : Int) := by
    rw [div1024, xor2 _ _ (rotr_lt _ _ hx) (rotr_lt _ _ hx), xor2 _ _ (xor_lt (rotr_lt _ _ hx) (rotr_lt _ _ hx)) (by omega)]; rfl
  have H := Lib.hid E
  clear E
  go_enter Tryd.func53, Tryd.ntmps53
  go_wp2_with fail
  refine (turned_any x 17 _ hx (by decide) (by decide)).mono ?_
  rintro e w' ⟨rfl, k1, rfl⟩
  go_wp2_with fail
  refine (turned_any x 19 _ hx (by decide) (by decide)).mono ?_
  rintro e w' ⟨rfl, k2, rfl⟩
  go_wp2_with fail
  go_ret
  exact ⟨ret_u32 H.out, k1 + k2, rfl⟩

set_option maxHeartbeats 400000 in
theorem bsig0_any (x : Nat) (w : World) (hx : x < 4294967296) :
    Calls Tryd.prog 52 #[.int .u32 x] w fun e w' => e = .returned (.int .u32 ((bsig0 x : Nat) : Int)) ∧ ∃ k, w' = w.drewN k := by
  have E : bits .xor .u32 (bits .xor .u32 ((rotr x 2 : Nat) : Int) ((rotr x 13 : Nat) : Int)) ((rotr x 22 : Nat) : Int) = ((bsig0 x : Nat) : Int) := by
    rw [xor2 _ _ (rotr_lt _ _ hx) (rotr_lt _ _ hx), xor2 _ _ (xor_lt (rotr_lt _ _ hx) (rotr_lt _ _ hx)) (rotr_lt _ _ hx)]; rfl
  have H := Lib.hid E
  clear E
  go_enter Tryd.func52, Tryd.ntmps52
  go_wp2_with fail
  refine (turned_any x 2 _ hx (by decide) (by decide)).mono ?_
  rintro e w' ⟨rfl, k1, rfl⟩
  go_wp2_with fail
  refine (turned_any x 13 _ hx (by decide) (by decide)).mono ?_
  rintro e w' ⟨rfl, k2, rfl⟩
  go_wp2_with fail
  refine (turned_any x 22 _ hx (by decide) (by decide)).mono ?_
  rintro e w' ⟨rfl, k3, rfl⟩
  go_wp2_with fail
  go_ret
  exact ⟨ret_u32 H.out, k1 + k2 + k3, rfl⟩

set_option maxHeartbeats 400000 in
theorem bsig1_any (x : Nat) (w : World) (hx : x < 4294967296) :
    Calls Tryd.prog 51 #[.int .u32 x] w fun e w' => e = .returned (.int .u32 ((bsig1 x : Nat) : Int)) ∧ ∃ k, w' = w.drewN k := by
  have E : bits .xor .u32 (bits .xor .u32 ((rotr x 6 : Nat) : Int) ((rotr x 11 : Nat) : Int)) ((rotr x 25 : Nat) : Int) = ((bsig1 x : Nat) : Int) := by
    rw [xor2 _ _ (rotr_lt _ _ hx) (rotr_lt _ _ hx), xor2 _ _ (xor_lt (rotr_lt _ _ hx) (rotr_lt _ _ hx)) (rotr_lt _ _ hx)]; rfl
  have H := Lib.hid E
  clear E
  go_enter Tryd.func51, Tryd.ntmps51
  go_wp2_with fail
  refine (turned_any x 6 _ hx (by decide) (by decide)).mono ?_
  rintro e w' ⟨rfl, k1, rfl⟩
  go_wp2_with fail
  refine (turned_any x 11 _ hx (by decide) (by decide)).mono ?_
  rintro e w' ⟨rfl, k2, rfl⟩
  go_wp2_with fail
  refine (turned_any x 25 _ hx (by decide) (by decide)).mono ?_
  rintro e w' ⟨rfl, k3, rfl⟩
  go_wp2_with fail
  go_ret
  exact ⟨ret_u32 H.out, k1 + k2 + k3, rfl⟩

set_option maxHeartbeats 400000 in
theorem value_any (d : Nat) (w : World) (hd : d < 256) :
    Calls Tryd.prog 48 #[.int .u8 d] w fun e w' => e = .returned (.int .u32 ((dval d : Nat) : Int)) ∧ w = w' := by
  by_cases h : 97 ≤ d
  · have E : ((d : Int) - 97 + 10) = ((dval d : Nat) : Int) := by unfold dval; rw [if_pos h]; omega
    have H := Lib.hid E
    clear E
    go_enter Tryd.func48, Tryd.ntmps48
    go_wp2
    go_ret
    exact ⟨ret_u32 H.out, rfl⟩
  · have E : (((d : Int) - 48) % 256) = ((dval d : Nat) : Int) := by unfold dval; rw [if_neg h]; omega
    have H := Lib.hid E
    clear E
    go_enter Tryd.func48, Tryd.ntmps48
    go_wp2
    go_ret
    exact ⟨ret_u32 H.out, rfl⟩
end Sha
end Go.Proofs.YtoiidedigbfnaaaDoor
/- 'word' of package hash returns the n-th word of a text. -/
set_option maxRecDepth 100000
namespace Go.Proofs.YtoiidedigbfnaaaDoor
open Go.RowKit
namespace Sha

theorem extract_word (s : ByteArray) (n : Nat) : (s.extract (8 * n) (8 * n + 8)).data.toList = (s.data.toList.drop (8 * n)).take 8 := by
  rw [Lib.extract_data]; congr 1; omega
theorem bytesRow_at (t : ByteArray) (cap i : Nat) (h : i < t.size) : (bytesRow t cap)[i]? = some (.int .u8 ((t.data.toList.getD i 0).toNat : Nat)) := by
  unfold bytesRow
  have h' : i < t.data.size := h
  rw [Array.getElem?_append_left (by simpa using h')]
  have e : t.data[i]? = some t.data[i] := Array.getElem?_eq_getElem h'
  simp [e]

theorem wstep_val {a d b : Nat} (hd : d < 256) (h : wstep a d = b) : Value.int .u32 (bits .or .u32 ((a : Int) * 16 % 4294967296) ((dval d : Nat) : Int)) = .int .u32 (b : Int) := by
  rw [← h, show ((a : Int) * 16 % 4294967296) = ((a * 16 % 4294967296 : Nat) : Int) by omega, u32_or_nat _ _ (Nat.mod_lt _ (by decide)) (dval_lt hd)]; rfl

set_option maxHeartbeats 400000 in
theorem word_any (s : ByteArray) (n : Nat) (w : World) (h : 8 * n + 8 ≤ s.size) (hs : s.size ≤ 10000) :
    Calls Tryd.prog 45 #[.string s, .int .i64 n] w fun e w' => e = .returned (.int .u32 ((wordOf s.data.toList n : Nat) : Int)) ∧ Below w.heap.size w w' := by
  obtain ⟨t, ht⟩ : ∃ t, t = s.extract (8 * n) (8 * n + 8) := ⟨_, rfl⟩
  have htl : t.data.toList = (s.data.toList.drop (8 * n)).take 8 := by rw [ht, extract_word]
  have hsz : t.size = 8 := by
    have : t.data.toList.length = 8 := by rw [htl]; simp; omega
    simpa using this
  obtain ⟨cap, w1, hrun, hC, hB⟩ : ∃ cap w1, ((Go.convert 9 22 (.string (s.extract (8 * n) (8 * n + 8)))).run Tryd.prog w = .ok (.slice (some ⟨w.heap.size, 0, none⟩) 8 cap) w1) ∧
      (∀ i, i < 8 → w1.cell? ⟨w.heap.size, i, none⟩ = some (.int .u8 ((t.data.toList.getD i 0).toNat : Nat))) ∧ Below w.heap.size w w1 := by
    refine ⟨grownCap w 8 0 5, w.drew.alloc (.cells (bytesRow t (grownCap w 8 0 5)) 5 ((bytesRow t (grownCap w 8 0 5)).size, (bytesRow t (grownCap w 8 0 5)).size + 1)), ?_, fun i hi => (World.cell?_alloc_mark w.drew _ _ _ i).trans (bytesRow_at t (grownCap w 8 0 5) i (by omega)), ((Below.refl _ _).drew).alloc (Nat.le_refl _) _⟩
    rw [← ht, run_bytes_of_string (P := Tryd.prog) w 9 22 5 t Tryd.underlying9 Tryd.underlying22 Tryd.underlying5, hsz]
  have HC := Lib.hid hC
  have HT := Lib.hid htl
  have HZ := Lib.hid hsz
  have HB := Lib.hid hB
  clear hC htl hsz ht hB
  go_enter Tryd.func45, Tryd.ntmps45
  go_wp2_with fail
  go_loopw [5, 17] (fun a i wr => ∃ k : Nat, k ≤ 8 ∧ i = .int .i64 k ∧ a = .int .u32 ((wfold (t.data.toList.take k) : Nat) : Int) ∧ w1 = wr) (fun _ i _ => 8 - (intOf i).toNat)
  case atStart => exact ⟨0, Nat.zero_le _, rfl, rfl, rfl⟩
  case round =>
    obtain ⟨k, hk, rfl, rfl, rfl⟩ := hrel
    by_cases hlt : k < 8
    · have hc := HC.out k hlt
      have hb := (t.data.toList.getD k 0).toNat_lt
      have HS := Lib.hid (show wstep (wfold (t.data.toList.take k)) (t.data.toList.getD k 0).toNat = wfold (t.data.toList.take (k + 1)) by
        have hl : k < t.data.toList.length := by have := HZ.out; simpa using (by omega : k < t.size)
        rw [List.take_succ_eq_append_getElem hl, wfold_snoc]; congr 2; rw [List.getD_eq_getElem?_getD, List.getElem?_eq_getElem hl]; rfl)
      generalize (t.data.toList.getD k 0).toNat = d at hc hb HS
      generalize wfold (t.data.toList.take k) = a at HS
      go_wp2_with fail
      refine (value_any d _ hb).mono ?_
      rintro e w' ⟨rfl, rfl⟩
      go_wp2_with fail
      go_roundw
      case rel => exact ⟨k + 1, by omega, by go_num, wstep_val hb HS.out, trivial⟩
      case measure => simp [intOf]; omega
    · have hk8 : k = 8 := by omega
      subst hk8
      clear hlt hk
      go_wp2_with fail
      go_ret
      exact ⟨ret_u32 (by rw [wordOf, ← HT.out, List.take_of_length_le (by have := HZ.out; simpa using Nat.le_of_eq this)]), HB.out⟩

/-- The two published texts. -/
def beginText : List UInt8 := [54, 97, 48, 57, 101, 54, 54, 55, 98, 98, 54, 55, 97, 101, 56, 53, 51, 99, 54, 101, 102, 51, 55, 50, 97, 53, 52, 102, 102, 53, 51, 97, 53, 49, 48, 101, 53, 50, 55, 102, 57, 98, 48, 53, 54, 56, 56, 99, 49, 102, 56, 51, 100, 57, 97, 98, 53, 98, 101, 48, 99, 100, 49, 57]
def roundsText : List UInt8 := [52, 50, 56, 97, 50, 102, 57, 56, 55, 49, 51, 55, 52, 52, 57, 49, 98, 53, 99, 48, 102, 98, 99, 102, 101, 57, 98, 53, 100, 98, 97, 53, 51, 57, 53, 54, 99, 50, 53, 98, 53, 57, 102, 49, 49, 49, 102, 49, 57, 50, 51, 102, 56, 50, 97, 52, 97, 98, 49, 99, 53, 101, 100, 53, 100, 56, 48, 55, 97, 97, 57, 56, 49, 50, 56, 51, 53, 98, 48, 49, 50, 52, 51, 49, 56, 53, 98, 101, 53, 53, 48, 99, 55, 100, 99, 51, 55, 50, 98, 101, 53, 100, 55, 52, 56, 48, 100, 101, 98, 49, 102, 101, 57, 98, 100, 99, 48, 54, 97, 55, 99, 49, 57, 98, 102, 49, 55, 52, 101, 52, 57, 98, 54, 57, 99, 49, 101, 102, 98, 101, 52, 55, 56, 54, 48, 102, 99, 49, 57, 100, 99, 54, 50, 52, 48, 99, 97, 49, 99, 99, 50, 100, 101, 57, 50, 99, 54, 102, 52, 97, 55, 52, 56, 52, 97, 97, 53, 99, 98, 48, 97, 57, 100, 99, 55, 54, 102, 57, 56, 56, 100, 97, 57, 56, 51, 101, 53, 49, 53, 50, 97, 56, 51, 49, 99, 54, 54, 100, 98, 48, 48, 51, 50, 55, 99, 56, 98, 102, 53, 57, 55, 102, 99, 55, 99, 54, 101, 48, 48, 98, 102, 51, 100, 53, 97, 55, 57, 49, 52, 55, 48, 54, 99, 97, 54, 51, 53, 49, 49, 52, 50, 57, 50, 57, 54, 55, 50, 55, 98, 55, 48, 97, 56, 53, 50, 101, 49, 98, 50, 49, 51, 56, 52, 100, 50, 99, 54, 100, 102, 99, 53, 51, 51, 56, 48, 100, 49, 51, 54, 53, 48, 97, 55, 51, 53, 52, 55, 54, 54, 97, 48, 97, 98, 98, 56, 49, 99, 50, 99, 57, 50, 101, 57, 50, 55, 50, 50, 99, 56, 53, 97, 50, 98, 102, 101, 56, 97, 49, 97, 56, 49, 97, 54, 54, 52, 98, 99, 50, 52, 98, 56, 98, 55, 48, 99, 55, 54, 99, 53, 49, 97, 51, 100, 49, 57, 50, 101, 56, 49, 57, 100, 54, 57, 57, 48, 54, 50, 52, 102, 52, 48, 101, 51, 53, 56, 53, 49, 48, 54, 97, 97, 48, 55, 48, 49, 57, 97, 52, 99, 49, 49, 54, 49, 101, 51, 55, 54, 99, 48, 56, 50, 55, 52, 56, 55, 55, 52, 99, 51, 52, 98, 48, 98, 99, 98, 53, 51, 57, 49, 99, 48, 99, 98, 51, 52, 101, 100, 56, 97, 97, 52, 97, 53, 98, 57, 99, 99, 97, 52, 102, 54, 56, 50, 101, 54, 102, 102, 51, 55, 52, 56, 102, 56, 50, 101, 101, 55, 56, 97, 53, 54, 51, 54, 102, 56, 52, 99, 56, 55, 56, 49, 52, 56, 99, 99, 55, 48, 50, 48, 56, 57, 48, 98, 101, 102, 102, 102, 97, 97, 52, 53, 48, 54, 99, 101, 98, 98, 101, 102, 57, 97, 51, 102, 55, 99, 54, 55, 49, 55, 56, 102, 50]
theorem begin_word : ∀ k, k < 8 → wordOf beginText k = beginWords.getD k 0 := by decide +kernel
theorem round_word : ∀ k, k < 64 → wordOf roundsText k = roundWords.getD k 0 := by decide +kernel
theorem begin_size : beginText.length = 64 := by decide +kernel
theorem rounds_size : roundsText.length = 512 := by decide +kernel
theorem kword_any (s : ByteArray) (hs : s.data.toList = roundsText) (k : Nat) (hk : k < 64) (w : World) :
    Calls Tryd.prog 45 #[.string s, .int .i64 k] w fun e w' => e = .returned (.int .u32 ((roundWords.getD k 0 : Nat) : Int)) ∧ Below w.heap.size w w' := by
  have hz : s.size = 512 := by
    have h : s.data.toList.length = 512 := by rw [hs, rounds_size]
    simpa using h
  have := word_any s k w (by omega) (by omega)
  rwa [hs, round_word k hk] at this
theorem bword_any (s : ByteArray) (hs : s.data.toList = beginText) (k : Nat) (hk : k < 8) (w : World) :
    Calls Tryd.prog 45 #[.string s, .int .i64 k] w fun e w' => e = .returned (.int .u32 ((beginWords.getD k 0 : Nat) : Int)) ∧ Below w.heap.size w w' := by
  have hz : s.size = 64 := by
    have h : s.data.toList.length = 64 := by rw [hs, begin_size]
    simpa using h
  have := word_any s k w (by omega) (by omega)
  rwa [hs, begin_word k hk] at this
end Sha
end Go.Proofs.YtoiidedigbfnaaaDoor
/- 'mixed' of package hash: a state behind the 64 rounds with a block's words. -/
set_option maxRecDepth 100000
namespace Go.Proofs.YtoiidedigbfnaaaDoor
open Go.RowKit
namespace Sha

theorem index_u32 (T n : Nat) (hu : Tryd.prog.underlying T = some (.array n 46)) (l : List Nat) (hl : l.length = n) (k : Nat) (hk : k < n) (w : World) :
    (Instr.index T (.agg (u32s l).toArray) (.int .i64 (k : Int))).run Tryd.prog w = .ok (.int .u32 ((l.getD k 0 : Nat) : Int)) w := by
  have hs : ((sizeOf 46).run Tryd.prog w) = .ok 1 w := by kernel_rfl
  have hk' : k < l.length := by omega
  simp [Instr.index, asIntOf, run_underlying hu, hs, hk, part, u32s, hk']

/-- What lies behind k of the sums. -/
def addUpto (a b : List Nat) : Nat → List Nat
  | 0 => a
  | n + 1 => (addUpto a b n).set n ((a.getD n 0 + b.getD n 0) % 4294967296)
theorem addUpto_length (a b : List Nat) (n : Nat) : (addUpto a b n).length = a.length := by
  induction n with | zero => rfl | succ n ih => simp [addUpto, ih]
theorem addUpto_getD (a b : List Nat) (n j : Nat) (h : n ≤ j) : (addUpto a b n).getD j 0 = a.getD j 0 := by
  induction n with
  | zero => rfl
  | succ n ih => rw [addUpto, List.getD_eq_getElem?_getD, List.getElem?_set_ne (by omega), ← List.getD_eq_getElem?_getD]; exact ih (by omega)
theorem addUpto_plus (s t : St) : addUpto s.list t.list 8 = (plus s t).list := rfl

theorem compl32 {e : Nat} (h : e < 4294967296) : 4294967295 ^^^ e = 4294967295 - e := by
  apply Nat.eq_of_testBit_eq
  intro i
  have h1 : Nat.testBit 4294967295 i = decide (i < 32) := Nat.testBit_two_pow_sub_one 32 i
  have h2 : Nat.testBit (4294967295 - e) i = (decide (i < 32) && !e.testBit i) := by
    have := Nat.testBit_two_pow_sub_succ (n := 32) (x := e) h i
    rw [← this]; congr 1; omega
  rw [Nat.testBit_xor, h1, h2]
  by_cases hi : i < 32
  · simp [hi]
  · have : e.testBit i = false := Nat.testBit_lt_two_pow (Nat.lt_of_lt_of_le h (Nat.pow_le_pow_right (by decide) (Nat.le_of_not_lt hi) : 2 ^ 32 ≤ 2 ^ i))
    simp [hi, this]
theorem flat5 (a b c d e : Nat) : (((((a : Int) + b + c + d + e) % 4294967296 : Int)) = (((((a + b) % 4294967296 + c) % 4294967296 + d) % 4294967296 + e) % 4294967296 : Nat)) := by omega
theorem flat2 (a b : Nat) : (((a : Int) + b) % 4294967296 : Int) = ((a + b) % 4294967296 : Nat) := by omega
theorem ch_val {e f g : Nat} (he : e < 4294967296) (hf : f < 4294967296) (hg : g < 4294967296) :
    bits .xor .u32 (bits .and .u32 (e : Int) (f : Int)) (bits .and .u32 (bits .xor .u32 IntKind.u32.max (e : Int)) (g : Int)) = (((e &&& f) ^^^ ((4294967295 - e) &&& g) : Nat) : Int) := by
  have hm : IntKind.u32.max = ((4294967295 : Nat) : Int) := by decide
  have hc : 4294967295 - e < 4294967296 := by omega
  rw [hm, u32_xor_nat _ _ (by decide) he, compl32 he, u32_and_nat _ _ he hf, u32_and_nat _ _ hc hg, u32_xor_nat _ _ (and_lt _ he) (and_lt _ hc)]
theorem ma_val {a b c : Nat} (ha : a < 4294967296) (hb : b < 4294967296) (hc : c < 4294967296) :
    bits .xor .u32 (bits .xor .u32 (bits .and .u32 (a : Int) (b : Int)) (bits .and .u32 (a : Int) (c : Int))) (bits .and .u32 (b : Int) (c : Int)) = ((((a &&& b) ^^^ (a &&& c)) ^^^ (b &&& c) : Nat) : Int) := by
  rw [u32_and_nat _ _ ha hb, u32_and_nat _ _ ha hc, u32_and_nat _ _ hb hc, u32_xor_nat _ _ (and_lt _ ha) (and_lt _ ha), u32_xor_nat _ _ (xor_lt (and_lt _ ha) (and_lt _ ha)) (and_lt _ hb)]
theorem x_val {r1 r2 r3 r4 r5 r6 r7 r8 k x : Nat} (h5 : r5 < 4294967296) (h6 : r6 < 4294967296) (h7 : r7 < 4294967296) :
    ((r8 : Int) + (bsig1 r5 : Nat) + bits .xor .u32 (bits .and .u32 (r5 : Int) (r6 : Int)) (bits .and .u32 (bits .xor .u32 IntKind.u32.max (r5 : Int)) (r7 : Int)) + (k : Int) + (x : Int)) % 4294967296 = ((xOf ⟨r1, r2, r3, r4, r5, r6, r7, r8⟩ k x : Nat) : Int) := by
  rw [ch_val h5 h6 h7, flat5]; rfl
theorem y_val {r1 r2 r3 r4 r5 r6 r7 r8 : Nat} (h1 : r1 < 4294967296) (h2 : r2 < 4294967296) (h3 : r3 < 4294967296) :
    (((bsig0 r1 : Nat) : Int) + bits .xor .u32 (bits .xor .u32 (bits .and .u32 (r1 : Int) (r2 : Int)) (bits .and .u32 (r1 : Int) (r3 : Int))) (bits .and .u32 (r2 : Int) (r3 : Int))) % 4294967296 = ((yOf ⟨r1, r2, r3, r4, r5, r6, r7, r8⟩ : Nat) : Int) := by
  rw [ma_val h1 h2 h3, flat2]; rfl

/-- The memory of 'mixed': its state, its words, its result. -/
structure MMem (H : Nat) (l : List Nat) (w0 w : World) : Prop where
  st : w.heap[H]? = some (.cells (u32s l).toArray 108 (0, 0))
  res : w.heap[H + 2]? = some (.cells (u32s (pad 8 [])).toArray 108 (0, 0))
  old : Below H w0 w
theorem MMem.drewN {H : Nat} {l : List Nat} {w0 w : World} (h : MMem H l w0 w) (n : Nat) : MMem H l w0 (w.drewN n) :=
  ⟨h.st, h.res, ⟨h.old.os, h.old.tape, h.old.output, h.old.size, h.old.block⟩⟩
theorem lt_of_heap {w : World} {b : Nat} {o : Obj} (h : w.heap[b]? = some o) : b < w.heap.size := by
  rcases Nat.lt_or_ge b w.heap.size with h' | h'
  · exact h'
  · simp [h'] at h
theorem MMem.below {H : Nat} {l : List Nat} {w0 w w1 : World} (h : MMem H l w0 w) (hb : Below w.heap.size w w1) : MMem H l w0 w1 :=
  ⟨(hb.block _ (lt_of_heap h.st)).trans h.st, (hb.block _ (lt_of_heap h.res)).trans h.res, h.old.trans (hb.mono (Nat.le_of_lt (lt_of_heap h.st)))⟩

theorem MMem.set {H : Nat} {l : List Nat} {w0 w : World} (h : MMem H l w0 w) (j v : Nat) : MMem H (l.set j v) w0 (w.setCell ⟨H, j, none⟩ (.int .u32 (v : Int))) :=
  ⟨by rw [heap_setCell_same w H j _ _ _ h.st, u32s_set], (heap_setCell_other w _ _ _ (by simp)).trans h.res, h.old.setCell (Nat.le_refl _) _⟩

set_option maxRecDepth 100000 in
set_option maxHeartbeats 2000000 in
theorem mixed_any (s : St) (ws : List Nat) (w : World) (hs : s.Ok) (hl : ws.length = 64) (hw : ∀ x ∈ ws, x < 4294967296) :
    Calls Tryd.prog 49 #[.agg (u32s s.list).toArray, .agg (u32s ws).toArray] w fun e w' => e = .returned (.agg (u32s (mix s ws).list).toArray) ∧ Below w.heap.size w w' := by
  go_enter Tryd.func49, Tryd.ntmps49
  go_upto_region 1 with (fail)
  have M0 : MMem w.heap.size s.list w (((w.alloc (.cells (u32s s.list).toArray 108)).alloc (.cells (u32s ws).toArray 116)).alloc (.cells (u32s (pad 8 [])).toArray 108)) :=
    ⟨(heap_alloc3 w _ _ _).1, (heap_alloc3 w _ _ _).2.2, (((Below.refl _ _).alloc (Nat.le_refl _) _).alloc (by simp) _).alloc (by simp; omega) _⟩
  have W0 : (((w.alloc (.cells (u32s s.list).toArray 108)).alloc (.cells (u32s ws).toArray 116)).alloc (.cells (u32s (pad 8 [])).toArray 108)).heap[w.heap.size + 1]? = some (.cells (u32s ws).toArray 116 (0, 0)) := (heap_alloc3 w _ _ _).2.1
  change Code.wp _ _ _ _ (((w.alloc (.cells (u32s s.list).toArray 108)).alloc (.cells (u32s ws).toArray 116)).alloc (.cells (u32s (pad 8 [])).toArray 108))
  generalize (((w.alloc (.cells (u32s s.list).toArray 108)).alloc (.cells (u32s ws).toArray 116)).alloc (.cells (u32s (pad 8 [])).toArray 108)) = w1 at M0 W0
  have HM := Lib.hid M0
  have HW := Lib.hid W0
  have HA := Lib.hid hw
  have HL := Lib.hid hl
  clear M0 W0 hw hl
  have c0 : w1.cell? ⟨w.heap.size, 0, none⟩ = some (.int .u32 (s.a : Int)) := cell_of_row w1 w.heap.size 0 _ _ _ HM.out.st
  have c1 : w1.cell? ⟨w.heap.size, 1, none⟩ = some (.int .u32 (s.b : Int)) := cell_of_row w1 w.heap.size 1 _ _ _ HM.out.st
  have c2 : w1.cell? ⟨w.heap.size, 2, none⟩ = some (.int .u32 (s.c : Int)) := cell_of_row w1 w.heap.size 2 _ _ _ HM.out.st
  have c3 : w1.cell? ⟨w.heap.size, 3, none⟩ = some (.int .u32 (s.d : Int)) := cell_of_row w1 w.heap.size 3 _ _ _ HM.out.st
  have c4 : w1.cell? ⟨w.heap.size, 4, none⟩ = some (.int .u32 (s.e : Int)) := cell_of_row w1 w.heap.size 4 _ _ _ HM.out.st
  have c5 : w1.cell? ⟨w.heap.size, 5, none⟩ = some (.int .u32 (s.f : Int)) := cell_of_row w1 w.heap.size 5 _ _ _ HM.out.st
  have c6 : w1.cell? ⟨w.heap.size, 6, none⟩ = some (.int .u32 (s.g : Int)) := cell_of_row w1 w.heap.size 6 _ _ _ HM.out.st
  have c7 : w1.cell? ⟨w.heap.size, 7, none⟩ = some (.int .u32 (s.h : Int)) := cell_of_row w1 w.heap.size 7 _ _ _ HM.out.st
  go_quiet (fail)
  rename Nat => nq1
  go_upto_region 2 with (fail)
  go_quiet (fail)
  clear c0 c1 c2 c3 c4 c5 c6 c7
  go_upto_region 3 with (fail)
  have M2 := Lib.hid ((HM.out.drewN nq1).drewN nq)
  have W2 : ((w1.drewN nq1).drewN nq).heap[w.heap.size + 1]? = some (.cells (u32s ws).toArray 116 (0, 0)) := HW.out
  change Code.wp _ _ _ _ ((w1.drewN nq1).drewN nq)
  generalize ((w1.drewN nq1).drewN nq) = w2 at M2 W2
  have hsz : (u32s ws).toArray.size = 64 := by simp [u32s, HL.out]
  refine wp_region_lit ?_
  refine wpList_load_row rfl 116 _ rfl (w.heap.size + 1) rfl 116 _ _ _ W2 Tryd.underlying116 rfl (by rw [hsz]; kernel_rfl) ?_
  clear W2 hsz HM HW
  go_wp2_with fail
  go_loopw [5, 6, 7, 8, 9, 10, 11, 12, 36] (fun a b c d e f g h i wr => ∃ k : Nat, k ≤ 64 ∧ i = .int .i64 k ∧ a = .int .u32 ((run s ws k).a : Int) ∧ b = .int .u32 ((run s ws k).b : Int) ∧ c = .int .u32 ((run s ws k).c : Int) ∧ d = .int .u32 ((run s ws k).d : Int) ∧
      e = .int .u32 ((run s ws k).e : Int) ∧ f = .int .u32 ((run s ws k).f : Int) ∧ g = .int .u32 ((run s ws k).g : Int) ∧ h = .int .u32 ((run s ws k).h : Int) ∧ MMem w.heap.size s.list w wr) (fun _ _ _ _ _ _ _ _ i _ => 64 - (intOf i).toNat)
  case atStart => exact ⟨0, Nat.zero_le _, rfl, rfl, rfl, rfl, rfl, rfl, rfl, rfl, rfl, M2.out⟩
  case round =>
    obtain ⟨k, hk, rfl, rfl, rfl, rfl, rfl, rfl, rfl, rfl, rfl, hm⟩ := hrel
    by_cases hlt : k < 64
    · have HM := Lib.hid hm
      have hix := index_u32 116 64 Tryd.underlying116 ws HL.out k hlt wr
      have hw := getD_lt HA.out (by decide) k
      have hrk := getD_lt round_lt (by decide) k
      have o := run_ok hs ws k
      have HN := Lib.hid (show run s ws (k + 1) = rnd (run s ws k) (roundWords.getD k 0) (ws.getD k 0) from rfl)
      generalize run s ws k = r at HN o
      generalize ws.getD k 0 = x at hix hw HN
      obtain ⟨r1, r2, r3, r4, r5, r6, r7, r8⟩ := r
      obtain ⟨o1, o2, o3, o4, o5, o6, o7, o8⟩ := o
      clear hm
      simp only at o1 o2 o3 o4 o5 o6 o7 o8
      go_wp2_with fail
      refine (bsig1_any _ _ o5).mono ?_
      rintro e w3 ⟨rfl, n3, rfl⟩
      go_wp2_with fail
      refine (kword_any _ (by kernel_rfl) k hlt _).mono ?_
      rintro e w4 ⟨rfl, hb4⟩
      have M4 := Lib.hid ((HM.out.drewN n3).below hb4)
      clear hb4
      go_wp2_with fail
      refine (bsig0_any _ _ o1).mono ?_
      rintro e w5 ⟨rfl, n5, rfl⟩
      go_wp2_with fail
      go_roundw
      case rel =>
        refine ⟨k + 1, by omega, by go_num, ?_⟩
        rw [HN.out]
        have kd : roundWords[k]?.getD 0 = roundWords.getD k 0 := (List.getD_eq_getElem?_getD ..).symm
        rw [kd]
        simp only [x_val (r1 := r1) (r2 := r2) (r3 := r3) (r4 := r4) (r8 := r8) o5 o6 o7, y_val (r4 := r4) (r5 := r5) (r6 := r6) (r7 := r7) (r8 := r8) o1 o2 o3]
        exact ⟨by rw [flat2]; rfl, rfl, rfl, rfl, by rw [flat2]; rfl, rfl, rfl, rfl, M4.out.drewN _⟩
      case measure => simp [intOf]; omega
    · have HM := Lib.hid hm
      have e : k = 64 := by omega
      have o := run_ok hs ws k
      have HV := Lib.hid (show mix s ws = plus s (run s ws k) by rw [e]; rfl)
      have hge : 64 ≤ k := by omega
      clear hm hlt e
      generalize run s ws k = v at HV o
      obtain ⟨v1, v2, v3, v4, v5, v6, v7, v8⟩ := v
      have HO := Lib.hid o.all
      clear o
      go_wp2_with fail
      go_loopw [94] (fun i wr => ∃ j : Nat, j ≤ 8 ∧ i = .int .i64 j ∧ MMem w.heap.size (addUpto s.list [v1, v2, v3, v4, v5, v6, v7, v8] j) w wr) (fun i _ => 8 - (intOf i).toNat)
      case atStart => exact ⟨0, Nat.zero_le _, rfl, HM.out⟩
      case round =>
        obtain ⟨j, hj, rfl, hm⟩ := hrel
        by_cases hlt : j < 8
        · have hix : (Instr.index 108 (.agg #[.int .u32 (v1 : Int), .int .u32 (v2 : Int), .int .u32 (v3 : Int), .int .u32 (v4 : Int), .int .u32 (v5 : Int), .int .u32 (v6 : Int), .int .u32 (v7 : Int), .int .u32 (v8 : Int)]) (.int .i64 (j : Int))).run Tryd.prog wr = .ok (.int .u32 (([v1, v2, v3, v4, v5, v6, v7, v8].getD j 0 : Nat) : Int)) wr :=
            index_u32 108 8 Tryd.underlying108 [v1, v2, v3, v4, v5, v6, v7, v8] rfl j hlt wr
          have hc : wr.cell? ⟨w.heap.size, j, none⟩ = some (.int .u32 ((s.list.getD j 0 : Nat) : Int)) := by
            have := (cell_of_row wr w.heap.size j _ _ _ hm.st).trans (u32s_at (by rw [addUpto_length]; exact hlt))
            rwa [addUpto_getD _ _ _ _ (Nat.le_refl _)] at this
          have hf : wr.frozen? ⟨w.heap.size, j, none⟩ = false := frozen_of_row wr w.heap.size j _ _ hm.st
          have hxs := getD_lt hs.all (by decide) j
          have hxv := getD_lt HO.out (by decide) j
          have HS := Lib.hid (show addUpto s.list [v1, v2, v3, v4, v5, v6, v7, v8] (j + 1) = (addUpto s.list [v1, v2, v3, v4, v5, v6, v7, v8] j).set j ((s.list.getD j 0 + [v1, v2, v3, v4, v5, v6, v7, v8].getD j 0) % 4294967296) from rfl)
          have HN := Lib.hid hm
          simp only [St.list] at hxv
          generalize s.list.getD j 0 = x at hc hxs HS
          generalize [v1, v2, v3, v4, v5, v6, v7, v8].getD j 0 = y at hix hxv HS
          have hj0 : (0 : Int) ≤ (j : Int) := by omega
          have hj1 : (j : Int) < 8 := by omega
          clear hm
          go_wp2_with fail
          go_roundw
          case rel =>
            refine ⟨j + 1, by omega, by go_num, ?_⟩
            rw [HS.out]
            rw [flat2]
            exact HN.out.set j _
          case measure => simp [intOf]; omega
        · have e : j = 8 := by omega
          rw [e] at hm
          have HN := Lib.hid (show MMem w.heap.size (mix s ws).list w wr by rw [HV.out]; exact hm)
          have hge2 : 8 ≤ j := by omega
          clear hm hlt e
          go_upto_region 16 with (fail)
          have hrow := HN.out.st
          have hres := HN.out.res
          have hsz : (u32s (mix s ws).list).toArray.size = 8 := rfl
          have hth : wr.there (w.heap.size + 2) 0 (u32s (mix s ws).list).toArray.size := there_of_block hres 0 _ (by rw [hsz]; decide)
          have hend : ((wr.setCells (w.heap.size + 2) 0 (u32s (mix s ws).list).toArray.toList).heap[w.heap.size + 2]? = some (.cells (u32s (mix s ws).list).toArray 108 (0, 0))) := by
            have := heap_setCells (w.heap.size + 2) 108 (0, 0) (u32s (mix s ws).list) 0 wr _ hres (by rw [u32s_length, u32s_length, pad_length (by decide), St.list_length]; decide)
            rw [this]; rfl
          have HE := Lib.hid hend
          clear hend hres
          refine wp_region_lit ?_
          refine wpList_load_row rfl 108 _ rfl w.heap.size rfl 108 _ _ _ hrow Tryd.underlying108 rfl (by rw [hsz]; kernel_rfl) ?_
          refine wpList_store_mid rfl 108 _ _ rfl (w.heap.size + 2) 0 _ rfl rfl hth (by rw [hsz]; kernel_rfl) (u32s_cells _) ?_
          clear hrow hth
          have HB := Lib.hid (below_setCells (w.heap.size + 2) (by omega) (u32s (mix s ws).list).toArray.toList 0 _ HN.out.old)
          generalize wr.setCells (w.heap.size + 2) 0 (u32s (mix s ws).list).toArray.toList = wz at HE HB
          go_wp2_with fail
          exact bodyPost_ret (v := .agg (u32s (mix s ws).list).toArray) (results_cell_row rfl _ _ (w.heap.size + 2) 108 _ (0, 0) _ rfl HE.out Tryd.underlying108 rfl (by rw [hsz]; kernel_rfl)) rfl ⟨rfl, HB.out⟩
end Sha
end Go.Proofs.YtoiidedigbfnaaaDoor
/- 'spread' of package hash: the words of a block. -/
set_option maxRecDepth 100000
namespace Go.Proofs.YtoiidedigbfnaaaDoor
open Go.RowKit
namespace Sha
/-- The memory of 'spread': its block, its result, its words. -/
structure Mem (H : Nat) (b l : List Nat) (w0 w : World) : Prop where
  blk : w.heap[H]? = some (.cells (u8s b).toArray 98 (0, 0))
  res : w.heap[H + 1]? = some (.cells (u32s (pad 64 [])).toArray 116 (0, 0))
  row : w.heap[H + 2]? = some (.cells (u32s (pad 64 l)).toArray 116 (0, 0))
  old : Below H w0 w

theorem arr_blk : Tryd.prog.underlying 98 = some (.array (Tryd.prog.arrayLen 98) (Tryd.prog.elem 98)) := by kernel_rfl
theorem len_blk : Tryd.prog.arrayLen 98 = 64 := by kernel_rfl
theorem slice_blk (H k : Nat) (hk : k < 16) (w : World) :
    (Instr.sliceAt 98 (.pointer (some ⟨H, 0, none⟩)) (some (.int .i64 (4 * (k : Int)))) (some (.int .i64 (4 * (k : Int) + 4))) none).run Tryd.prog w = .ok (.slice (some ⟨H, 4 * k, none⟩) 4 (64 - 4 * k)) w := by
  have hs : ((sizeOf (Tryd.prog.elem 98)).run Tryd.prog w) = .ok 1 w := by kernel_rfl
  rw [run_sliceAt_array_lh (P := Tryd.prog) w 98 _ arr_blk _ _ _ _ (by omega) (by omega) (by rw [len_blk]; omega), len_blk, hs]
  have e1 : (4 * (k : Int)).toNat = 4 * k := by omega
  have e2 : (4 * (k : Int) + 4).toNat = 4 * k + 4 := by omega
  simp only [Result.andThen, slicedAt, e1, e2, Addr.add]
  rw [if_neg (by omega)]
  simp
  omega

theorem Mem.alone {H : Nat} {b l : List Nat} {w0 w : World} (h : Mem H b l w0 w) (hl : l.length < 64) (v : Nat) :
    Mem H b (l ++ [v]) w0 (w.setCell ⟨H + 1 + 1, l.length, none⟩ (.int .u32 (v : Int))) := by
  refine ⟨(heap_setCell_other w _ H _ (by simp; omega)).trans h.blk, (heap_setCell_other w _ (H + 1) _ (by simp)).trans h.res, ?_, h.old.setCell (by simp; omega) _⟩
  have := heap_setCell_same w (H + 2) l.length _ _ (.int .u32 (v : Int)) h.row
  rw [u32s_set, pad_snoc v hl] at this
  exact this
theorem Mem.drewN {H : Nat} {b l : List Nat} {w0 w : World} (h : Mem H b l w0 w) (n : Nat) : Mem H b l w0 (w.drewN n) :=
  ⟨h.blk, h.res, h.row, ⟨h.old.os, h.old.tape, h.old.output, h.old.size, h.old.block⟩⟩
theorem wnext_val {l : List Nat} {k : Nat} (hl : l.length = k + 16) :
    Value.int .u32 ((((((ssig1 (l.getD (k + 14) 0) : Nat) : Int) + ((l.getD (k + 9) 0 : Nat) : Int)) % 4294967296 + ((ssig0 (l.getD (k + 1) 0) : Nat) : Int)) % 4294967296 + ((l.getD k 0 : Nat) : Int)) % 4294967296) = .int .u32 ((wnext l : Nat) : Int) := by
  unfold wnext
  rw [hl, show k + 16 - 2 = k + 14 by omega, show k + 16 - 7 = k + 9 by omega, show k + 16 - 15 = k + 1 by omega, show k + 16 - 16 = k by omega]
  simp
theorem mul24 {x : Nat} (h : x < 256) : x * 16777216 < 4294967296 := by omega
theorem mul16 {x : Nat} (h : x < 256) : x * 65536 < 4294967296 := by omega
theorem mul8 {x : Nat} (h : x < 256) : x * 256 < 4294967296 := by omega
theorem be4_val {b : List Nat} (h : ∀ x ∈ b, x < 256) (k : Nat) :
    Value.int .u32 (bits .or .u32 (bits .or .u32 (bits .or .u32 (((b.getD (4 * k) 0 : Nat) : Int) * 16777216) (((b.getD (4 * k + 1) 0 : Nat) : Int) * 65536)) (((b.getD (4 * k + 2) 0 : Nat) : Int) * 256)) ((b.getD (4 * k + 3) 0 : Nat) : Int)) = .int .u32 ((be4 b k : Nat) : Int) := by
  have b0 := getD_lt h (by decide) (4 * k)
  have b1 := getD_lt h (by decide) (4 * k + 1)
  have b2 := getD_lt h (by decide) (4 * k + 2)
  have b3 := getD_lt h (by decide) (4 * k + 3)
  unfold be4
  have c0 := mul24 b0
  have c1 := mul16 b1
  have c2 := mul8 b2
  rw [Nat.mod_eq_of_lt c0, Nat.mod_eq_of_lt c1, Nat.mod_eq_of_lt c2]
  generalize b.getD (4 * k) 0 = x0 at *
  generalize b.getD (4 * k + 1) 0 = x1 at *
  generalize b.getD (4 * k + 2) 0 = x2 at *
  generalize b.getD (4 * k + 3) 0 = x3 at *
  have d0 : (x0 : Int) * 16777216 = ((x0 * 16777216 : Nat) : Int) := by simp
  have d1 : (x1 : Int) * 65536 = ((x1 * 65536 : Nat) : Int) := by simp
  have d2 : (x2 : Int) * 256 = ((x2 * 256 : Nat) : Int) := by simp
  have c3 : x3 < 4294967296 := by omega
  rw [d0, d1, d2]
  rw [u32_or_nat _ _ c0 c1, u32_or_nat _ _ (or_lt c0 c1) c2, u32_or_nat _ _ (or_lt (or_lt c0 c1) c2) c3]

attribute [local go_sem ↓] Go.wp_at_zero Go.wp_at_succ
set_option maxHeartbeats 2000000 in
theorem spread_any (b : List Nat) (w : World) (hb : b.length = 64) (h8 : ∀ x ∈ b, x < 256) :
    Calls Tryd.prog 50 #[.agg (u8s b).toArray] w fun e w' => e = .returned (.agg (u32s (words b)).toArray) ∧ Below w.heap.size w w' := by
  go_enter Tryd.func50, Tryd.ntmps50
  go_wp2_with fail
  go_loopw [7] (fun i wr => ∃ k : Nat, k ≤ 16 ∧ i = .int .i64 k ∧ Mem w.heap.size b (wfirst b k) w wr) (fun i _ => 16 - (intOf i).toNat)
  case atStart =>
    refine ⟨0, Nat.zero_le _, rfl, ?_⟩
    refine ⟨?_, ?_, ?_, ((((Below.refl _ _).alloc (Nat.le_refl _) _).alloc (by simp) _).alloc (by simp; omega) _)⟩
    · exact (heap_alloc3 w _ _ _).1
    · exact (heap_alloc3 w _ _ _).2.1
    · exact (heap_alloc3 w _ _ _).2.2
  case round =>
    obtain ⟨k, hk, rfl, hm⟩ := hrel
    by_cases hlt : k < 16
    · have HM := Lib.hid hm
      clear hm
      have hsl := slice_blk w.heap.size k hlt wr
      go_wp2_with fail
      have hc0 := (cell_of_row wr w.heap.size (4 * k) _ _ _ HM.out.blk).trans (u8s_at (l := b) (i := 4 * k) (by omega))
      have hc1 := (cell_of_row wr w.heap.size (4 * k + 1) _ _ _ HM.out.blk).trans (u8s_at (l := b) (i := 4 * k + 1) (by omega))
      have hc2 := (cell_of_row wr w.heap.size (4 * k + 2) _ _ _ HM.out.blk).trans (u8s_at (l := b) (i := 4 * k + 2) (by omega))
      have hc3 := (cell_of_row wr w.heap.size (4 * k + 3) _ _ _ HM.out.blk).trans (u8s_at (l := b) (i := 4 * k + 3) (by omega))
      have b0 := getD_lt h8 (by decide) (4 * k)
      have b1 := getD_lt h8 (by decide) (4 * k + 1)
      have b2 := getD_lt h8 (by decide) (4 * k + 2)
      have b3 := getD_lt h8 (by decide) (4 * k + 3)
      have HV := Lib.hid (be4_val h8 k)
      generalize b.getD (4 * k) 0 = x0 at hc0 b0 HV
      generalize b.getD (4 * k + 1) 0 = x1 at hc1 b1 HV
      generalize b.getD (4 * k + 2) 0 = x2 at hc2 b2 HV
      generalize b.getD (4 * k + 3) 0 = x3 at hc3 b3 HV
      have hi0 : (0 : Int) ≤ (k : Int) := by omega
      have hi1 : (k : Int) < 64 := by omega
      go_still_tail 24, (by kernel_rfl)
      change wpList _ _ _ _ _ wr.drew
      have hcs : wr.cell? ⟨w.heap.size + 1 + 1, k, none⟩ = some (.int .u32 ((pad 64 (wfirst b k)).getD k 0 : Nat)) := (cell_of_row wr (w.heap.size + 2) k _ _ _ HM.out.row).trans (u32s_at (by rw [pad_length (by rw [wfirst_length]; omega)]; omega))
      have hfs : wr.frozen? ⟨w.heap.size + 1 + 1, k, none⟩ = false := frozen_of_row wr (w.heap.size + 2) k _ _ HM.out.row
      go_wp2
      go_roundw
      case rel =>
        refine ⟨k + 1, by omega, by go_num, ?_⟩
        rw [HV.out, wfirst]
        have := HM.out.alone (by rw [wfirst_length]; omega) (be4 b k)
        rw [wfirst_length] at this
        exact this.drewN 1
      case measure => simp [intOf]; omega
    · have e : k = 16 := by omega
      rw [e] at hm
      have HM := Lib.hid hm
      have hge : 16 ≤ k := by omega
      clear hm hlt e
      go_wp2_with fail
      go_loopw [6] (fun i wr => ∃ k : Nat, k ≤ 48 ∧ i = .int .i64 (k + 16) ∧ Mem w.heap.size b (wext (wfirst b 16) k) w wr) (fun i _ => 64 - (intOf i).toNat)
      case atStart => exact ⟨0, Nat.zero_le _, rfl, HM.out⟩
      case round =>
        obtain ⟨j, hj, rfl, hm⟩ := hrel
        by_cases hlt : j < 48
        · have hi0 : (0 : Int) ≤ (j : Int) + 16 := by omega
          have hi1 : (j : Int) + 16 < 64 := by omega
          have HM := Lib.hid hm
          clear hm
          have hi2 : (j : Int) + 14 < 64 := by omega
          have hi3 : (j : Int) + 9 < 64 := by omega
          have hi4 : (j : Int) + 1 < 64 := by omega
          have hi5 : (j : Int) < 64 := by omega
          have hi6 : (0 : Int) ≤ (j : Int) + 14 := by omega
          have hi7 : (0 : Int) ≤ (j : Int) + 9 := by omega
          have hi8 : (0 : Int) ≤ (j : Int) + 1 := by omega
          have hi9 : (0 : Int) ≤ (j : Int) := by omega
          have hl : (wext (wfirst b 16) j).length = j + 16 := by rw [wext_length, wfirst_length]; omega
          have hlt32 := wext_lt (wfirst_lt h8 16) j
          have HN := Lib.hid (show wext (wfirst b 16) (j + 1) = wext (wfirst b 16) j ++ [wnext (wext (wfirst b 16) j)] from rfl)
          generalize wext (wfirst b 16) j = l at HM HN hl hlt32
          have row := HM.out.row
          have x0 := (cell_of_row wr (w.heap.size + 2) (j + 14) _ _ _ row).trans (u32s_at (l := pad 64 l) (by rw [pad_length (by omega)]; omega))
          have x1 := (cell_of_row wr (w.heap.size + 2) (j + 9) _ _ _ row).trans (u32s_at (l := pad 64 l) (by rw [pad_length (by omega)]; omega))
          have x2 := (cell_of_row wr (w.heap.size + 2) (j + 1) _ _ _ row).trans (u32s_at (l := pad 64 l) (by rw [pad_length (by omega)]; omega))
          have x3 := (cell_of_row wr (w.heap.size + 2) j _ _ _ row).trans (u32s_at (l := pad 64 l) (by rw [pad_length (by omega)]; omega))
          have x4 := (cell_of_row wr (w.heap.size + 2) (j + 16) _ _ _ row).trans (u32s_at (l := pad 64 l) (by rw [pad_length (by omega)]; omega))
          have x5 : wr.frozen? ⟨w.heap.size + 1 + 1, j + 16, none⟩ = false := frozen_of_row wr (w.heap.size + 2) (j + 16) _ _ row
          rw [pad_getD (by omega)] at x0 x1 x2 x3
          generalize (pad 64 l).getD (j + 16) 0 = v4 at x4
          have y0 := getD_lt hlt32 (by decide) (j + 14)
          have y1 := getD_lt hlt32 (by decide) (j + 9)
          have y2 := getD_lt hlt32 (by decide) (j + 1)
          have y3 := getD_lt hlt32 (by decide) j
          have HL := Lib.hid hl
          have HV := Lib.hid (wnext_val hl)
          clear row hl hlt32
          generalize l.getD (j + 14) 0 = v0 at x0 y0 HV
          generalize l.getD (j + 9) 0 = v1 at x1 y1 HV
          generalize l.getD (j + 1) 0 = v2 at x2 y2 HV
          generalize l.getD j 0 = v3 at x3 y3 HV
          clear hi0
          have hi0 : (0 : Int) ≤ (j : Int) + 16 := by omega
          go_wp2_with fail
          have e0 : IntKind.i64.wrap ((j : Int) + 16 - 2) = (j : Int) + 14 := by rw [IntWalk.i64_in _ (by omega)]; omega
          have e1 : IntKind.i64.wrap ((j : Int) + 16 - 7) = (j : Int) + 9 := by rw [IntWalk.i64_in _ (by omega)]; omega
          have e2 : IntKind.i64.wrap ((j : Int) + 16 - 15) = (j : Int) + 1 := by rw [IntWalk.i64_in _ (by omega)]; omega
          have e3 : IntKind.i64.wrap ((j : Int) + 16 - 16) = (j : Int) := by rw [IntWalk.i64_in _ (by omega)]; omega
          have e4 : IntKind.i64.wrap (j : Int) = (j : Int) := by rw [IntWalk.i64_in _ (by omega)]
          have f0 : ((j : Int) + 14).toNat = j + 14 := by omega
          have f1 : ((j : Int) + 9).toNat = j + 9 := by omega
          have f2 : ((j : Int) + 1).toNat = j + 1 := by omega
          have f3 : ((j : Int) + 16).toNat = j + 16 := by omega
          go_region_held3 (fun w' => w'.cell? ⟨w.heap.size + 1 + 1, j + 14, none⟩ = some (.int .u32 (v0 : Int)) ∧ w'.cell? ⟨w.heap.size + 1 + 1, j + 9, none⟩ = some (.int .u32 (v1 : Int)) ∧ w'.cell? ⟨w.heap.size + 1 + 1, j + 1, none⟩ = some (.int .u32 (v2 : Int)) ∧ w'.cell? ⟨w.heap.size + 1 + 1, j, none⟩ = some (.int .u32 (v3 : Int)))
            (first | go_keep | (refine ⟨keep_cell (by omega) ?_, keep_cell (by omega) ?_, keep_cell (by omega) ?_, keep_cell (by omega) ?_⟩ <;> go_keep))
            (first | (go_at_call 53; refine (ssig1_any _ _ ?_).mono ?_; (simp [*]); rintro e w' ⟨rfl, kk, rfl⟩) | (go_at_call 54; refine (ssig0_any _ _ ?_).mono ?_; (simp [*]); rintro e w' ⟨rfl, kk, rfl⟩))
          rename_i kk1 hHeld
          clear hHeld e0 e1 e2 e3 e4 f0 f1 f2 f3 x0 x1 x2 x3
          go_wp2_with fail
          go_roundw
          case rel =>
            refine ⟨j + 1, by omega, by go_num, ?_⟩
            rw [HV.out, HN.out]
            have := (HM.out.drewN (1 + kk1 + kk)).alone (by rw [HL.out]; omega) (wnext l)
            rw [HL.out] at this
            exact this
          case measure => simp only [intOf]; omega
        · have e : j = 48 := by omega
          rw [e] at hm
          have HM := Lib.hid (show Mem w.heap.size b (words b) w wr from hm)
          have hge : 48 ≤ j := by omega
          clear hm hlt e
          go_upto_region 12 with (fail)
          have hrow := HM.out.row
          have hres := HM.out.res
          have hlen := words_length b
          rw [pad_full hlen] at hrow
          have hsz : (u32s (words b)).toArray.size = 64 := by simp [u32s, hlen]
          have hth : wr.there (w.heap.size + 1) 0 (u32s (words b)).toArray.size := there_of_block hres 0 _ (by rw [hsz]; decide)
          have hend : ((wr.setCells (w.heap.size + 1) 0 (u32s (words b)).toArray.toList).heap[w.heap.size + 1]? = some (.cells (u32s (words b)).toArray 116 (0, 0))) := by
            have := heap_setCells (w.heap.size + 1) 116 (0, 0) (u32s (words b)) 0 wr _ hres (by rw [u32s_length, u32s_length, pad_length (by decide), hlen]; decide)
            rw [this]
            simp [u32s_length, hlen, pad]
          have HE := Lib.hid hend
          clear hend hres
          refine wp_region_lit ?_
          refine wpList_load_row rfl 116 _ rfl (w.heap.size + 2) rfl 116 _ _ _ hrow Tryd.underlying116 rfl (by rw [hsz]; kernel_rfl) ?_
          refine wpList_store_mid rfl 116 _ _ rfl (w.heap.size + 1) 0 _ rfl rfl hth (by rw [hsz]; kernel_rfl) (u32s_cells _) ?_
          clear hrow hth
          generalize hwz : wr.setCells (w.heap.size + 1) 0 (u32s (words b)).toArray.toList = wz at HE
          have HW := Lib.hid hwz
          clear hwz
          go_wp2_with fail
          exact bodyPost_ret (v := .agg (u32s (words b)).toArray) (results_cell_row rfl _ _ (w.heap.size + 1) 116 _ (0, 0) _ rfl HE.out Tryd.underlying116 rfl (by rw [hsz]; kernel_rfl)) rfl ⟨rfl, by rw [← HW.out]; exact below_setCells _ (Nat.le_succ _) _ _ _ HM.out.old⟩
end Sha
end Go.Proofs.YtoiidedigbfnaaaDoor
/- 'take' of package hash adds the bytes of a part to a sum. -/
set_option maxRecDepth 100000
namespace Go.Proofs.YtoiidedigbfnaaaDoor
open Go.RowKit
namespace Sha

def sumCells (st blk : List Nat) (len : Nat) : List Value := u32s st ++ (u8s blk ++ [.int .u64 (len : Int)])
structure SumIs (w : World) (b : Nat) (m blk : List Nat) : Prop where
  row : w.heap[b]? = some (.cells (sumCells (stOf m).list blk m.length).toArray 110 (0, 0))
  inv : Inv m blk
/-- Block b is the sum of the text m. -/
def SumAt (w : World) (b : Nat) (m : List Nat) : Prop := ∃ blk, SumIs w b m blk
/-- v is a slice of the bytes xs, none of them in block b. -/
def BytesAt (w : World) (b : Nat) (v : Value) (xs : List Nat) : Prop :=
  ∃ ad cap, v = .slice ad xs.length cap ∧ xs.length ≤ cap ∧ (xs = [] ∨ ∃ g off, ad = some ⟨g, off, none⟩ ∧ g ≠ b ∧ ∀ j, j < xs.length → w.cell? ⟨g, off + j, none⟩ = some (.int .u8 ((xs.getD j 0 : Nat) : Int)))
def sliceLen : Value → Nat | .slice _ n _ => n | _ => 0

theorem cell_len {w : World} {b : Nat} {m blk : List Nat} (h : SumIs w b m blk) : w.cell? ⟨b, 72, none⟩ = some (.int .u64 (m.length : Int)) := by
  have := h.inv.len
  rw [cell_of_row w b 72 _ _ _ h.row]
  simp [sumCells, u32s, u8s, St.list, this]

theorem drop_take_add (xs : List Nat) (k n : Nat) : (xs.drop k).take n = (xs.take (k + n)).drop k := by
  rw [List.drop_take]; congr 1; omega

theorem slice_from (b p : Nat) (hp : p < 64) (w : World) :
    (Instr.sliceAt 98 (.pointer (some ⟨b, 8, none⟩)) (some (.int .u64 (p : Int))) none none).run Tryd.prog w = .ok (.slice (some ⟨b, 8 + p, none⟩) (64 - p) (64 - p)) w := by
  have hs : ((sizeOf (Tryd.prog.elem 98)).run Tryd.prog w) = .ok 1 w := by kernel_rfl
  rw [run_sliceAt_array_l (P := Tryd.prog) w 98 _ arr_blk _ _ (by omega) (by rw [len_blk]; omega), len_blk, hs]
  simp only [Result.andThen, slicedAt, Addr.add]
  rw [if_neg (by omega)]
  simp
theorem sum_laid {st m blk l : List Nat} {L : Nat} (hst : st.length = 8) (h : Inv m blk) (hl : m.length % 64 + l.length ≤ 64) :
    (sumCells st blk L).toArray.toList.take (8 + m.length % 64) ++ (u8s l ++ (sumCells st blk L).toArray.toList.drop (8 + m.length % 64 + l.length)) = sumCells st (laid m blk l) L := by
  have hb := h.len
  have e1 : (u32s st).length = 8 := by rw [u32s_length, hst]
  have e2 : (u8s blk).length = 64 := by rw [u8s_length, hb]
  have t1 : (sumCells st blk L).take (8 + m.length % 64) = u32s st ++ (u8s blk).take (m.length % 64) := by
    rw [sumCells, ← e1, List.take_length_add_append, List.take_append_of_le_length (by omega)]
  have t2 : (sumCells st blk L).drop (8 + m.length % 64 + l.length) = (u8s blk).drop (m.length % 64 + l.length) ++ [.int .u64 (L : Int)] := by
    rw [sumCells, Nat.add_assoc, ← e1, List.drop_length_add_append, List.drop_append_of_le_length (by omega)]
  show (sumCells st blk L).take (8 + m.length % 64) ++ (u8s l ++ (sumCells st blk L).drop (8 + m.length % 64 + l.length)) = _
  rw [t1, t2, sumCells, laid]
  simp [u8s]

theorem copy_law {ops : Array Oper} {rest : List Oper} {o : Oper} {a : Act} {Q : Exit → Act → World → Prop} {w : World} {b g off p n cap : Nat} {m blk ys : List Nat}
    (hgd : o.guard = none) (d s : Operand) (ho : o.op = .call { callee := .builtin .copy, args := #[d, s], argTypes := #[22, 22] })
    (hd : a.eval d = .slice (some ⟨b, 8 + p, none⟩) (64 - p) (64 - p)) (hs : a.eval s = .slice (some ⟨g, off, none⟩) ys.length cap)
    (hR : SumIs w b m blk) (hp : p = m.length % 64) (hn : n = min ys.length (64 - p)) (hc : ∀ j, j < ys.length → w.cell? ⟨g, off + j, none⟩ = some (.int .u8 ((ys.getD j 0 : Nat) : Int)))
    (h : ∀ w1, w1.heap[b]? = some (.cells (sumCells (stOf m).list (laid m blk (ys.take n)) m.length).toArray 110 (0, 0)) → w.grownBy w1 (some b) → wpList Tryd.prog ops Q rest (a.put o.dst (.int .i64 (n : Int))) w1) :
    wpList Tryd.prog ops Q (o :: rest) a w := by
  have hp64 : p < 64 := by omega
  have hnl : (ys.take n).length = n := by rw [List.length_take]; omega
  have hcl : (u8s (ys.take n)).length = n := by rw [u8s_length, hnl]
  have hb := hR.inv.len
  refine wpList_copy_own hgd d s 22 22 ho 5 Tryd.underlying22 (by kernel_rfl) b (8 + p) (64 - p) (64 - p) ⟨g, off, none⟩ ys.length cap hd hs _ 110 hR.row (u8s (ys.take n)) ?_ ?_ ?_ ?_ ?_
  · rw [hcl, hn]
  · intro j v hj
    have hjl : j < (u8s (ys.take n)).length := by
      rcases Nat.lt_or_ge j (u8s (ys.take n)).length with h' | h'
      · exact h'
      · simp [h'] at hj
    rw [hcl] at hjl
    have hjy : j < ys.length := by omega
    rw [Addr.add_mid, hc j hjy, ← hj]
    simp [u8s, hjl, hjy]
  · rw [hcl]; simp [sumCells, u32s, u8s, St.list, hb]; omega
  · exact u8s_one _
  · rw [show goInt (u8s (ys.take n)).length = .int .i64 (n : Int) by rw [hcl]; rfl]
    refine h _ ?_ (gsetRow _ _ _)
    rw [setRow_heap w b _ _ 110 _ hR.row, hp, ← sum_laid (by rfl) hR.inv (l := ys.take n) (by omega), hnl, hcl]

/-- What is left of a part behind n of its bytes. -/
def rest (g off n Y cap : Nat) : Value := .slice (if cap = n then some ⟨g, off, none⟩ else some ⟨g, off + n, none⟩) (Y - n) (cap - n)
theorem run_rest (g off n Y cap : Nat) (hn : n ≤ Y) (w : World) :
    (Instr.sliceAt 22 (.slice (some ⟨g, off, none⟩) Y cap) (some (.int .i64 (n : Int))) none none).run Tryd.prog w = .ok (rest g off n Y cap) w := by
  have hu : Tryd.prog.underlying 22 = some (.slice (Tryd.prog.elem 22)) := by kernel_rfl
  have hs : ((sizeOf (Tryd.prog.elem 22)).run Tryd.prog w) = .ok 1 w := by kernel_rfl
  rw [run_sliceAt_slice (P := Tryd.prog) w _ _ _ _ _ hu, run_slice_l (P := Tryd.prog) w _ _ _ _ hu _ _ (by omega) (by omega), hs]
  simp only [Result.andThen, sliced, rest, Addr.add]
  by_cases hc : cap = n <;> simp [hc]
theorem bytes_rest {w : World} {b g off n cap : Nat} {ys : List Nat} (hgb : g ≠ b) (hcap : ys.length ≤ cap) (hn : n ≤ ys.length) (hc : ∀ j, j < ys.length → w.cell? ⟨g, off + j, none⟩ = some (.int .u8 ((ys.getD j 0 : Nat) : Int))) :
    BytesAt w b (rest g off n ys.length cap) (ys.drop n) := by
  refine ⟨_, cap - n, by rw [rest, List.length_drop], by simp; omega, ?_⟩
  by_cases h0 : n = ys.length
  · exact .inl (by simp [h0])
  · refine .inr ⟨g, off + n, by rw [if_neg (by omega)], hgb, fun j hj => ?_⟩
    simp only [List.length_drop] at hj
    rw [Nat.add_assoc, hc (n + j) (by omega)]
    simp [List.getD_eq_getElem?_getD]
theorem sum_len {st blk : List Nat} {L : Nat} (hst : st.length = 8) (hb : blk.length = 64) (v : Nat) :
    (sumCells st blk L).toArray.setIfInBounds 72 (.int .u64 (v : Int)) = (sumCells st blk v).toArray := by
  have e1 : (u32s st).length = 8 := by rw [u32s_length, hst]
  have e2 : (u8s blk).length = 64 := by rw [u8s_length, hb]
  have : (sumCells st blk L).set 72 (.int .u64 (v : Int)) = sumCells st blk v := by
    rw [sumCells, List.set_append_right _ _ (by omega), e1, List.set_append_right _ _ (by omega), e2]; rfl
  simp [this]
theorem bytes_grown {w w1 : World} {b : Nat} {v : Value} {xs : List Nat} (h : BytesAt w b v xs) (hg : w.grownBy w1 (some b)) : BytesAt w1 b v xs := by
  obtain ⟨ad, cap, rfl, hcap, hc⟩ := h
  refine ⟨ad, cap, rfl, hcap, ?_⟩
  rcases hc with h0 | ⟨g, off, rfl, hgb, hc⟩
  · exact .inl h0
  · exact .inr ⟨g, off, rfl, hgb, fun j hj => hg.cell (hc j hj) (by intro e; injection e with e; exact hgb e)⟩

theorem range_set {w : World} {b i : Nat} {v : Value} {cs : List Value} (h : w.rangeAt b 8 cs) (hi : i < 8) : (w.setCell ⟨b, i, none⟩ v).rangeAt b 8 cs := fun j u hj => keep_cell (by omega) (h j u hj)
theorem range_below {w w' : World} {b : Nat} {cs : List Value} (hb : Below w.heap.size w w') (hlt : b < w.heap.size) (h : w.rangeAt b 8 cs) : w'.rangeAt b 8 cs := fun j u hj => (hb.cell (p := ⟨b, 8 + j, none⟩) hlt).trans (h j u hj)
theorem bk {w w' : World} {b : Nat} (hb : Below w.heap.size w w') (hlt : b < w.heap.size) :
    (∀ o, w'.cell? ⟨b, o, none⟩ = w.cell? ⟨b, o, none⟩) ∧ (∀ o, w'.frozen? ⟨b, o, none⟩ = w.frozen? ⟨b, o, none⟩) ∧ b < w'.heap.size :=
  ⟨fun o => hb.cell (p := ⟨b, o, none⟩) hlt, fun o => hb.frozen (p := ⟨b, o, none⟩) hlt, Nat.lt_of_lt_of_le hlt hb.size⟩
theorem sum_stored {w : World} {b L : Nat} {st lb : List Nat} (hst : st.length = 8) (h : w.heap[b]? = some (.cells (sumCells st lb L).toArray 110 (0, 0))) (r1 r2 r3 r4 r5 r6 r7 r8 : Nat) :
    ((((((((w.setCell ⟨b, 0, none⟩ (.int .u32 (r1 : Int))).setCell ⟨b, 1, none⟩ (.int .u32 (r2 : Int))).setCell ⟨b, 2, none⟩ (.int .u32 (r3 : Int))).setCell ⟨b, 3, none⟩ (.int .u32 (r4 : Int))).setCell ⟨b, 4, none⟩ (.int .u32 (r5 : Int))).setCell ⟨b, 5, none⟩ (.int .u32 (r6 : Int))).setCell ⟨b, 6, none⟩ (.int .u32 (r7 : Int))).setCell ⟨b, 7, none⟩ (.int .u32 (r8 : Int))).heap[b]? =
      some (.cells (sumCells [r1, r2, r3, r4, r5, r6, r7, r8] lb L).toArray 110 (0, 0)) := by
  have e1 : (u32s st).length = 8 := by rw [u32s_length, hst]
  have := heap_setCells b 110 (0, 0) (u32s [r1, r2, r3, r4, r5, r6, r7, r8]) 0 w _ h (by simp [sumCells, e1, u32s_length])
  rw [show 0 + (u32s [r1, r2, r3, r4, r5, r6, r7, r8]).length = 8 by rfl, List.take_zero, List.nil_append, sumCells, ← e1, List.drop_left'] at this
  · exact this
  · rfl
theorem grown_stored (w : World) (b r1 r2 r3 r4 r5 r6 r7 r8 : Nat) :
    w.grownBy ((((((((w.setCell ⟨b, 0, none⟩ (.int .u32 (r1 : Int))).setCell ⟨b, 1, none⟩ (.int .u32 (r2 : Int))).setCell ⟨b, 2, none⟩ (.int .u32 (r3 : Int))).setCell ⟨b, 3, none⟩ (.int .u32 (r4 : Int))).setCell ⟨b, 4, none⟩ (.int .u32 (r5 : Int))).setCell ⟨b, 5, none⟩ (.int .u32 (r6 : Int))).setCell ⟨b, 6, none⟩ (.int .u32 (r7 : Int))).setCell ⟨b, 7, none⟩ (.int .u32 (r8 : Int))) (some b) :=
  gsetCells b (u32s [r1, r2, r3, r4, r5, r6, r7, r8]) 0 w
def ptrOf : Value → Addr | .pointer (some a) => a | _ => ⟨0, 0, none⟩
theorem load_blk {d : Option Tmp} {n : Tmp} {ty : TypeId} {pos : String} {af : Array Edge} {a : Act} {w : World} {K : Act → World → Prop} {Q : Exit → Act → World → Prop}
    (hx : a.eval (.tmp n) = .pointer (some ⟨(ptrOf (a.eval (.tmp n))).block, (ptrOf (a.eval (.tmp n))).off, none⟩)) (h : OkRow w (ptrOf (a.eval (.tmp n))).block (ptrOf (a.eval (.tmp n))).off 64) :
    Oper.wp Tryd.prog { dst := d, op := Op.load 98 (.tmp n), type := ty, pos := pos, after := af, guard := none } a w K Q =
      K (a.put d (.agg (rowAt w (ptrOf (a.eval (.tmp n))).block (ptrOf (a.eval (.tmp n))).off 64).toArray)) w := by
  generalize ptrOf (a.eval (.tmp n)) = p at *
  have e := run_loadVar_mid (P := Tryd.prog) w p.block p.off 98 _ _ (rowAt_range h) Tryd.underlying98 rfl (by rw [rowAt_length]; kernel_rfl)
  unfold Oper.wp execOp
  simp only [hx, Instr.loadAt, Instr.sureAddr, Sem.run_bind, Sem.run_pure, Result.andThen_ok, e, Oper.upon]
theorem mixed8 (s1 s2 s3 s4 s5 s6 s7 s8 : Nat) (ws : List Nat) (w : World) (hs : (⟨s1, s2, s3, s4, s5, s6, s7, s8⟩ : St).Ok) (hl : ws.length = 64) (hw : ∀ x ∈ ws, x < 4294967296) :
    Calls Tryd.prog 49 #[.agg #[.int .u32 (s1 : Int), .int .u32 (s2 : Int), .int .u32 (s3 : Int), .int .u32 (s4 : Int), .int .u32 (s5 : Int), .int .u32 (s6 : Int), .int .u32 (s7 : Int), .int .u32 (s8 : Int)], .agg (u32s ws).toArray] w fun e w' =>
      (∃ r1 r2 r3 r4 r5 r6 r7 r8 : Nat, mix ⟨s1, s2, s3, s4, s5, s6, s7, s8⟩ ws = ⟨r1, r2, r3, r4, r5, r6, r7, r8⟩ ∧ e = .returned (.agg #[.int .u32 (r1 : Int), .int .u32 (r2 : Int), .int .u32 (r3 : Int), .int .u32 (r4 : Int), .int .u32 (r5 : Int), .int .u32 (r6 : Int), .int .u32 (r7 : Int), .int .u32 (r8 : Int)])) ∧ Below w.heap.size w w' :=
  (mixed_any ⟨s1, s2, s3, s4, s5, s6, s7, s8⟩ ws w hs hl hw).mono fun _ _ ⟨he, hb⟩ => ⟨⟨_, _, _, _, _, _, _, _, rfl, he⟩, hb⟩

attribute [local go_sem] ptrOf
attribute [local go_sem ↓] Go.wp_at_zero Go.wp_at_succ load_blk
set_option maxRecDepth 100000 in
set_option maxHeartbeats 4000000 in
theorem take_any (b : Nat) (m xs : List Nat) (v : Value) (w : World) (hS : SumAt w b m) (hB : BytesAt w b v xs) (h8 : ∀ x ∈ xs, x < 256) (hm : m.length + xs.length < 1000000000) :
    Calls Tryd.prog 46 #[.pointer (some ⟨b, 0, none⟩), v] w fun e w' => e = .returned (.tuple #[]) ∧ SumAt w' b (m ++ xs) ∧ w.grownBy w' (some b) := by
  go_enter Tryd.func46, Tryd.ntmps46
  go_wp2_with fail
  go_loopw [1] (fun v wr => ∃ k : Nat, k ≤ xs.length ∧ SumAt wr b (m ++ xs.take k) ∧ BytesAt wr b v (xs.drop k) ∧ w.grownBy wr (some b)) (fun v _ => sliceLen v)
  case atStart => exact ⟨0, Nat.zero_le _, by simpa using hS, by simpa using hB, grefl _ _⟩
  case round =>
    obtain ⟨k, hk, ⟨blk, hs⟩, ⟨ad, cap, rfl, hcap, hcells⟩, hg⟩ := hrel
    by_cases hlt : k < xs.length
    · obtain ⟨ys, hys⟩ : ∃ ys, ys = xs.drop k := ⟨_, rfl⟩
      obtain ⟨m', hm'⟩ : ∃ m', m' = m ++ xs.take k := ⟨_, rfl⟩
      have hyl : ys.length = xs.length - k := by rw [hys]; simp
      have hml : m'.length = m.length + k := by rw [hm']; simp; omega
      have hy8 : ∀ x ∈ ys, x < 256 := fun x hx => h8 x (List.mem_of_mem_drop (by rw [← hys]; exact hx))
      rw [← hys] at hcap hcells
      rw [← hm'] at hs
      rw [← hys]
      rcases hcells with h0 | ⟨g, off, rfl, hgb, hcells⟩
      · simp [h0] at hyl; omega
      obtain ⟨p, hp⟩ : ∃ p, p = m'.length % 64 := ⟨_, rfl⟩
      obtain ⟨n, hn⟩ : ∃ n, n = min ys.length (64 - p) := ⟨_, rfl⟩
      have hp64 : p < 64 := by omega
      have hn0 : 0 < n := by omega
      have hn1 : n ≤ ys.length := by omega
      have hn2 : n ≤ 64 - p := by omega
      have HSL := Lib.hid (fun wx => slice_from b p hp64 wx)
      have HCL := Lib.hid (cell_len hs)
      have hm64 : ((m'.length : Nat) : Int) % 64 = (p : Int) := by omega
      have HR := Lib.hid hs
      have HC := Lib.hid hcells
      have HN := Lib.hid (show n = min ys.length (64 - p) from hn)
      have HP := Lib.hid hp
      have HY := Lib.hid hys
      have HM := Lib.hid hm'
      have HG := Lib.hid hg
      have HL := Lib.hid hyl
      have HML := Lib.hid hml
      have hbL : (m'.length : Int) < 1000000000 := by omega
      have hbY : (ys.length : Int) < 1000000000 := by omega
      have hbY0 : (0 : Int) < (ys.length : Int) := by omega
      have H8 := Lib.hid hy8
      clear hs hcells hn hp hys hm' hg hyl hml hy8 hm h8
      generalize hLL : m'.length = L at *
      generalize hYY : ys.length = Y at *
      have HLL := Lib.hid hLL
      have HYY := Lib.hid hYY
      have hq : 0 < Y := by omega
      have HM64 := Lib.hid hm64
      have HBY := Lib.hid hbY
      have HBL := Lib.hid hbL
      have HGB := Lib.hid hgb
      have HCAP := Lib.hid hcap
      have HK := Lib.hid (show k < xs.length from hlt)
      clear hLL hYY hlt hk hgb hbY0 hm64 hbY hbL hcap
      go_wp2_with fail
      have hcl := HCL.out
      have hsl := HSL.out
      have hm64 : ((L : Int)).tmod 64 = (p : Int) := by rw [Int.tmod_eq_emod_of_nonneg (by omega)]; exact HM64.out
      go_still_tail 10, (by kernel_rfl)
      change wpList _ _ _ _ _ wr.drew
      clear hcl hsl hm64
      refine copy_law rfl (.tmp 16) (.tmp 17) rfl rfl (by rw [HYY.out]; rfl) (n := n) (ys := ys) (m := m') (blk := blk) (p := p) ⟨HR.out.row, HR.out.inv⟩ (by rw [HLL.out]; exact HP.out) (by rw [HYY.out]; exact HN.out) (by rw [HYY.out]; exact HC.out) ?_
      intro w1 hr1 hg1
      have hb := laid_length HR.out.inv (l := ys.take n) (by rw [List.length_take, HLL.out, HYY.out, ← HP.out]; omega)
      have c72 : w1.cell? ⟨b, 72, none⟩ = some (.int .u64 (L : Int)) := by
        rw [cell_of_row w1 b 72 _ _ _ hr1, ← HLL.out]; simp [sumCells, u32s, u8s, St.list, hb]
      have f72 : w1.frozen? ⟨b, 72, none⟩ = false := frozen_of_row w1 b 72 _ _ hr1
      have hsl := run_rest g off n Y cap hn1 w1
      have R1 := Lib.hid hr1
      have G1 := Lib.hid (gtrans (gdrewN wr 1 (some b)) hg1)
      have HB := Lib.hid hb
      have hLb : (L : Int) + (n : Int) < 18446744073709551616 := by have := HBL.out; omega
      clear hr1 hg1 hb
      go_upto_region 4 with (fail)
      have hr2 : (w1.setCell ⟨b, 72, none⟩ (.int .u64 ((L : Int) + (n : Int)))).heap[b]? = some (.cells (sumCells (stOf m').list (laid m' blk (ys.take n)) (L + n)).toArray 110 (0, 0)) := by
        rw [heap_setCell_same w1 b 72 _ _ _ R1.out, show (L : Int) + (n : Int) = ((L + n : Nat) : Int) by simp, sum_len (by rfl) HB.out]
      have hg2 := gtrans G1.out (gsetCell w1 b 72 (.int .u64 ((L : Int) + (n : Int))))
      clear R1 G1 c72 f72 hsl
      generalize w1.setCell ⟨b, 72, none⟩ (.int .u64 ((L : Int) + (n : Int))) = w2 at hr2 hg2
      have hnl : (ys.take n).length = n := by rw [List.length_take, HYY.out]; omega
      have hm2 : (m' ++ ys.take n).length = L + n := by rw [List.length_append, HLL.out, hnl]
      have ht8 : ∀ x ∈ ys.take n, x < 256 := fun x hx => H8.out x (List.mem_of_mem_take hx)
      have hpn : m'.length % 64 + (ys.take n).length = p + n := by rw [HLL.out, hnl, ← HP.out]
      have hrel : ∀ w3, SumAt w3 b (m' ++ ys.take n) → w2.grownBy w3 (some b) →
          ∃ k2, k2 ≤ xs.length ∧ SumAt w3 b (m ++ xs.take k2) ∧ BytesAt w3 b (rest g off n Y cap) (xs.drop k2) ∧ w.grownBy w3 (some b) := by
        intro w3 h3 g3
        refine ⟨k + n, by have := HL.out; omega, ?_, ?_, gtrans HG.out (gtrans hg2 g3)⟩
        · rw [show m ++ xs.take (k + n) = m' ++ ys.take n by rw [HM.out, HY.out, List.append_assoc, List.take_add]]; exact h3
        · rw [← List.drop_drop, ← HY.out]
          have := bytes_rest (w := wr) (b := b) (g := g) (off := off) (n := n) (cap := cap) (ys := ys) HGB.out (by rw [HYY.out]; exact HCAP.out) (by rw [HYY.out]; exact hn1) (by rw [HYY.out]; exact HC.out)
          rw [HYY.out] at this
          exact bytes_grown this (gtrans hg2 g3)
      have HREL := Lib.hid hrel
      have R2 := Lib.hid hr2
      have c72 : w2.cell? ⟨b, 72, none⟩ = some (.int .u64 ((L : Int) + (n : Int))) := by
        rw [cell_of_row w2 b 72 _ _ _ hr2]; simp [sumCells, u32s, u8s, St.list, HB.out]
      by_cases hfull : p + n = 64
      · have hbit : (((L : Int) + (n : Int)) % 64 == 0) = true := by have := HP.out; simp; omega
        have HF := Lib.hid (step_full HR.out.inv ht8 (by rw [hpn]; exact hfull))
        have HM2 := Lib.hid hm2
        clear hrel hr2 hg2 hnl hm2 ht8 hpn hfull
        go_upto_region 5 with (fail)
        have hlb := HB.out
        have hl8 := laid_small HR.out.inv (l := ys.take n) (fun x hx => H8.out x (List.mem_of_mem_take hx))
        generalize laid m' blk (ys.take n) = lb at R2 HF hlb hl8 HB
        have hok := stOf_ok m'
        generalize stOf m' = st at R2 HF hok
        obtain ⟨s1, s2, s3, s4, s5, s6, s7, s8⟩ := st
        have hu := Tryd.underlying98
        have hi : (Tryd.prog.info? 98).map (·.size) = some (u8s lb).length := by rw [u8s_length, hlb]; kernel_rfl
        have hcl : (u8s lb).length = 64 := by rw [u8s_length, hlb]
        have h1c := u8s_one lb
        have q0 : w2.cell? ⟨b, 0, none⟩ = some (.int .u32 (s1 : Int)) := cell_of_row w2 b 0 _ _ _ R2.out
        have q1 : w2.cell? ⟨b, 1, none⟩ = some (.int .u32 (s2 : Int)) := cell_of_row w2 b 1 _ _ _ R2.out
        have q2 : w2.cell? ⟨b, 2, none⟩ = some (.int .u32 (s3 : Int)) := cell_of_row w2 b 2 _ _ _ R2.out
        have q3 : w2.cell? ⟨b, 3, none⟩ = some (.int .u32 (s4 : Int)) := cell_of_row w2 b 3 _ _ _ R2.out
        have q4 : w2.cell? ⟨b, 4, none⟩ = some (.int .u32 (s5 : Int)) := cell_of_row w2 b 4 _ _ _ R2.out
        have q5 : w2.cell? ⟨b, 5, none⟩ = some (.int .u32 (s6 : Int)) := cell_of_row w2 b 5 _ _ _ R2.out
        have q6 : w2.cell? ⟨b, 6, none⟩ = some (.int .u32 (s7 : Int)) := cell_of_row w2 b 6 _ _ _ R2.out
        have q7 : w2.cell? ⟨b, 7, none⟩ = some (.int .u32 (s8 : Int)) := cell_of_row w2 b 7 _ _ _ R2.out
        have f0 : w2.frozen? ⟨b, 0, none⟩ = false := frozen_of_row w2 b 0 _ _ R2.out
        have f1 : w2.frozen? ⟨b, 1, none⟩ = false := frozen_of_row w2 b 1 _ _ R2.out
        have f2 : w2.frozen? ⟨b, 2, none⟩ = false := frozen_of_row w2 b 2 _ _ R2.out
        have f3 : w2.frozen? ⟨b, 3, none⟩ = false := frozen_of_row w2 b 3 _ _ R2.out
        have f4 : w2.frozen? ⟨b, 4, none⟩ = false := frozen_of_row w2 b 4 _ _ R2.out
        have f5 : w2.frozen? ⟨b, 5, none⟩ = false := frozen_of_row w2 b 5 _ _ R2.out
        have f6 : w2.frozen? ⟨b, 6, none⟩ = false := frozen_of_row w2 b 6 _ _ R2.out
        have f7 : w2.frozen? ⟨b, 7, none⟩ = false := frozen_of_row w2 b 7 _ _ R2.out
        have hrg : w2.rangeAt b 8 (u8s lb) := by
          intro j v hj
          have hjl : j < 64 := by
            rcases Nat.lt_or_ge j 64 with h' | h'
            · exact h'
            · rw [List.getElem?_eq_none (by omega)] at hj; cases hj
          rw [cell_of_row w2 b (8 + j) _ _ _ R2.out]
          have e1 : (u32s (St.list ⟨s1, s2, s3, s4, s5, s6, s7, s8⟩)).length = 8 := rfl
          rw [List.getElem?_toArray, sumCells, List.getElem?_append_right (by omega), e1, Nat.add_sub_cancel_left, List.getElem?_append_left (by omega)]
          exact hj
        have hbl : b < w2.drew.heap.size := lt_of_heap R2.out
        have hok1 : OkRow w2.drew b 8 64 := okRow_of (w := w2.drew) hrg hcl
        have hrow1 : rowAt w2.drew b 8 64 = u8s lb := rowAt_eq (w := w2.drew) hrg hcl
        clear hrg h1c hu hi hcl hlb
        go_region_with (first | (go_at_call 50; refine (spread_any lb _ HB.out hl8).mono ?_; rintro e w' ⟨rfl, hb3⟩; obtain ⟨hc3, hf3, hl3⟩ := bk hb3 (by assumption)) | (go_at_call 49; refine (mixed8 s1 s2 s3 s4 s5 s6 s7 s8 (words lb) _ hok (words_length lb) (words_lt hl8)).mono ?_; rintro e w' ⟨⟨r1, r2, r3, r4, r5, r6, r7, r8, hmx, rfl⟩, hb4⟩; have HMX := Lib.hid hmx; clear hmx; obtain ⟨hc4, hf4, hl4⟩ := bk hb4 (by assumption)))
        all_goals
          have hr4 := (hb4.block b hl3).trans ((hb3.block b hbl).trans R2.out)
          have HS := Lib.hid (sum_stored (by rfl) hr4 r1 r2 r3 r4 r5 r6 r7 r8)
          have HGR := Lib.hid (gtrans (gdrewN w2 1 (some b)) (gtrans (gbelow hb3 (some b)) (gtrans (gbelow hb4 (some b)) (grown_stored _ b r1 r2 r3 r4 r5 r6 r7 r8))))
          clear hr4 hb3 hc3 hf3 hl3 hb4 hc4 hf4 hl4 q0 q1 q2 q3 q4 q5 q6 q7 f0 f1 f2 f3 f4 f5 f6 f7 hbl hok1 hrow1 hbit
          go_roundw
          case rel =>
            repeat apply Exists.intro
            refine ⟨HREL.out _ ⟨lb, ?_, HF.out.2⟩ HGR.out, rfl⟩
            rw [HF.out.1, HM2.out, HMX.out]
            exact HS.out
          case measure => simp [sliceLen, rest]; omega
      · have hbit : (((L : Int) + (n : Int)) % 64 == 0) = false := by have := HP.out; simp; omega
        have HF := Lib.hid (step_part HR.out.inv ht8 (by rw [hpn]; omega))
        have HM2 := Lib.hid hm2
        clear hrel hr2 hg2 hnl hm2 ht8 hpn hfull
        go_wp2_with fail
        go_roundw
        case rel =>
          refine HREL.out _ ⟨_, ?_, HF.out.2⟩ (grefl _ _)
          rw [HF.out.1, HM2.out]
          exact R2.out
        case measure => simp [sliceLen, rest]; omega
    · have e : xs.take k = xs := List.take_of_length_le (by omega)
      rw [e] at hs
      have HR := Lib.hid hs
      have HG := Lib.hid hg
      clear hs hg hcells e
      go_wp2_with fail
      go_end0
      exact ⟨rfl, ⟨blk, HR.out⟩, HG.out⟩
end Sha
end Go.Proofs.YtoiidedigbfnaaaDoor
/- 'filling' of package hash: what stands behind a text. -/
set_option maxRecDepth 100000
namespace Go.Proofs.YtoiidedigbfnaaaDoor
open Go.RowKit
namespace Sha
theorem info5 : (Tryd.prog.info? 5).map (fun i => (i.zero, i.size, i.bytes)) = some (some (.int .u8 0), 1, 1) := by kernel_rfl
theorem make_fill (w : World) (z : Nat) (hz : z < 64) : ∃ w1, (Instr.makeSlice 22 (.int .u64 (1 + (z : Int))) (.int .i64 128)).run Tryd.prog w = .ok (.slice (some ⟨w.heap.size, 0, none⟩) (1 + z) 128) w1 ∧
    w1.heap[w.heap.size]? = some (.cells (u8s (List.replicate 128 0)).toArray 5 (0, 0)) ∧ Below w.heap.size w w1 := by
  obtain ⟨i0, hi, hz0, hz1, hz2⟩ := info_parts info5
  have hr := run_make w 22 5 i0 (.int .u8 0) Tryd.underlying22 hi hz0 .u64 .i64 (1 + (z : Int)) 128 (by omega) (by omega) (by rw [hz2]; decide) (by decide)
  have h1 : (1 + (z : Int)).toNat = 1 + z := by omega
  rw [h1, hz1] at hr
  have hc : madeCells (Value.int .u8 0).cells (Int.toNat 128 * 1) = (u8s (List.replicate 128 0)).toArray := by kernel_rfl
  rw [hc] at hr
  exact ⟨_, hr, heap_alloc_new w _, (Below.refl _ _).alloc (Nat.le_refl _) _⟩
theorem u8s_rep (n x : Nat) : u8s (List.replicate n x) = List.replicate n (.int .u8 (x : Int)) := by simp [u8s]
theorem lenByte (n : Nat) : ∀ i, i < 8 → n * 8 / 2 ^ (56 - 8 * i) % 256 = (lenBytes n).getD i 0
  | 0, _ => rfl | 1, _ => rfl | 2, _ => rfl | 3, _ => rfl | 4, _ => rfl | 5, _ => rfl | 6, _ => rfl | 7, _ => by simp [lenBytes]
  | k + 8, h => by omega

set_option maxRecDepth 100000 in
set_option maxHeartbeats 1000000 in
theorem filling_any (n : Nat) (w : World) (hn : n < 2000000000) :
    Calls Tryd.prog 47 #[.int .u64 n] w fun e w' => (∃ c, e = .returned (.slice (some ⟨w.heap.size, 0, none⟩) (fill n).length c) ∧ (fill n).length ≤ c) ∧ (∀ j, j < (fill n).length → w'.cell? ⟨w.heap.size, j, none⟩ = some (.int .u8 (((fill n).getD j 0 : Nat) : Int))) ∧ Below w.heap.size w w' := by
  obtain ⟨z, hz⟩ : ∃ z, z = zeros n := ⟨_, rfl⟩
  have hz64 : z < 64 := by rw [hz]; exact zeros_lt n
  obtain ⟨w1, hmk, hb1, hbl⟩ := make_fill w z hz64
  have e1 : (64 - ((n : Int) + 1 + 8) % 64) % 64 = (z : Int) := by rw [hz]; unfold zeros; omega
  have e2 : -(((n : Int) + 1 + 8) % 64) % 64 = (z : Int) := by rw [hz]; unfold zeros; omega
  have HB := Lib.hid hb1
  have HL := Lib.hid hbl
  have HZ := Lib.hid hz
  clear hb1 hbl hz
  have c0 : w1.cell? ⟨w.heap.size, 0, none⟩ = some (.int .u8 0) := by rw [cell_of_row w1 w.heap.size 0 _ _ _ HB.out]; rfl
  have f0 : w1.frozen? ⟨w.heap.size, 0, none⟩ = false := frozen_of_row w1 w.heap.size 0 _ _ HB.out
  go_enter Tryd.func47, Tryd.ntmps47
  go_wp2_with fail
  rw [e1]
  clear e1 e2 hmk c0 f0
  go_loopw [5, 7] (fun s i wr => ∃ k : Nat, k ≤ 8 ∧ i = .int .i64 (56 - 8 * (k : Int)) ∧ s = .slice (some ⟨w.heap.size, 0, none⟩) (1 + z + k) 128 ∧
      wr.ownsRow w.heap.size 5 1 (.slice (some ⟨w.heap.size, 0, none⟩) (1 + z + k) 128) (1 + z + k) (u8s (128 :: (List.replicate z 0 ++ (lenBytes n).take k))) ∧ Below w.heap.size w wr) (fun _ i _ => (intOf i + 8).toNat)
  case atStart =>
    have hown : w1.ownsRow w.heap.size 5 1 (.slice (some ⟨w.heap.size, 0, none⟩) (1 + z) 128) (1 + z) (u8s (List.replicate (1 + z) 0)) := by
      refine ⟨by simp [u8s], .inr ⟨w.heap.size, 128, _, rfl, Nat.le_refl _, HB.out, by omega, by decide, by rw [List.size_toArray, u8s_length, List.length_replicate], ?_⟩⟩
      rw [Nat.mul_one, u8s_rep, u8s_rep, List.take_replicate, Nat.min_eq_left (show 1 + z ≤ 128 by omega)]
    refine ⟨0, Nat.zero_le _, rfl, rfl, ?_, HL.out.setCell (Nat.le_refl _) _⟩
    have := (hown.stored 0 (.int .u8 128)).1
    have e : (u8s (List.replicate (1 + z) 0)).set 0 (.int .u8 128) = u8s (128 :: (List.replicate z 0 ++ (lenBytes n).take 0)) := by
      rw [Nat.add_comm 1 z, List.replicate_succ]; simp [u8s]
    rw [e] at this
    exact this
  case round =>
    obtain ⟨k, hk, rfl, rfl, ho, hb⟩ := hrel
    by_cases hlt : k < 8
    · have hge : (0 : Int) ≤ 56 - 8 * (k : Int) := by omega
      have HO := Lib.hid ho
      have HBL := Lib.hid hb
      clear ho hb
      have HV := Lib.hid (show ((n : Int) * 8 / 2 ^ (56 - 8 * k) % 256) = (((lenBytes n).getD k 0 : Nat) : Int) by rw [← lenByte n k hlt]; simp)
      have HT := Lib.hid (show (lenBytes n).take (k + 1) = (lenBytes n).take k ++ [(lenBytes n).getD k 0] by
        have hl : k < (lenBytes n).length := hlt
        rw [List.take_succ_eq_append_getElem hl, List.getD_eq_getElem?_getD, List.getElem?_eq_getElem hl]; rfl)
      obtain ⟨i0, hi, hz0, hz1, hz2⟩ := info_parts info5
      go_wp2_with (at_builtin; refine wpList_append_fits _ rfl (.tmp 26) (.tmp 31) 22 rfl w.heap.size 5 i0 1 Tryd.underlying22 hi hz1 w.heap.size (1 + z + k) 128 _ rfl (HO.out.alloc _) ⟨wr.heap.size, 0, none⟩ 1 1 [.int .u8 ((n : Int) * 8 / 2 ^ (56 - 8 * k) % 256)] rfl rfl ?_ ?_ ?_ ?_)
      · exact cell_one_new _ _ _
      · intro u hu; simp at hu; subst hu; rfl
      · omega
      · intro w2 hown2 hgrow2
        have HO2 := Lib.hid hown2
        have HG2 := Lib.hid (show Below w.heap.size w w2 from (HBL.out.alloc (by have := HBL.out.size; exact this) _).grown hgrow2 (by have := HBL.out.size; simp; omega) (by intro k hk; injection hk with hk; omega))
        clear hown2 hgrow2 hi hz0 hz1 hz2
        go_wp2_with fail
        go_roundw
        case rel =>
          refine ⟨k + 1, by omega, by go_num, rfl, ?_, HG2.out⟩
          rw [HT.out]
          have := HO2.out
          rw [HV.out] at this
          have e : u8s (128 :: (List.replicate z 0 ++ (lenBytes n).take k)) ++ [.int .u8 (((lenBytes n).getD k 0 : Nat) : Int)] = u8s (128 :: (List.replicate z 0 ++ ((lenBytes n).take k ++ [(lenBytes n).getD k 0]))) := by simp [u8s]
          rw [e] at this
          exact this
        case measure => simp [intOf]; omega
    · have hk8 : k = 8 := by omega
      have hge : 56 - 8 * (k : Int) < 0 := by omega
      have hfl : (fill n).length = 1 + z + 8 := by rw [fill_length, HZ.out]; omega
      have he : 128 :: (List.replicate z 0 ++ (lenBytes n).take 8) = fill n := by rw [HZ.out]; rfl
      have HF := Lib.hid hfl
      have HK := Lib.hid hk8
      rw [hk8, he] at ho
      have HO := Lib.hid ho
      have HBL := Lib.hid hb
      clear ho hb hfl he hk8 hlt
      go_wp2_with fail
      go_ret
      refine ⟨⟨128, by show Ending.returned (Value.slice _ (1 + z + k) 128) = _; rw [HF.out, HK.out], by rw [HF.out]; omega⟩, fun j hj => ?_, HBL.out⟩
      rw [HO.out.cellAt j (by rw [← HF.out]; omega)]
      have := u8s_at hj
      simpa using this
end Sha
end Go.Proofs.YtoiidedigbfnaaaDoor
/- 'New' of package hash begins an empty sum; 'Add' adds parts; 'End' is the sum; 'Of' all at once. -/
set_option maxRecDepth 100000
namespace Go.Proofs.YtoiidedigbfnaaaDoor
open Go.RowKit
namespace Sha
theorem begin_snoc (k : Nat) (h : k < 8) : (pad 8 (beginWords.take k)).set k (beginWords.getD k 0) = pad 8 (beginWords.take (k + 1)) := by
  have hl : beginWords.length = 8 := rfl
  have := pad_snoc (n := 8) (l := beginWords.take k) (beginWords.getD k 0) (by rw [List.length_take, hl]; omega)
  rw [List.length_take, hl, Nat.min_eq_left (by omega)] at this
  rw [this, List.take_succ_eq_append_getElem (by omega), List.getD_eq_getElem?_getD, List.getElem?_eq_getElem (by omega)]
  rfl
theorem sum_st {st blk : List Nat} {L k v : Nat} (hst : st.length = 8) (hk : k < 8) : (sumCells st blk L).toArray.setIfInBounds k (.int .u32 (v : Int)) = (sumCells (st.set k v) blk L).toArray := by
  have e1 : (u32s st).length = 8 := by rw [u32s_length, hst]
  have : (sumCells st blk L).set k (.int .u32 (v : Int)) = sumCells (st.set k v) blk L := by
    rw [sumCells, List.set_append_left _ _ (by omega), sumCells]; simp [u32s, List.map_set]
  simp [this]

def blank : Array Value := (sumCells (pad 8 []) (List.replicate 64 0) 0).toArray
attribute [local go_sem ↓] Go.wp_at_zero Go.wp_at_succ
set_option maxRecDepth 100000 in
set_option maxHeartbeats 1000000 in
theorem new_any (w : World) :
    Calls Tryd.prog 38 #[] w fun e w' => e = .returned (.pointer (some ⟨w.heap.size, 0, none⟩)) ∧ SumAt w' w.heap.size [] ∧ Below w.heap.size w w' := by
  have hz : (zeroValue 110).run Tryd.prog w = .ok (.agg blank) w := by kernel_rfl
  go_enter Tryd.func38, Tryd.ntmps38
  go_wp2_with fail
  go_loopw [5] (fun i wr => ∃ k : Nat, k ≤ 8 ∧ i = .int .i64 k ∧ wr.heap[w.heap.size]? = some (.cells (sumCells (pad 8 (beginWords.take k)) (List.replicate 64 0) 0).toArray 110 (0, 0)) ∧ Below w.heap.size w wr) (fun i _ => 8 - (intOf i).toNat)
  case atStart =>
    refine ⟨0, Nat.zero_le _, rfl, ?_, (Below.refl _ _).alloc (Nat.le_refl _) _⟩
    exact heap_alloc_new w _
  case round =>
    obtain ⟨k, hk, rfl, hr, hb⟩ := hrel
    by_cases hlt : k < 8
    · have hbl : w.heap.size < wr.heap.size := lt_of_heap hr
      have c0 : wr.cell? ⟨w.heap.size, k, none⟩ = some (.int .u32 (((pad 8 (beginWords.take k)).getD k 0 : Nat) : Int)) := by
        have hl : (pad 8 (beginWords.take k)).length = 8 := pad_length (by rw [List.length_take]; exact Nat.min_le_right _ _)
        rw [cell_of_row wr w.heap.size k _ _ _ hr, List.getElem?_toArray, sumCells, List.getElem?_append_left (by rw [u32s_length, hl]; exact hlt)]
        have := u32s_at (l := pad 8 (beginWords.take k)) (i := k) (by rw [hl]; exact hlt)
        simpa using this
      have f0 : wr.frozen? ⟨w.heap.size, k, none⟩ = false := frozen_of_row wr w.heap.size k _ _ hr
      have hi0 : (0 : Int) ≤ (k : Int) := by omega
      have hi1 : (k : Int) < 8 := by omega
      have HR := Lib.hid hr
      have HB := Lib.hid hb
      have hbl2 : w.heap.size < wr.drew.heap.size := hbl
      generalize (pad 8 (beginWords.take k)).getD k 0 = x at c0
      clear hr hb
      go_wp2_with fail
      go_region_with (go_at_call 45; refine (bword_any _ (by kernel_rfl) k hlt _).mono ?_; rintro e w' ⟨rfl, hb3⟩; obtain ⟨hc3, hf3, hl3⟩ := bk hb3 (by assumption))
      have HS := Lib.hid (heap_setCell_same _ w.heap.size k _ _ (.int .u32 ((beginWords.getD k 0 : Nat) : Int)) ((hb3.block _ hbl2).trans HR.out))
      have HB2 := Lib.hid ((HB.out.drew.trans (hb3.mono (Nat.le_of_lt hbl2))).setCell (p := ⟨w.heap.size, k, none⟩) (Nat.le_refl _) (.int .u32 ((beginWords.getD k 0 : Nat) : Int)))
      clear hb3 hc3 hf3 hl3 c0 f0
      go_wp2_with fail
      go_roundw
      case rel =>
        have kd : beginWords[k]?.getD 0 = beginWords.getD k 0 := (List.getD_eq_getElem?_getD ..).symm
        rw [kd]
        refine ⟨k + 1, by omega, by go_num, ?_, HB2.out⟩
        have := HS.out
        rw [sum_st (pad_length (by rw [List.length_take]; exact Nat.min_le_right _ _)) hlt, begin_snoc k hlt] at this
        exact this
      case measure => simp [intOf]; omega
    · have e : k = 8 := by omega
      rw [e] at hr
      have hge : 8 ≤ k := by omega
      have HR := Lib.hid hr
      have HB := Lib.hid hb
      clear hr hb hlt e
      go_wp2_with fail
      go_ret
      exact ⟨rfl, ⟨List.replicate 64 0, HR.out, inv_nil⟩, HB.out⟩
end Sha
end Go.Proofs.YtoiidedigbfnaaaDoor
/- 'Add' of package hash adds parts to a sum, one behind the other. -/
set_option maxRecDepth 100000
namespace Go.Proofs.YtoiidedigbfnaaaDoor
open Go.RowKit
namespace Sha
/-- v is a slice of the slices ps, all of it outside block b. -/
def PartsAt (w : World) (b : Nat) (v : Value) (ps : List (List Nat)) : Prop :=
  ∃ ad cap, v = .slice ad ps.length cap ∧ (ps = [] ∨ ∃ g off, ad = some ⟨g, off, none⟩ ∧ g ≠ b ∧ ∀ j, j < ps.length → ∃ u, w.cell? ⟨g, off + j, none⟩ = some u ∧ BytesAt w b u (ps.getD j []))

theorem take_flat (ps : List (List Nat)) (k : Nat) (h : k < ps.length) : (ps.take (k + 1)).flatten = (ps.take k).flatten ++ ps.getD k [] := by
  rw [List.take_succ_eq_append_getElem h, List.flatten_append, List.flatten_singleton, List.getD_eq_getElem?_getD, List.getElem?_eq_getElem h]; rfl
theorem take_flat_le (ps : List (List Nat)) (k : Nat) : ((ps.take k).flatten).length ≤ ps.flatten.length := by
  have : ps.flatten = (ps.take k).flatten ++ (ps.drop k).flatten := by rw [← List.flatten_append, List.take_append_drop]
  rw [this, List.length_append]; omega

set_option maxRecDepth 100000 in
set_option maxHeartbeats 1000000 in
theorem add_any (b : Nat) (m : List Nat) (ps : List (List Nat)) (v : Value) (w : World) (hS : SumAt w b m) (hP : PartsAt w b v ps) (h8 : ∀ p ∈ ps, ∀ x ∈ p, x < 256) (hm : m.length + ps.flatten.length < 1000000000) (hps : ps.length < 1000000) :
    Calls Tryd.prog 39 #[.pointer (some ⟨b, 0, none⟩), v] w fun e w' => e = .returned (.pointer (some ⟨b, 0, none⟩)) ∧ SumAt w' b (m ++ ps.flatten) ∧ w.grownBy w' (some b) := by
  obtain ⟨ad, cap, rfl, hc⟩ := hP
  have HS := Lib.hid hS
  have HC := Lib.hid hc
  have H8 := Lib.hid h8
  have HM := Lib.hid hm
  clear hS hc h8 hm
  go_enter Tryd.func39, Tryd.ntmps39
  go_wp2_with fail
  go_loopw [11] (fun i wr => ∃ k : Nat, k ≤ ps.length ∧ i = .int .i64 k ∧ SumAt wr b (m ++ (ps.take k).flatten) ∧ w.grownBy wr (some b)) (fun i _ => ps.length - (intOf i).toNat)
  case atStart => exact ⟨0, Nat.zero_le _, rfl, by simpa using HS.out, grefl _ _⟩
  case round =>
    obtain ⟨k, hk, rfl, hs, hg⟩ := hrel
    by_cases hlt : k < ps.length
    · rcases HC.out with h0 | ⟨g, off, rfl, hgb, hcells⟩
      · rw [h0] at hlt; simp at hlt
      obtain ⟨u, hu, hbu⟩ := hcells k hlt
      have hcu := hg.cell hu (by intro e; injection e with e; exact hgb e)
      have HBU := Lib.hid (bytes_grown hbu hg)
      have HG := Lib.hid hg
      have HSK := Lib.hid hs
      have hmem : ps.getD k [] ∈ ps := by rw [List.getD_eq_getElem?_getD, List.getElem?_eq_getElem hlt]; exact List.getElem_mem hlt
      have HX := Lib.hid (H8.out _ hmem)
      have HT := Lib.hid (take_flat ps k hlt)
      have hlen := take_flat_le ps (k + 1)
      have HLEN := Lib.hid (show (m ++ (ps.take k).flatten).length + (ps.getD k []).length < 1000000000 by
        have := HM.out; rw [HT.out] at hlen; simp only [List.length_append] at hlen ⊢; omega)
      generalize ps.getD k [] = p at HBU HX HT HLEN
      clear hu hbu hcells hg hs hmem hlen
      go_wp2_with fail
      refine (take_any b (m ++ (ps.take k).flatten) p u _ HSK.out HBU.out HX.out HLEN.out).mono ?_
      rintro e w3 ⟨rfl, hs3, hg3⟩
      have HS3 := Lib.hid hs3
      have HG3 := Lib.hid (gtrans HG.out hg3)
      clear hs3 hg3 hcu
      go_wp2_with fail
      go_roundw
      case rel =>
        refine ⟨k + 1, by omega, by go_num, ?_, HG3.out⟩
        rw [HT.out, ← List.append_assoc]
        exact HS3.out
      case measure => simp [intOf]; omega
    · have e : ps.take k = ps := List.take_of_length_le (by omega)
      rw [e] at hs
      have HSK := Lib.hid hs
      have HG := Lib.hid hg
      have hge : ps.length ≤ k := by omega
      clear hs hg e hlt
      go_wp2_with fail
      go_ret
      exact ⟨rfl, HSK.out, HG.out⟩
end Sha
end Go.Proofs.YtoiidedigbfnaaaDoor
/- 'End' of package hash is the sum of all that was added. -/
set_option maxRecDepth 100000
namespace Go.Proofs.YtoiidedigbfnaaaDoor
open Go.RowKit
namespace Sha
theorem sum_cells_length {st blk : List Nat} {L : Nat} (h : st.length = 8) (hb : blk.length = 64) : (sumCells st blk L).length = 73 := by
  simp [sumCells, u32s_length, u8s_length, h, hb]
theorem sum_cells_one (st blk : List Nat) (L : Nat) : ∀ v ∈ sumCells st blk L, v.oneCell' = true := by
  intro v hv
  simp only [sumCells, List.mem_append, List.mem_singleton] at hv
  rcases hv with hv | hv | rfl
  · exact u32s_one _ v hv
  · exact u8s_one _ v hv
  · rfl
theorem sum_below {w w1 : World} {b : Nat} {m : List Nat} (h : SumAt w b m) (hb : Below w.heap.size w w1) : SumAt w1 b m := by
  obtain ⟨blk, hr, hi⟩ := h
  exact ⟨blk, (hb.block _ (lt_of_heap hr)).trans hr, hi⟩

/-- The memory of 'End': its result, its bytes so far. -/
structure EMem (H N : Nat) (l : List Nat) (w0 w : World) : Prop where
  res : w.heap[H]? = some (.cells (u8s (pad 32 [])).toArray 59 (0, 0))
  row : w.heap[N]? = some (.cells (u8s (pad 32 l)).toArray 59 (0, 0))
  old : Below H w0 w
theorem EMem.alone {H N : Nat} {l : List Nat} {w0 w : World} (h : EMem H N l w0 w) (hl : l.length < 32) (hHN : H < N) (v : Nat) :
    EMem H N (l ++ [v]) w0 (w.setCell ⟨N, l.length, none⟩ (.int .u8 (v : Int))) := by
  refine ⟨(heap_setCell_other w _ H _ (by simp; omega)).trans h.res, ?_, h.old.setCell (by simp; omega) _⟩
  have := heap_setCell_same w N l.length _ _ (.int .u8 (v : Int)) h.row
  rw [u8s_set, pad_snoc v hl] at this
  exact this
theorem bytes4_val (x : Nat) : ∀ j, j < 4 → x / 2 ^ (24 - 8 * j) % 256 = (bytes4 x).getD j 0
  | 0, _ => rfl | 1, _ => rfl | 2, _ => rfl | 3, _ => by simp [bytes4]
  | k + 4, h => by omega
theorem out_length (s : St) : (out s).length = 32 := rfl
theorem out_snoc (s : St) (i j : Nat) (hi : i < 8) (hj : j < 4) : (out s).take (4 * i + (j + 1)) = (out s).take (4 * i + j) ++ [(bytes4 (s.list.getD i 0)).getD j 0] := by
  have hl := out_length s
  rw [← Nat.add_assoc, List.take_succ_eq_append_getElem (by omega)]
  congr 2
  match i, hi, j, hj with
  | 0, _, 0, _ => rfl | 0, _, 1, _ => rfl | 0, _, 2, _ => rfl | 0, _, 3, _ => rfl
  | 1, _, 0, _ => rfl | 1, _, 1, _ => rfl | 1, _, 2, _ => rfl | 1, _, 3, _ => rfl
  | 2, _, 0, _ => rfl | 2, _, 1, _ => rfl | 2, _, 2, _ => rfl | 2, _, 3, _ => rfl
  | 3, _, 0, _ => rfl | 3, _, 1, _ => rfl | 3, _, 2, _ => rfl | 3, _, 3, _ => rfl
  | 4, _, 0, _ => rfl | 4, _, 1, _ => rfl | 4, _, 2, _ => rfl | 4, _, 3, _ => rfl
  | 5, _, 0, _ => rfl | 5, _, 1, _ => rfl | 5, _, 2, _ => rfl | 5, _, 3, _ => rfl
  | 6, _, 0, _ => rfl | 6, _, 1, _ => rfl | 6, _, 2, _ => rfl | 6, _, 3, _ => rfl
  | 7, _, 0, _ => rfl | 7, _, 1, _ => rfl | 7, _, 2, _ => rfl | 7, _, 3, _ => rfl

set_option maxRecDepth 100000 in
set_option maxHeartbeats 2000000 in
theorem end_any (b : Nat) (m : List Nat) (w : World) (hS : SumAt w b m) (hm : m.length < 900000000) :
    Calls Tryd.prog 41 #[.pointer (some ⟨b, 0, none⟩)] w fun e w' => e = .returned (.agg (u8s (digest m)).toArray) ∧ Below w.heap.size w w' := by
  obtain ⟨blk, hr, hi⟩ := hS
  have hbl : b < w.heap.size := lt_of_heap hr
  have HR := Lib.hid hr
  have HI := Lib.hid hi
  have HBL := Lib.hid hbl
  clear hr hi hbl
  go_enter Tryd.func41, Tryd.ntmps41
  go_upto_region 3 with (fail)
  have h1 : (w.alloc (.cells (u8s (pad 32 [])).toArray 59)).heap[w.heap.size]? = some (.cells (u8s (pad 32 [])).toArray 59 (0, 0)) := heap_alloc_new w _
  have h2 : (w.alloc (.cells (u8s (pad 32 [])).toArray 59)).heap[b]? = some (.cells (sumCells (stOf m).list blk m.length).toArray 110 (0, 0)) := (heap_alloc_old w _ HBL.out).trans HR.out
  have h3 : Below w.heap.size w (w.alloc (.cells (u8s (pad 32 [])).toArray 59)) := (Below.refl _ _).alloc (Nat.le_refl _) _
  have h4 : (w.alloc (.cells (u8s (pad 32 [])).toArray 59)).heap.size = w.heap.size + 1 := by show (w.heap.push _).size = _; simp
  change Code.wp _ _ _ _ (w.alloc (.cells (u8s (pad 32 [])).toArray 59))
  generalize w.alloc (.cells (u8s (pad 32 [])).toArray 59) = w1 at h1 h2 h3 h4
  have hz : (zeroValue 110).run Tryd.prog w1 = .ok (.agg blank) w1 := by kernel_rfl
  have hlen := HI.out.len
  have hcl : (sumCells (stOf m).list blk m.length).length = 73 := sum_cells_length rfl hlen
  have hsz : (Tryd.prog.info? 110).map (·.size) = some (sumCells (stOf m).list blk m.length).toArray.size := by rw [List.size_toArray, hcl]; kernel_rfl
  have H1 := Lib.hid h1
  have H3 := Lib.hid h3
  clear h1 h3 hlen
  refine wp_region_lit ?_
  refine wpList_plain rfl (fun K hK => ?_)
  go_simp
  refine hK _ _ ?_
  clear hK K
  refine wpList_plain rfl (fun K hK => ?_)
  go_simp
  refine hK _ _ ?_
  clear hK K
  refine wpList_load_row rfl 110 _ rfl b rfl 110 _ _ _ h2 Tryd.underlying110 rfl hsz ?_
  have H2 := Lib.hid h2
  clear h2
  refine wpList_plain rfl (fun K hK => ?_)
  go_simp
  refine hK _ _ ?_
  clear hK K
  have hb2 : (w1.alloc (.cells blank 110)).heap[w.heap.size + 1]? = some (.cells blank 110 (0, 0)) := by rw [← h4]; exact heap_alloc_new w1 _
  have hth : (w1.alloc (.cells blank 110)).there (w.heap.size + 1) 0 (sumCells (stOf m).list blk m.length).toArray.size := there_of_block hb2 0 _ (by rw [List.size_toArray, hcl]; decide)
  refine wpList_store_mid rfl 110 _ _ rfl (w.heap.size + 1) 0 _ rfl rfl hth hsz (all_oneCell_toArray (sum_cells_one _ _ _)) ?_
  have hr2 := heap_setCells (w.heap.size + 1) 110 (0, 0) (sumCells (stOf m).list blk m.length) 0 (w1.alloc (.cells blank 110)) (sumCells (pad 8 []) (List.replicate 64 0) 0) hb2 (by rw [hcl, sum_cells_length (by rfl) (by simp)]; decide)
  rw [Nat.zero_add, List.take_zero, List.nil_append, List.drop_of_length_le (by rw [hcl, sum_cells_length (by rfl) (by simp)]; decide), List.append_nil] at hr2
  have ho2 : ((w1.alloc (.cells blank 110)).setCells (w.heap.size + 1) 0 (sumCells (stOf m).list blk m.length)).heap[w.heap.size]? = some (.cells (u8s (pad 32 [])).toArray 59 (0, 0)) :=
    ((gsetCells (w.heap.size + 1) _ 0 (w1.alloc (.cells blank 110))).block w.heap.size (by simp [h4]; omega) (by simp)).trans ((heap_alloc_old w1 _ (by omega)).trans H1.out)
  have hl2 : Below w.heap.size w ((w1.alloc (.cells blank 110)).setCells (w.heap.size + 1) 0 (sumCells (stOf m).list blk m.length)) := below_setCells _ (Nat.le_succ _) _ _ _ (H3.out.alloc (by omega) _)
  have hc2 : ((w1.alloc (.cells blank 110)).setCells (w.heap.size + 1) 0 (sumCells (stOf m).list blk m.length)).cell? ⟨b, 72, none⟩ = some (.int .u64 (m.length : Int)) := by
    rw [cell_of_row _ b 72 _ _ _ ((hl2.block b HBL.out).trans HR.out)]
    simp [sumCells, u32s, u8s, St.list, HI.out.len]
  change wpList _ _ _ _ _ ((w1.alloc (.cells blank 110)).setCells (w.heap.size + 1) 0 (sumCells (stOf m).list blk m.length))
  generalize (w1.alloc (.cells blank 110)).setCells (w.heap.size + 1) 0 (sumCells (stOf m).list blk m.length) = w2 at hr2 ho2 hl2 hc2
  have S2 := Lib.hid (show SumAt w2 (w.heap.size + 1) m from ⟨blk, hr2, HI.out⟩)
  have O2 := Lib.hid ho2
  have L2 := Lib.hid hl2
  have hlt2 : w.heap.size + 1 < w2.heap.size := lt_of_heap hr2
  clear hr2 ho2 hl2 hz hcl hsz h4 hb2 hth H1 H2 H3
  go_wp2_with fail
  refine (filling_any m.length _ (by omega)).mono ?_
  rintro e w3 ⟨⟨c, rfl, hc⟩, hcells, hb3⟩
  have C3 := Lib.hid hcells
  have S3 := Lib.hid (sum_below S2.out hb3)
  have O3 := Lib.hid ((hb3.block _ (by omega)).trans O2.out)
  have L3 := Lib.hid (L2.out.trans (hb3.mono (by omega)))
  have hz3 : w2.heap.size ≤ w3.heap.size := hb3.size
  have HC := Lib.hid hc
  clear hcells hb3 hc2 hc
  go_wp2_with fail
  refine (take_any (w.heap.size + 1) m (fill m.length) _ _ S3.out ⟨_, c, rfl, HC.out, .inr ⟨w2.heap.size, 0, rfl, by omega, fun j hj => by rw [Nat.zero_add]; exact C3.out j hj⟩⟩ (fill_small _) (by have := zeros_lt m.length; rw [fill_length]; omega)).mono ?_
  rintro e w4 ⟨rfl, ⟨blk4, hr4, hi4⟩, hg4⟩
  have R4 := Lib.hid hr4
  have O4 := Lib.hid ((hg4.block _ (by omega) (by simp)).trans O3.out)
  have L4 := Lib.hid (show Below w.heap.size w w4 from L3.out.grown hg4 (by omega) (by intro k hk; injection hk with hk; omega))
  have hz4 : w.heap.size + 1 < w4.heap.size := lt_of_heap hr4
  clear hr4 hi4 hg4
  go_upto_region 6 with (fail)
  obtain ⟨s, hs⟩ : ∃ s, s = stOf (m ++ fill m.length) := ⟨_, rfl⟩
  have hdg : digest m = out s := by rw [hs]; rfl
  have hsok : s.Ok := by rw [hs]; exact stOf_ok _
  have r4 := R4.out
  rw [← hs] at r4
  have N4 : EMem w.heap.size w4.heap.size [] w (w4.alloc (.cells (u8s (pad 32 [])).toArray 59)) :=
    ⟨(heap_alloc_old w4 _ (by omega)).trans O4.out, heap_alloc_new w4 _, L4.out.alloc (by omega) _⟩
  have hrg : (w4.alloc (.cells (u8s (pad 32 [])).toArray 59)).rangeAt (w.heap.size + 1) 0 (u32s s.list) := by
    intro j v hj
    have e := (heap_alloc_old w4 (.cells (u8s (pad 32 [])).toArray 59) hz4).trans r4
    have hjl : j < (u32s s.list).length := by
      rcases Nat.lt_or_ge j (u32s s.list).length with h' | h'
      · exact h'
      · rw [List.getElem?_eq_none h'] at hj; cases hj
    rw [cell_of_row _ (w.heap.size + 1) (0 + j) _ _ _ e, Nat.zero_add, List.getElem?_toArray, sumCells, List.getElem?_append_left hjl]
    exact hj
  have HN := Lib.hid N4
  have HDG := Lib.hid hdg
  change Code.wp _ _ _ _ (w4.alloc (.cells (u8s (pad 32 [])).toArray 59))
  have HHN : w.heap.size < w4.heap.size := by omega
  generalize w4.heap.size = N at HN HHN
  generalize w4.alloc (.cells (u8s (pad 32 [])).toArray 59) = w5 at HN hrg
  clear r4 R4 O4 L4 N4 hz4 S3 O3 L3 C3 S2 O2 L2 hs hdg hlt2 hz3 HC
  refine wp_region_lit ?_
  refine wpList_plain rfl (fun K hK => ?_)
  go_simp
  refine hK _ _ ?_
  clear hK K
  refine wpList_load_mid rfl 108 _ rfl (w.heap.size + 1) 0 rfl (u32s s.list) _ hrg Tryd.underlying108 rfl (by kernel_rfl) ?_
  clear hrg
  go_wp2_with fail
  go_loopw [22] (fun i wr => ∃ k : Nat, k ≤ 8 ∧ i = .int .i64 k ∧ EMem w.heap.size N ((out s).take (4 * k)) w wr) (fun i _ => 8 - (intOf i).toNat)
  case atStart => exact ⟨0, Nat.zero_le _, rfl, HN.out⟩
  case round =>
    obtain ⟨k, hk, rfl, hm1⟩ := hrel
    by_cases hlt : k < 8
    · have hix := index_u32 108 8 Tryd.underlying108 s.list rfl k hlt wr
      have hx := getD_lt hsok.all (by decide) k
      have HM1 := Lib.hid hm1
      have HV := Lib.hid (fun j (hj : j < 4) => out_snoc s k j hlt hj)
      generalize s.list.getD k 0 = x at hix hx HV
      clear hm1
      go_wp2_with fail
      go_loopw [26] (fun i wr => ∃ j : Nat, j ≤ 4 ∧ i = .int .i64 j ∧ EMem w.heap.size N ((out s).take (4 * k + j)) w wr) (fun i _ => 4 - (intOf i).toNat)
      case atStart => exact ⟨0, Nat.zero_le _, rfl, HM1.out⟩
      case round =>
        obtain ⟨j, hj, rfl, hm2⟩ := hrel
        by_cases hlt2 : j < 4
        · have HM2 := Lib.hid hm2
          have hlen : ((out s).take (4 * k + j)).length = 4 * k + j := by rw [List.length_take, out_length]; omega
          have c0 : wr.cell? ⟨N, 4 * k + j, none⟩ = some (.int .u8 (((pad 32 ((out s).take (4 * k + j))).getD (4 * k + j) 0 : Nat) : Int)) :=
            (cell_of_row wr N (4 * k + j) _ _ _ hm2.row).trans (u8s_at (by rw [pad_length (by omega)]; omega))
          have f0 : wr.frozen? ⟨N, 4 * k + j, none⟩ = false := frozen_of_row wr N (4 * k + j) _ _ hm2.row
          generalize (pad 32 ((out s).take (4 * k + j))).getD (4 * k + j) 0 = y at c0
          have HL := Lib.hid hlen
          have hi0 : (0 : Int) ≤ 4 * (k : Int) + (j : Int) := by omega
          have hi1 : 4 * (k : Int) + (j : Int) < 32 := by omega
          have hi2 : (0 : Int) ≤ 24 - 8 * (j : Int) := by omega
          have hi3 : 24 - 8 * (j : Int) ≤ 24 := by omega
          have hi4 : (4 * (k : Int) + (j : Int)).toNat = 4 * k + j := by omega
          clear hm2 hlen hix
          go_wp2_with fail
          go_roundw
          case rel =>
            refine ⟨j + 1, by omega, by go_num, ?_⟩
            have hv : ((x : Int) / 2 ^ (24 - 8 * j) % 256) = (((bytes4 x).getD j 0 : Nat) : Int) := by rw [← bytes4_val x j hlt2]; simp
            rw [hv, HV.out j hlt2]
            have := HM2.out.alone (by rw [HL.out]; omega) HHN ((bytes4 x).getD j 0)
            rw [HL.out] at this
            exact this
          case measure => simp [intOf]; omega
        · have e : j = 4 := by omega
          rw [e] at hm2
          have HM2 := Lib.hid hm2
          have hge : 4 ≤ j := by omega
          clear hm2 hlt2 e hix
          go_wp2_with fail
          go_roundw
          case rel => exact ⟨k + 1, by omega, by go_num, HM2.out⟩
          case measure => simp [intOf]; omega
    · have e : k = 8 := by omega
      rw [e] at hm1
      have ho : (out s).take (4 * 8) = out s := List.take_of_length_le (by rw [out_length]; decide)
      rw [ho] at hm1
      have HM1 := Lib.hid hm1
      have hge : 8 ≤ k := by omega
      clear hm1 hlt e ho
      go_upto_region 15 with (fail)
      have hrow := HM1.out.row
      have hres := HM1.out.res
      rw [pad_full (out_length s)] at hrow
      have hsz : (u8s (out s)).toArray.size = 32 := by rw [List.size_toArray, u8s_length, out_length]
      have hth : wr.there w.heap.size 0 (u8s (out s)).toArray.size := there_of_block hres 0 _ (by rw [hsz]; decide)
      have hend : ((wr.setCells w.heap.size 0 (u8s (out s)).toArray.toList).heap[w.heap.size]? = some (.cells (u8s (out s)).toArray 59 (0, 0))) := by
        have := heap_setCells w.heap.size 59 (0, 0) (u8s (out s)) 0 wr _ hres (by rw [u8s_length, u8s_length, pad_length (by decide), out_length]; decide)
        rw [this, Nat.zero_add, List.take_zero, List.nil_append, List.drop_of_length_le (by rw [u8s_length, u8s_length, pad_length (by decide), out_length]; decide), List.append_nil]
      have HE := Lib.hid hend
      clear hend hres
      refine wp_region_lit ?_
      refine wpList_load_row rfl 59 _ rfl N rfl 59 _ _ _ hrow Tryd.underlying59 rfl (by rw [hsz]; kernel_rfl) ?_
      refine wpList_store_mid rfl 59 _ _ rfl w.heap.size 0 _ rfl rfl hth (by rw [hsz]; kernel_rfl) (u8s_cells _) ?_
      clear hrow hth
      have HB := Lib.hid (below_setCells w.heap.size (Nat.le_refl _) (u8s (out s)).toArray.toList 0 _ HM1.out.old)
      generalize wr.setCells w.heap.size 0 (u8s (out s)).toArray.toList = wz at HE HB
      go_wp2_with fail
      exact bodyPost_ret (v := .agg (u8s (out s)).toArray) (results_cell_row rfl _ _ w.heap.size 59 _ (0, 0) _ rfl HE.out Tryd.underlying59 rfl (by rw [hsz]; kernel_rfl)) rfl ⟨by rw [HDG.out], HB.out⟩
end Sha
end Go.Proofs.YtoiidedigbfnaaaDoor
/- 'Of' of package hash is the sum of its parts. -/
set_option maxRecDepth 100000
namespace Go.Proofs.YtoiidedigbfnaaaDoor
open Go.RowKit
namespace Sha
/-- v is a slice of the slices ps. -/
def PartsIn (w : World) (v : Value) (ps : List (List Nat)) : Prop :=
  ∃ ad cap, v = .slice ad ps.length cap ∧ (ps = [] ∨ ∃ g off, ad = some ⟨g, off, none⟩ ∧ ∀ j, j < ps.length → ∃ u, w.cell? ⟨g, off + j, none⟩ = some u ∧ BytesIn w u (ps.getD j []))
theorem bytes_in {w : World} {v : Value} {xs : List Nat} (h : BytesIn w v xs) {b : Nat} (hb : w.heap.size ≤ b) : BytesAt w b v xs := by
  obtain ⟨ad, cap, rfl, hcap, hc⟩ := h
  refine ⟨ad, cap, rfl, hcap, ?_⟩
  rcases hc with h0 | ⟨g, off, rfl, hc⟩
  · exact .inl h0
  · by_cases h0 : xs.length = 0
    · exact .inl (List.eq_nil_of_length_eq_zero h0)
    · have hg : g < w.heap.size := block_lt_of_cell (hc 0 (by omega))
      exact .inr ⟨g, off, rfl, by omega, hc⟩
theorem parts_below {w w1 : World} {v : Value} {ps : List (List Nat)} (h : PartsIn w v ps) (hb : Below w.heap.size w w1) : PartsIn w1 v ps := by
  obtain ⟨ad, cap, rfl, hc⟩ := h
  refine ⟨ad, cap, rfl, ?_⟩
  rcases hc with h0 | ⟨g, off, rfl, hc⟩
  · exact .inl h0
  · refine .inr ⟨g, off, rfl, fun j hj => ?_⟩
    obtain ⟨u, hu, hbu⟩ := hc j hj
    exact ⟨u, (hb.cell (p := ⟨g, off + j, none⟩) (block_lt_of_cell hu)).trans hu, bytes_below hbu hb⟩
theorem parts_at {w w1 : World} {v : Value} {ps : List (List Nat)} (h : PartsIn w v ps) (hb : Below w.heap.size w w1) {b : Nat} (hlt : w.heap.size ≤ b) : PartsAt w1 b v ps := by
  obtain ⟨ad, cap, rfl, hc⟩ := h
  refine ⟨ad, cap, rfl, ?_⟩
  rcases hc with h0 | ⟨g, off, rfl, hc⟩
  · exact .inl h0
  · by_cases h0 : ps.length = 0
    · exact .inl (List.eq_nil_of_length_eq_zero h0)
    · have hg : g < w.heap.size := by obtain ⟨u, hu, _⟩ := hc 0 (by omega); exact block_lt_of_cell hu
      refine .inr ⟨g, off, rfl, by omega, fun j hj => ?_⟩
      obtain ⟨u, hu, hbu⟩ := hc j hj
      refine ⟨u, (hb.cell (p := ⟨g, off + j, none⟩) (block_lt_of_cell hu)).trans hu, ?_⟩
      have := bytes_in hbu hlt
      obtain ⟨ad, cap, rfl, hcap, hx⟩ := this
      refine ⟨ad, cap, rfl, hcap, ?_⟩
      rcases hx with h0 | ⟨g2, o2, rfl, hne, hx⟩
      · exact .inl h0
      · exact .inr ⟨g2, o2, rfl, hne, fun j hj => (hb.cell (p := ⟨g2, o2 + j, none⟩) (block_lt_of_cell (hx j hj))).trans (hx j hj)⟩
theorem digest_length (m : List Nat) : (digest m).length = 32 := rfl

set_option maxRecDepth 100000 in
set_option maxHeartbeats 1000000 in
theorem of_any (ps : List (List Nat)) (v : Value) (w : World) (hP : PartsIn w v ps) (h8 : ∀ p ∈ ps, ∀ x ∈ p, x < 256) (hm : ps.flatten.length < 800000000) (hps : ps.length < 1000000) :
    Calls Tryd.prog 42 #[v] w fun e w' => e = .returned (.agg (u8s (digest ps.flatten)).toArray) ∧ Below w.heap.size w w' := by
  have HP := Lib.hid hP
  have H8 := Lib.hid h8
  have HM := Lib.hid hm
  have HPS := Lib.hid hps
  clear hP h8 hm hps
  go_enter Tryd.func42, Tryd.ntmps42
  go_upto_region 1 with (fail)
  have h1 : (w.alloc (.cells (u8s (pad 32 [])).toArray 59)).heap[w.heap.size]? = some (.cells (u8s (pad 32 [])).toArray 59 (0, 0)) := heap_alloc_new w _
  have h3 : Below w.heap.size w (w.alloc (.cells (u8s (pad 32 [])).toArray 59)) := (Below.refl _ _).alloc (Nat.le_refl _) _
  change Code.wp _ _ _ _ (w.alloc (.cells (u8s (pad 32 [])).toArray 59))
  generalize w.alloc (.cells (u8s (pad 32 [])).toArray 59) = w1 at h1 h3
  have H1 := Lib.hid h1
  have H3 := Lib.hid h3
  have hlt1 : w.heap.size < w1.heap.size := lt_of_heap h1
  clear h1 h3
  go_wp2_with fail
  refine (new_any _).mono ?_
  rintro e w2 ⟨rfl, hs2, hb2⟩
  have S2 := Lib.hid hs2
  have L2 := Lib.hid (H3.out.trans (hb2.mono (Nat.le_of_lt hlt1)))
  have O2 := Lib.hid ((hb2.block _ hlt1).trans H1.out)
  have hsz2 : w1.heap.size ≤ w2.heap.size := hb2.size
  clear hs2 hb2
  go_wp2_with fail
  refine (add_any w1.heap.size [] ps v _ S2.out (parts_at HP.out L2.out (by omega)) H8.out (by have := HM.out; simpa using (by omega : ps.flatten.length < 1000000000)) HPS.out).mono ?_
  rintro e w3 ⟨rfl, hs3, hg3⟩
  have S3 := Lib.hid hs3
  have O3 := Lib.hid ((hg3.block _ (by omega) (by intro e; injection e with e; omega)).trans O2.out)
  have L3 := Lib.hid (show Below w.heap.size w w3 from L2.out.grown hg3 (by omega) (by intro k hk; injection hk with hk; omega))
  have hsz3 : w2.heap.size ≤ w3.heap.size := hg3.size
  clear hs3 hg3
  go_wp2_with fail
  refine (end_any w1.heap.size ([] ++ ps.flatten) _ S3.out (by have := HM.out; rw [List.nil_append]; omega)).mono ?_
  rintro e w4 ⟨rfl, hb4⟩
  have O4 := Lib.hid ((hb4.block _ (by omega)).trans O3.out)
  have L4 := Lib.hid (L3.out.trans (hb4.mono (by omega)))
  clear hb4 S2 L2 O2 S3 O3 L3 H1 H3
  dsimp only
  rename_i hK
  refine hK _ _ ?_
  clear hK
  rw [List.nil_append]
  have hdl := digest_length ps.flatten
  have hsz : (u8s (digest ps.flatten)).toArray.size = 32 := by rw [List.size_toArray, u8s_length, hdl]
  have hth : w4.there w.heap.size 0 (u8s (digest ps.flatten)).toArray.size := there_of_block O4.out 0 _ (by rw [hsz]; decide)
  have hend : ((w4.setCells w.heap.size 0 (u8s (digest ps.flatten)).toArray.toList).heap[w.heap.size]? = some (.cells (u8s (digest ps.flatten)).toArray 59 (0, 0))) := by
    have := heap_setCells w.heap.size 59 (0, 0) (u8s (digest ps.flatten)) 0 w4 _ O4.out (by rw [u8s_length, u8s_length, pad_length (by decide), hdl]; decide)
    rw [this, Nat.zero_add, List.take_zero, List.nil_append, List.drop_of_length_le (by rw [u8s_length, u8s_length, pad_length (by decide), hdl]; decide), List.append_nil]
  have HE := Lib.hid hend
  clear hend
  refine wpList_store_mid rfl 59 _ _ rfl w.heap.size 0 _ rfl rfl hth (by rw [hsz]; kernel_rfl) (u8s_cells _) ?_
  clear hth
  have HB := Lib.hid (below_setCells w.heap.size (Nat.le_refl _) (u8s (digest ps.flatten)).toArray.toList 0 _ L4.out)
  generalize w4.setCells w.heap.size 0 (u8s (digest ps.flatten)).toArray.toList = wz at HE HB
  go_wp2_with fail
  exact bodyPost_ret (v := .agg (u8s (digest ps.flatten)).toArray) (results_cell_row rfl _ _ w.heap.size 59 _ (0, 0) _ rfl HE.out Tryd.underlying59 rfl (by rw [hsz]; kernel_rfl)) rfl ⟨rfl, HB.out⟩
end Sha
end Go.Proofs.YtoiidedigbfnaaaDoor
/- Parts of memory laid, digests in a block: for the walks of packages hash and mac and of what calls them; no law is named here. -/
set_option maxRecDepth 100000
namespace Go.Proofs.YtoiidedigbfnaaaDoor
open Go.RowKit
namespace Sha
theorem parts_none (w : World) : PartsIn w (.slice none 0 0) [] := ⟨none, 0, rfl, .inl rfl⟩
theorem dg_size (m : List Nat) : (u8s (digest m)).toArray.size = 32 := by rw [List.size_toArray, u8s_length, digest_length]
theorem put_dg {w : World} {N : Nat} (h : w.heap[N]? = some (.cells (u8s (pad 32 [])).toArray 59 (0, 0))) (m : List Nat) :
    (w.setCells N 0 (u8s (digest m)).toArray.toList).heap[N]? = some (.cells (u8s (digest m)).toArray 59 (0, 0)) := by
  have hdl := digest_length m
  have := heap_setCells N 59 (0, 0) (u8s (digest m)) 0 w _ h (by rw [u8s_length, u8s_length, pad_length (by decide), hdl]; decide)
  rw [this, Nat.zero_add, List.take_zero, List.nil_append, List.drop_of_length_le (by rw [u8s_length, u8s_length, pad_length (by decide), hdl]; decide), List.append_nil]
theorem dg_there {w : World} {N : Nat} (h : w.heap[N]? = some (.cells (u8s (pad 32 [])).toArray 59 (0, 0))) (m : List Nat) : w.there N 0 (u8s (digest m)).toArray.size :=
  there_of_block h 0 _ (by rw [dg_size]; decide)
theorem dg_info (m : List Nat) : (Tryd.prog.info? 59).map (·.size) = some (u8s (digest m)).toArray.size := by rw [dg_size]; kernel_rfl
/-- A digest lies in block N. -/
def DgAt (w : World) (N : Nat) (m : List Nat) : Prop := w.heap[N]? = some (.cells (u8s (digest m)).toArray 59 (0, 0))
theorem dg_cell {w : World} {N : Nat} {m : List Nat} (h : DgAt w N m) (i : Nat) (hi : i < 32) : w.cell? ⟨N, i, none⟩ = some (.int .u8 (((digest m).getD i 0 : Nat) : Int)) :=
  (cell_of_row w N i _ _ _ h).trans (u8s_at (by rw [digest_length]; exact hi))

theorem bytesat_below {w w1 : World} {b : Nat} {v : Value} {xs : List Nat} (h : BytesAt w b v xs) (hb : Below w.heap.size w w1) : BytesAt w1 b v xs := by
  obtain ⟨ad, cap, rfl, hcap, hc⟩ := h
  refine ⟨ad, cap, rfl, hcap, ?_⟩
  rcases hc with h0 | ⟨g, off, rfl, hne, hc⟩
  · exact .inl h0
  · exact .inr ⟨g, off, rfl, hne, fun j hj => (hb.cell (p := ⟨g, off + j, none⟩) (block_lt_of_cell (hc j hj))).trans (hc j hj)⟩
/-- A list of parts that the call has just laid. -/
theorem parts_laid {w0 w : World} (ho : Below w0.heap.size w0 w) (vs : List Value) (ps : List (List Nat)) (hl : vs.length = ps.length) (h : ∀ j, j < ps.length → BytesIn w0 (vs.getD j undef) (ps.getD j [])) {b : Nat} (hb : w0.heap.size ≤ b) (hb2 : b < w.heap.size) (n : Nat) (hn : n = ps.length) :
    PartsAt (w.alloc (.cells vs.toArray 22)) b (.slice (some ⟨w.heap.size, 0, none⟩) n n) ps := by
  subst hn
  refine ⟨_, ps.length, rfl, .inr ⟨w.heap.size, 0, rfl, by omega, fun j hj => ⟨vs.getD j undef, ?_, ?_⟩⟩⟩
  · rw [cell_of_row _ w.heap.size (0 + j) _ _ _ (heap_alloc_new w _), Nat.zero_add]
    have hj2 : j < vs.length := by omega
    simp [List.getD_eq_getElem?_getD, hj2]
  · exact bytesat_below (bytes_in (h j hj) hb) (ho.alloc ho.size _)
theorem parts_laid_in {w0 w : World} (ho : Below w0.heap.size w0 w) (vs : List Value) (ps : List (List Nat)) (hl : vs.length = ps.length) (h : ∀ j, j < ps.length → BytesIn w0 (vs.getD j undef) (ps.getD j [])) (n : Nat) (hn : n = ps.length) :
    PartsIn (w.alloc (.cells vs.toArray 22)) (.slice (some ⟨w.heap.size, 0, none⟩) n n) ps := by
  subst hn
  refine ⟨_, ps.length, rfl, .inr ⟨w.heap.size, 0, rfl, fun j hj => ⟨vs.getD j undef, ?_, ?_⟩⟩⟩
  · rw [cell_of_row _ w.heap.size (0 + j) _ _ _ (heap_alloc_new w _), Nat.zero_add]
    have hj2 : j < vs.length := by omega
    simp [List.getD_eq_getElem?_getD, hj2]
  · exact bytes_below (h j hj) (ho.alloc ho.size _)
/-- Two sums side by side. -/
structure Two (w0 w : World) (b1 b2 : Nat) (m1 m2 : List Nat) : Prop where
  old : Below w0.heap.size w0 w
  s1 : SumAt w b1 m1
  s2 : SumAt w b2 m2
  ne : b1 ≠ b2
  h1 : w0.heap.size ≤ b1
  h2 : w0.heap.size ≤ b2
theorem sum_lt {w : World} {b : Nat} {m : List Nat} (h : SumAt w b m) : b < w.heap.size := by obtain ⟨blk, hr, _⟩ := h; exact lt_of_heap hr
theorem sum_grown {w w1 : World} {b b2 : Nat} {m : List Nat} (h : SumAt w b m) (hg : w.grownBy w1 (some b2)) (hne : b ≠ b2) : SumAt w1 b m := by
  obtain ⟨blk, hr, hi⟩ := h
  exact ⟨blk, (hg.block _ (lt_of_heap hr) (by intro e; injection e with e; exact hne e)).trans hr, hi⟩
theorem Two.below {w0 w w1 : World} {b1 b2 : Nat} {m1 m2 : List Nat} (h : Two w0 w b1 b2 m1 m2) (hb : Below w.heap.size w w1) : Two w0 w1 b1 b2 m1 m2 :=
  ⟨h.old.trans (hb.mono h.old.size), sum_below h.s1 hb, sum_below h.s2 hb, h.ne, h.h1, h.h2⟩
theorem Two.alloc {w0 w : World} {b1 b2 : Nat} {m1 m2 : List Nat} (h : Two w0 w b1 b2 m1 m2) (o : Obj) : Two w0 (w.alloc o) b1 b2 m1 m2 := h.below ((Below.refl _ _).alloc (Nat.le_refl _) _)
theorem Two.add1 {w0 w w1 : World} {b1 b2 : Nat} {m1 m2 m : List Nat} (h : Two w0 w b1 b2 m1 m2) (hs : SumAt w1 b1 m) (hg : w.grownBy w1 (some b1)) : Two w0 w1 b1 b2 m m2 :=
  ⟨h.old.grown hg h.old.size (by intro k hk; injection hk with hk; rw [← hk]; exact h.h1), hs, sum_grown h.s2 hg (Ne.symm h.ne), h.ne, h.h1, h.h2⟩
theorem Two.add2 {w0 w w1 : World} {b1 b2 : Nat} {m1 m2 m : List Nat} (h : Two w0 w b1 b2 m1 m2) (hs : SumAt w1 b2 m) (hg : w.grownBy w1 (some b2)) : Two w0 w1 b1 b2 m1 m :=
  ⟨h.old.grown hg h.old.size (by intro k hk; injection hk with hk; rw [← hk]; exact h.h2), sum_grown h.s1 hg h.ne, hs, h.ne, h.h1, h.h2⟩
theorem one_part {w : World} {v : Value} {l : List Nat} (h : BytesIn w v l) : PartsIn (w.alloc (.cells #[v] 22)) (.slice (some ⟨w.heap.size, 0, none⟩) 1 1) [l] :=
  parts_laid_in (Below.refl _ w) [v] [l] rfl (fun | 0, _ => h) 1 rfl
end Sha
end Go.Proofs.YtoiidedigbfnaaaDoor
/- The small functions of package mac return what the plain functions say. -/
set_option maxRecDepth 100000
namespace Go.Proofs.YtoiidedigbfnaaaDoor
open Go.RowKit
namespace Sha
theorem gsetRow' (w : World) (b : Nat) (cs : Array Value) : w.grownBy (w.setRow b cs) (some b) := gsetRow w b cs
theorem ofInt_8 (a : Nat) (ha : a < 256) : (BitVec.ofInt 8 (a : Int)).toNat = a := by
  rw [BitVec.ofInt_natCast, BitVec.toNat_ofNat]; exact Nat.mod_eq_of_lt (by omega)
theorem u8_or_nat (a b : Nat) (ha : a < 256) (hb : b < 256) : bits .or .u8 (a : Int) (b : Int) = ((a ||| b : Nat) : Int) := by
  have hx : a ||| b < 2 ^ 8 := Nat.or_lt_two_pow ha hb
  show IntKind.u8.wrap ((BitVec.ofInt 8 (a : Int) ||| BitVec.ofInt 8 (b : Int)).toNat : Int) = _
  rw [BitVec.toNat_or, ofInt_8 a ha, ofInt_8 b hb, IntWalk.u8_in]
  omega
theorem u8_xor_nat (a b : Nat) (ha : a < 256) (hb : b < 256) : bits .xor .u8 (a : Int) (b : Int) = ((a ^^^ b : Nat) : Int) := by
  have hx : a ^^^ b < 2 ^ 8 := Nat.xor_lt_two_pow ha hb
  show IntKind.u8.wrap ((BitVec.ofInt 8 (a : Int) ^^^ BitVec.ofInt 8 (b : Int)).toNat : Int) = _
  rw [BitVec.toNat_xor, ofInt_8 a ha, ofInt_8 b hb, IntWalk.u8_in]
  omega
/-- A copy into a block of bytes that is known whole, from its beginning on. -/
theorem copy_row {ops : Array Oper} {rest : List Oper} {o : Oper} {a : Act} {Q : Exit → Act → World → Prop} {w : World} (hgd : o.guard = none) (d s : Operand)
    (ho : o.op = .call { callee := .builtin .copy, args := #[d, s], argTypes := #[22, 22] }) (T : TypeId) (b L cd : Nat) (C ys : List Nat) (hL : C.length = L)
    (hd : a.eval d = .slice (some ⟨b, 0, none⟩) L cd) (sv : Value) (hs : a.eval s = sv) (hsrc : BytesIn w sv ys) (hb : w.heap[b]? = some (.cells (u8s C).toArray T (0, 0)))
    (h : ∀ w1, w1.heap[b]? = some (.cells (u8s (ys.take L ++ C.drop ys.length)).toArray T (0, 0)) → w.grownBy w1 (some b) → wpList Tryd.prog ops Q rest (a.put o.dst (.int .i64 (min ys.length L : Nat))) w1) :
    wpList Tryd.prog ops Q (o :: rest) a w := by
  obtain ⟨ad, cap, rfl, hcap, hc⟩ := hsrc
  have hmin : ∀ n m : Nat, Nat.min n m = min n m := fun _ _ => rfl
  rcases hc with h0 | ⟨g, off, rfl, hc⟩
  · subst h0
    refine wpList_copy_nothing hgd d s 22 22 ho 5 Tryd.underlying22 (by kernel_rfl) _ _ L cd _ cap hd hs (by simp) ?_
    have := h w (by simpa using hb) (grefl _ _)
    simpa [goInt] using this
  · have hyl : (ys.take L).length = min ys.length L := by rw [List.length_take]; omega
    have hcl : (u8s (ys.take L)).length = min ys.length L := by rw [u8s_length, hyl]
    refine wpList_copy_own hgd d s 22 22 ho 5 Tryd.underlying22 (by kernel_rfl) b 0 L cd ⟨g, off, none⟩ ys.length cap hd hs _ T hb (u8s (ys.take L)) ?_ ?_ ?_ (u8s_one _) ?_
    · rw [hcl, hmin]
    · intro j v hj
      have hjl : j < (u8s (ys.take L)).length := by
        rcases Nat.lt_or_ge j (u8s (ys.take L)).length with h' | h'
        · exact h'
        · simp [h'] at hj
      rw [hcl] at hjl
      have hjy : j < ys.length := by omega
      rw [Addr.add_mid, hc j hjy, ← hj]
      have hjL : j < L := by omega
      simp [u8s, hjL, hjy]
    · rw [hcl]; simp [u8s_length]; omega
    · rw [show goInt (u8s (ys.take L)).length = .int .i64 (min ys.length L : Nat) by rw [hcl]; rfl]
      refine h _ ?_ (gsetRow _ _ _)
      rw [setRow_heap w b _ _ T _ hb]
      have e : (u8s C).drop (0 + (u8s (ys.take L)).length) = u8s (C.drop ys.length) := by
        rw [hcl, Nat.zero_add]
        rcases Nat.lt_or_ge L ys.length with h' | h'
        · rw [Nat.min_eq_right (Nat.le_of_lt h'), List.drop_of_length_le (by rw [u8s_length]; omega), List.drop_of_length_le (by omega)]; rfl
        · rw [Nat.min_eq_left h']; simp [u8s]
      have : ((u8s C).toArray.toList.take 0 ++ (u8s (ys.take L) ++ (u8s C).toArray.toList.drop (0 + (u8s (ys.take L)).length))) = u8s (ys.take L ++ C.drop ys.length) := by
        show (u8s C).take 0 ++ (u8s (ys.take L) ++ (u8s C).drop _) = _
        rw [e]; simp [u8s]
      rw [this]

set_option maxRecDepth 100000 in
set_option maxHeartbeats 1000000 in
theorem equal_any (v1 v2 : Value) (xs ys : List Nat) (w : World) (h1 : BytesIn w v1 xs) (h2 : BytesIn w v2 ys) (hx8 : ∀ x ∈ xs, x < 256) (hy8 : ∀ x ∈ ys, x < 256) (hl : xs.length < 1000000) (_ : ys.length < 1000000) :
    Calls Tryd.prog 20 #[v1, v2] w fun e w' => e = .returned (.bool (decide (xs = ys))) ∧ ∃ k, w' = w.drewN k := by
  obtain ⟨ad1, c1, rfl, _, h1⟩ := h1
  obtain ⟨ad2, c2, rfl, _, h2⟩ := h2
  have H1 := Lib.hid h1
  have H2 := Lib.hid h2
  clear h1 h2
  by_cases hne : xs.length = ys.length
  · have HD := Lib.hid (differ_zero xs ys)
    have HQ := Lib.hid (fun h => eq_of_getD (xs := xs) (ys := ys) hne h)
    have HL := Lib.hid hne
    rw [hne] at hl
    rw [← hne] at hl
    rw [← hne]
    clear hne
    go_enter Tryd.func20, Tryd.ntmps20
    go_wp2_with fail
    go_loopw [5, 14] (fun d i wr => ∃ k : Nat, k ≤ xs.length ∧ i = .int .i64 k ∧ d = .int .u8 ((differ xs ys k : Nat) : Int) ∧ ∃ n, wr = w.drewN n) (fun _ i _ => xs.length - (intOf i).toNat)
    case atStart => exact ⟨0, Nat.zero_le _, rfl, rfl, 0, rfl⟩
    case round =>
      obtain ⟨k, hk, rfl, rfl, n, rfl⟩ := hrel
      by_cases hlt : k < xs.length
      · rcases H1.out with h0 | ⟨g1, o1, rfl, hc1⟩
        · rw [h0] at hlt; simp at hlt
        rcases H2.out with h0 | ⟨g2, o2, rfl, hc2⟩
        · have := HL.out; rw [h0, List.length_nil] at this; omega
        have d1 := hc1 k hlt
        have d2 := hc2 k (by have := HL.out; omega)
        have hx := getD_lt hx8 (by decide) k
        have hy := getD_lt hy8 (by decide) k
        have HS := Lib.hid (show differ xs ys (k + 1) = differ xs ys k ||| (xs.getD k 0 ^^^ ys.getD k 0) from rfl)
        have hd := differ_lt hx8 hy8 k
        generalize xs.getD k 0 = x at d1 hx HS
        generalize ys.getD k 0 = y at d2 hy HS
        generalize differ xs ys k = d at hd HS
        have hi0 : (0 : Int) ≤ (k : Int) := by omega
        have hi1 : (k : Int) < (xs.length : Int) := by omega
        clear hc1 hc2
        go_wp2_with fail
        go_quiet (fail)
        go_wp2_with fail
        go_roundw
        case rel =>
          refine ⟨k + 1, by omega, by go_num, ?_, n + nq, rfl⟩
          rw [HS.out, u8_xor_nat _ _ hx hy, u8_or_nat _ _ hd (xor8_lt hx hy)]
        case measure => simp [intOf]; omega
      · have hge : xs.length ≤ k := by omega
        have e : k = xs.length := by omega
        subst e
        clear hlt
        have hdec : decide (xs = ys) = (differ xs ys xs.length == 0) := by
          rw [Bool.eq_iff_iff]
          simp only [decide_eq_true_eq, beq_iff_eq]
          constructor
          · intro h; exact (HD.out _).2 (fun i hi => by rw [h])
          · intro h; exact HQ.out ((HD.out _).1 h)
        have HDEC := Lib.hid hdec
        clear hdec
        generalize differ xs ys xs.length = d at HDEC
        go_wp2_with fail
        go_ret
        refine ⟨?_, n, rfl⟩
        show Ending.returned (.bool ((d : Int) == 0)) = _
        have e2 : ((d : Int) == 0) = (d == 0) := by rw [Bool.eq_iff_iff]; simp
        rw [e2, HDEC.out]
  · have hb : ((xs.length : Int) != (ys.length : Int)) = true := by simp; omega
    have HF := Lib.hid (show decide (xs = ys) = false by simp; intro h; exact hne (by rw [h]))
    clear hb
    go_enter Tryd.func20, Tryd.ntmps20
    have HNE := Lib.hid hne
    clear hne
    go_wp2_with fail
    · go_ret
      refine ⟨?_, 0, rfl⟩
      rw [HF.out]; rfl
    · exfalso
      have h : ((xs.length : Int) != (ys.length : Int)) = false := by assumption
      have := HNE.out
      simp at h
      omega

/-- The memory of 'turned': the block, turned as far as k. -/
def turnedTo (l : List Nat) (c k : Nat) : List Nat := (xored l c).take k ++ l.drop k
theorem turnedTo_zero (l : List Nat) (c : Nat) : turnedTo l c 0 = l := by simp [turnedTo]
theorem turnedTo_full (l : List Nat) (c k : Nat) (h : l.length ≤ k) : turnedTo l c k = xored l c := by
  simp [turnedTo, List.drop_of_length_le h, List.take_of_length_le (show (xored l c).length ≤ k by rw [xored_length]; exact h)]
theorem turnedTo_at (l : List Nat) (c k : Nat) (h : k < l.length) : (turnedTo l c k).getD k 0 = l.getD k 0 := by
  have e : ((xored l c).take k).length = k := by rw [List.length_take, xored_length]; omega
  simp [turnedTo, List.getD_eq_getElem?_getD, List.getElem?_append_right (Nat.le_of_eq e), e, h]
theorem turnedTo_length (l : List Nat) (c k : Nat) (h : k ≤ l.length) : (turnedTo l c k).length = l.length := by
  simp [turnedTo, xored_length]; omega
theorem turnedTo_next (l : List Nat) (c k : Nat) (h : k < l.length) : (turnedTo l c k).set k (l.getD k 0 ^^^ c) = turnedTo l c (k + 1) := by
  have e : ((xored l c).take k).length = k := by rw [List.length_take, xored_length]; omega
  have h1 : k < (xored l c).length := by rw [xored_length]; exact h
  unfold turnedTo
  rw [List.set_append_right _ _ (Nat.le_of_eq e), e, Nat.sub_self, List.drop_eq_getElem_cons h, List.set_cons_zero, List.take_succ_eq_append_getElem h1]
  have : (xored l c)[k] = l.getD k 0 ^^^ c := by simp [xored, h]
  rw [this]; simp
theorem drop_cell {w : World} {b : Nat} {l : List Nat} {T : TypeId} (h : w.heap[b]? = some (.cells (u8s l).toArray T (0, 0))) (k : Nat) (hk : k < l.length) :
    w.cell? ⟨b, k, none⟩ = some (.int .u8 ((l.getD k 0 : Nat) : Int)) := (cell_of_row w b k _ _ _ h).trans (u8s_at hk)
set_option maxRecDepth 100000 in
set_option maxHeartbeats 1000000 in
theorem turned8_any (l : List Nat) (c : Nat) (w : World) (hl : l.length = 64) (h8 : ∀ x ∈ l, x < 256) (hc : c < 256) :
    Calls Tryd.prog 40 #[.agg (u8s l).toArray, .int .u8 (c : Int)] w fun e w' =>
      e = .returned (.slice (some ⟨w.heap.size, 0, none⟩) 64 64) ∧ w'.heap[w.heap.size]? = some (.cells (u8s (xored l c)).toArray 98 (0, 0)) ∧ Below w.heap.size w w' := by
  have HL := Lib.hid hl
  have H8 := Lib.hid h8
  clear hl h8
  go_enter Tryd.func40, Tryd.ntmps40
  go_upto_region 1 with (fail)
  have h1 := heap_alloc_new w (.cells (u8s l).toArray 98)
  have h3 : Below w.heap.size w (w.alloc (.cells (u8s l).toArray 98)) := (Below.refl _ _).alloc (Nat.le_refl _) _
  generalize w.alloc (.cells (u8s l).toArray 98) = w1 at h1 h3
  have H1 := Lib.hid h1
  have H3 := Lib.hid h3
  clear h1 h3
  go_wp2_with fail
  go_loopw [6] (fun i wr => ∃ k : Nat, k ≤ 64 ∧ i = .int .i64 k ∧ wr.heap[w.heap.size]? = some (.cells (u8s (turnedTo l c k)).toArray 98 (0, 0)) ∧ Below w.heap.size w wr) (fun i _ => 64 - (intOf i).toNat)
  case atStart => exact ⟨0, Nat.zero_le _, rfl, by rw [turnedTo_zero]; exact H1.out, H3.out⟩
  case round =>
    obtain ⟨k, hk, rfl, hb, ho⟩ := hrel
    by_cases hlt : k < 64
    · have hc0 := drop_cell hb k (by rw [turnedTo_length _ _ _ (by rw [HL.out]; omega), HL.out]; exact hlt)
      rw [turnedTo_at l c k (by rw [HL.out]; exact hlt)] at hc0
      have hf : wr.frozen? ⟨w.heap.size, k, none⟩ = false := frozen_of_row wr w.heap.size k _ _ hb
      have hx := getD_lt H8.out (by decide) k
      have HS := Lib.hid (turnedTo_next l c k (by rw [HL.out]; exact hlt))
      have hset := heap_setCell_same wr w.heap.size k _ _ (.int .u8 ((l.getD k 0 ^^^ c : Nat) : Int)) hb
      rw [u8s_set, HS.out] at hset
      have HB := Lib.hid hset
      have HO := Lib.hid (ho.setCell (p := ⟨w.heap.size, k, none⟩) (Nat.le_refl _) (.int .u8 ((l.getD k 0 ^^^ c : Nat) : Int)))
      generalize l.getD k 0 = x at hc0 hx HB HO
      clear hb ho hset HS
      go_wp2_with fail
      rw [u8_xor_nat x c hx hc]
      generalize wr.setCell ⟨w.heap.size, k, none⟩ (.int .u8 ((x ^^^ c : Nat) : Int)) = w2 at HB HO
      go_wp2_with fail
      go_roundw
      case rel => exact ⟨k + 1, by omega, by go_num, HB.out, HO.out⟩
      case measure => simp [intOf]; omega
    · have e : k = 64 := by omega
      subst e
      rw [turnedTo_full l c 64 (Nat.le_of_eq HL.out)] at hb
      have HB := Lib.hid hb
      have HO := Lib.hid ho
      clear hb ho hlt
      go_wp2_with fail
      go_ret
      exact ⟨rfl, HB.out, HO.out⟩
/-- The memory of 'keyBlock': its result, the block. -/
structure KMem (H : Nat) (l : List Nat) (w0 w : World) : Prop where
  res : w.heap[H]? = some (.cells (u8s (pad 64 [])).toArray 98 (0, 0))
  blk : w.heap[H + 1]? = some (.cells (u8s l).toArray 98 (0, 0))
  old : Below H w0 w
theorem KMem.below {H : Nat} {l : List Nat} {w0 w w1 : World} (h : KMem H l w0 w) (hb : Below w.heap.size w w1) : KMem H l w0 w1 :=
  ⟨(hb.block _ (lt_of_heap h.res)).trans h.res, (hb.block _ (lt_of_heap h.blk)).trans h.blk, h.old.trans (hb.mono (Nat.le_of_lt (lt_of_heap h.res)))⟩
theorem kblock_pad (k : List Nat) : (keyOf k).take 64 ++ (pad 64 []).drop (keyOf k).length = kblock k := by
  have h := keyOf_length k
  rw [List.take_of_length_le h, kblock, pad, List.nil_append, List.length_nil, Nat.sub_zero, List.drop_replicate]
theorem row_bytes {w : World} {b n c : Nat} {l : List Nat} {T : TypeId} (h : w.heap[b]? = some (.cells (u8s l).toArray T (0, 0))) (hn : n ≤ l.length) (hc : n ≤ c) : BytesIn w (.slice (some ⟨b, 0, none⟩) n c) (l.take n) := by
  have hl : (l.take n).length = n := by rw [List.length_take]; omega
  refine ⟨_, c, by rw [hl], by rw [hl]; exact hc, .inr ⟨b, 0, rfl, fun j hj => ?_⟩⟩
  rw [hl] at hj
  rw [Nat.zero_add, drop_cell h j (by omega)]
  simp [List.getD_eq_getElem?_getD, hj]
theorem bytes_len {w : World} {ad : Option Addr} {n c : Nat} {l : List Nat} (h : BytesIn w (.slice ad n c) l) : l.length = n := by
  obtain ⟨ad2, c2, hv, _⟩ := h
  injection hv with _ e _; exact e.symm
attribute [local go_sem ↓] Go.wp_at_zero Go.wp_at_succ
set_option maxRecDepth 100000 in
set_option maxHeartbeats 1000000 in
theorem keyBlock_any (ad : Option Addr) (n cap : Nat) (key : List Nat) (w : World) (hB : BytesIn w (.slice ad n cap) key) (h8 : ∀ x ∈ key, x < 256) (hn : n < 1000000) :
    Calls Tryd.prog 37 #[.slice ad n cap] w fun e w' => e = .returned (.agg (u8s (kblock key)).toArray) ∧ Below w.heap.size w w' := by
  have HB := Lib.hid hB
  have H8 := Lib.hid h8
  have HL := Lib.hid (bytes_len hB)
  clear hB h8
  have HKL := Lib.hid (kblock_length key)
  have HP := Lib.hid (kblock_pad key)
  go_enter Tryd.func37, Tryd.ntmps37
  go_upto_region 2 with (fail)
  have M0 := Lib.hid (show KMem w.heap.size (pad 64 []) w ((w.alloc (.cells (u8s (pad 64 [])).toArray 98)).alloc (.cells (u8s (pad 64 [])).toArray 98)) from
    ⟨heap_alloc2_old w _ _, heap_alloc2_new w _ _, ((Below.refl _ _).alloc (Nat.le_refl _) _).alloc (by simp) _⟩)
  change Code.wp _ _ _ _ ((w.alloc (.cells (u8s (pad 64 [])).toArray 98)).alloc (.cells (u8s (pad 64 [])).toArray 98))
  generalize (w.alloc (.cells (u8s (pad 64 [])).toArray 98)).alloc (.cells (u8s (pad 64 [])).toArray 98) = w1 at M0
  have fin : ∀ w2, KMem w.heap.size (kblock key) w w2 → Below w.heap.size w (w2.setCells w.heap.size 0 (u8s (kblock key)).toArray.toList) ∧ (w2.setCells w.heap.size 0 (u8s (kblock key)).toArray.toList).heap[w.heap.size]? = some (.cells (u8s (kblock key)).toArray 98 (0, 0)) := by
    intro w2 h
    refine ⟨below_setCells w.heap.size (Nat.le_refl _) _ 0 _ h.old, ?_⟩
    have := heap_setCells w.heap.size 98 (0, 0) (u8s (kblock key)) 0 w2 _ h.res (by rw [u8s_length, u8s_length, HKL.out]; decide)
    rw [this, Nat.zero_add, List.take_zero, List.nil_append, List.drop_of_length_le (by rw [u8s_length, u8s_length, HKL.out]; decide), List.append_nil]
  have FIN := Lib.hid fin
  have hsz : (u8s (kblock key)).toArray.size = 64 := by rw [List.size_toArray, u8s_length, HKL.out]
  have HSZ := Lib.hid hsz
  clear fin hsz
  by_cases h64 : 64 < n
  · have hd : decide ((64 : Int) < (n : Int)) = true := by simp; omega
    go_wp2_with fail
    refine (of_any [key] _ _ (one_part (bytes_below HB.out M0.out.old)) (by simpa using H8.out) (by have := HL.out; simp; omega) (by simp)).mono ?_
    rintro e w2 ⟨rfl, hb2⟩
    rw [show [key].flatten = key by simp]
    have M2 := Lib.hid ((M0.out.below ((Below.refl _ _).alloc (Nat.le_refl _) (.cells #[.slice ad n cap] 22))).below hb2)
    clear hb2 M0
    dsimp only
    rename_i hK
    refine hK _ _ ?_
    clear hK
    refine wpList_plain rfl (fun K hK => ?_)
    go_simp
    refine hK _ _ ?_
    clear hK K
    have hbk : (w2.alloc (.cells (u8s (pad 32 [])).toArray 59)).heap[w2.heap.size]? = some (.cells (u8s (pad 32 [])).toArray 59 (0, 0)) := heap_alloc_new w2 _
    have M3 := Lib.hid (M2.out.below ((Below.refl _ _).alloc (Nat.le_refl _) (.cells (u8s (pad 32 [])).toArray 59)))
    have hlt : w.heap.size + 2 ≤ w2.heap.size := lt_of_heap M2.out.blk
    change wpList _ _ _ _ _ (w2.alloc (.cells (u8s (pad 32 [])).toArray 59))
    generalize w2.alloc (.cells (u8s (pad 32 [])).toArray 59) = w3 at hbk M3
    clear M2
    generalize w2.heap.size = N at hbk hlt
    refine wpList_store_mid rfl 59 _ _ rfl N 0 _ rfl rfl (dg_there hbk _) (dg_info _) (u8s_cells _) ?_
    have D4 := Lib.hid (show DgAt (w3.setCells N 0 (u8s (digest key)).toArray.toList) N key from put_dg hbk _)
    have M4 := Lib.hid (show KMem w.heap.size (pad 64 []) w (w3.setCells N 0 (u8s (digest key)).toArray.toList) from
      ⟨((gsetCells N _ 0 w3).block _ (lt_of_heap M3.out.res) (by intro e; injection e with e; omega)).trans M3.out.res, ((gsetCells N _ 0 w3).block _ (lt_of_heap M3.out.blk) (by intro e; injection e with e; omega)).trans M3.out.blk, below_setCells N (by omega) _ 0 _ M3.out.old⟩)
    change wpList _ _ _ _ _ (w3.setCells N 0 (u8s (digest key)).toArray.toList)
    generalize w3.setCells N 0 (u8s (digest key)).toArray.toList = w4 at D4 M4
    clear hbk M3
    have HK := Lib.hid (show keyOf key = digest key by unfold keyOf; rw [if_pos (by rw [HL.out]; exact h64)])
    clear hd
    go_wp2_with fail
    go_still_tail 2, (by kernel_rfl)
    change wpList _ _ _ _ _ w4.drew
    have D5 := Lib.hid (show DgAt w4.drew N key from D4.out)
    have M5 := Lib.hid (M4.out.below ((Below.refl w4.heap.size w4).drew))
    generalize w4.drew = w5 at D5 M5
    refine copy_row rfl (.tmp 11) (.tmp 12) rfl 98 (w.heap.size + 1) 64 64 (pad 64 []) (keyOf key) (by decide) rfl _ rfl (by rw [HK.out]; exact (row_bytes D5.out (n := 32) (c := 32) (by rw [digest_len]; decide) (by decide))) M5.out.blk ?_
    intro w6 hb6 hg6
    rw [HP.out] at hb6
    have M6 := Lib.hid (show KMem w.heap.size (kblock key) w w6 from ⟨(hg6.block _ (lt_of_heap M5.out.res) (by simp)).trans M5.out.res, hb6, M5.out.old.grown hg6 (Nat.le_of_lt (lt_of_heap M5.out.res)) (by intro k hk; injection hk with hk; omega)⟩)
    clear hb6 hg6 M5 D5 M4 D4
    go_upto_region 6 with (fail)
    refine wp_region_lit ?_
    refine wpList_load_row rfl 98 _ rfl (w.heap.size + 1) rfl 98 _ _ _ M6.out.blk Tryd.underlying98 rfl (by rw [HSZ.out]; kernel_rfl) ?_
    refine wpList_store_mid rfl 98 _ _ rfl w.heap.size 0 _ rfl rfl (there_of_block M6.out.res 0 _ (by rw [HSZ.out]; decide)) (by rw [HSZ.out]; kernel_rfl) (u8s_cells _) ?_
    have FZ := Lib.hid (FIN.out w6 M6.out)
    generalize w6.setCells w.heap.size 0 (u8s (kblock key)).toArray.toList = wz at FZ
    go_wp2_with fail
    exact bodyPost_ret (v := .agg (u8s (kblock key)).toArray) (results_cell_row rfl _ _ w.heap.size 98 _ (0, 0) _ rfl FZ.out.2 Tryd.underlying98 rfl (by rw [HSZ.out]; kernel_rfl)) rfl ⟨rfl, FZ.out.1⟩
  · have hd : decide ((64 : Int) < (n : Int)) = false := by simp; omega
    have HK := Lib.hid (show keyOf key = key by unfold keyOf; rw [if_neg (by rw [HL.out]; omega)])
    have hz : n ≤ 64 := by omega
    clear h64
    go_upto_region 5 with (fail)
    refine wp_region_lit ?_
    refine wpList_plain rfl (fun K hK => ?_)
    go_simp
    refine hK _ _ ?_
    clear hK K
    refine wpList_plain rfl (fun K hK => ?_)
    go_simp
    refine hK _ _ ?_
    clear hK K
    refine copy_row rfl (.tmp 14) (.tmp 15) rfl 98 (w.heap.size + 1) 64 64 (pad 64 []) key (by decide) rfl _ rfl (bytes_below HB.out M0.out.old) M0.out.blk ?_
    intro w2 hb2 hg2
    rw [← HK.out, HP.out] at hb2
    have M2 := Lib.hid (show KMem w.heap.size (kblock key) w w2 from ⟨(hg2.block _ (lt_of_heap M0.out.res) (by simp)).trans M0.out.res, hb2, M0.out.old.grown hg2 (Nat.le_of_lt (lt_of_heap M0.out.res)) (by intro k hk; injection hk with hk; omega)⟩)
    clear hb2 hg2 M0
    go_upto_region 6 with (fail)
    refine wp_region_lit ?_
    refine wpList_load_row rfl 98 _ rfl (w.heap.size + 1) rfl 98 _ _ _ M2.out.blk Tryd.underlying98 rfl (by rw [HSZ.out]; kernel_rfl) ?_
    refine wpList_store_mid rfl 98 _ _ rfl w.heap.size 0 _ rfl rfl (there_of_block M2.out.res 0 _ (by rw [HSZ.out]; decide)) (by rw [HSZ.out]; kernel_rfl) (u8s_cells _) ?_
    have FZ := Lib.hid (FIN.out w2 M2.out)
    generalize w2.setCells w.heap.size 0 (u8s (kblock key)).toArray.toList = wz at FZ
    go_wp2_with fail
    exact bodyPost_ret (v := .agg (u8s (kblock key)).toArray) (results_cell_row rfl _ _ w.heap.size 98 _ (0, 0) _ rfl FZ.out.2 Tryd.underlying98 rfl (by rw [HSZ.out]; kernel_rfl)) rfl ⟨rfl, FZ.out.1⟩
end Sha
end Go.Proofs.YtoiidedigbfnaaaDoor
/- 'Code' of package mac is the code of its parts. -/
set_option maxRecDepth 100000
namespace Go.Proofs.YtoiidedigbfnaaaDoor
open Go.RowKit
namespace Sha
theorem new_ex (w : World) : Calls Tryd.prog 38 #[] w fun e w' => ∃ b, e = .returned (.pointer (some ⟨b, 0, none⟩)) ∧ SumAt w' b [] ∧ w.heap.size ≤ b ∧ Below w.heap.size w w' :=
  (new_any w).mono fun _ _ ⟨he, hs, hb⟩ => ⟨_, he, hs, Nat.le_refl _, hb⟩
theorem turned8_ex (l : List Nat) (c : Nat) (w : World) (hl : l.length = 64) (h8 : ∀ x ∈ l, x < 256) (hc : c < 256) :
    Calls Tryd.prog 40 #[.agg (u8s l).toArray, .int .u8 (c : Int)] w fun e w' =>
      ∃ g, e = .returned (.slice (some ⟨g, 0, none⟩) 64 64) ∧ w'.heap[g]? = some (.cells (u8s (xored l c)).toArray 98 (0, 0)) ∧ w.heap.size ≤ g ∧ Below w.heap.size w w' :=
  (turned8_any l c w hl h8 hc).mono fun _ _ ⟨he, hs, hb⟩ => ⟨_, he, hs, Nat.le_refl _, hb⟩
theorem sum_alloc {w : World} {b : Nat} {m : List Nat} (h : SumAt w b m) (o : Obj) : SumAt (w.alloc o) b m := sum_below h ((Below.refl _ _).alloc (Nat.le_refl _) _)
theorem sum_drew {w : World} {b : Nat} {m : List Nat} (h : SumAt w b m) : SumAt w.drew b m := sum_below h ((Below.refl _ _).drew)
/-- One part, laid in a block of its own, none of it in block b. -/
theorem part_at {w : World} {b p g : Nat} {l : List Nat} {T Tp : TypeId} (n : Nat) (hn : l.length = n) (hp : w.heap[p]? = some (.cells #[.slice (some ⟨g, 0, none⟩) n n] Tp (0, 0))) (hg : w.heap[g]? = some (.cells (u8s l).toArray T (0, 0))) (hpb : p ≠ b) (hgb : g ≠ b) :
    PartsAt w b (.slice (some ⟨p, 0, none⟩) 1 1) [l] := by
  subst hn
  refine ⟨_, 1, rfl, .inr ⟨p, 0, rfl, hpb, fun j hj => ⟨.slice (some ⟨g, 0, none⟩) l.length l.length, ?_, ?_⟩⟩⟩
  · obtain rfl : j = 0 := by simpa using hj
    exact cell_of_row w p 0 _ _ _ hp
  · obtain rfl : j = 0 := by simpa using hj
    refine ⟨_, l.length, rfl, Nat.le_refl _, .inr ⟨g, 0, rfl, hgb, fun i hi => ?_⟩⟩
    rw [Nat.zero_add]
    exact drop_cell hg i hi
/-- What is carried through the region: all that was there; the block's cells. -/
theorem keepS {w1 w w' : World} {N : Nat} {cs : List Value} (hN : N < w1.heap.size) (h : Below w1.heap.size w1 w ∧ w.rangeAt N 0 cs) (hb : Below w.heap.size w w') : Below w1.heap.size w1 w' ∧ w'.rangeAt N 0 cs :=
  ⟨h.1.trans (hb.mono h.1.size), fun j v hj => (hb.cell (p := ⟨N, 0 + j, none⟩) (Nat.lt_of_lt_of_le hN h.1.size)).trans (h.2 j v hj)⟩
theorem keepG {w1 w w' : World} {N b : Nat} {cs : List Value} (hN : N < w1.heap.size) (h : Below w1.heap.size w1 w ∧ w.rangeAt N 0 cs) (hb : w.grownBy w' (some b)) (hB : w1.heap.size ≤ b) : Below w1.heap.size w1 w' ∧ w'.rangeAt N 0 cs :=
  ⟨h.1.grown hb h.1.size (by intro k hk; injection hk with hk; omega), fun j v hj => hb.cell (h.2 j v hj) (by intro e; injection e with e; have e2 : N = b := e; omega)⟩
theorem keepA {w1 w : World} {N : Nat} {cs : List Value} (hN : N < w1.heap.size) (o : Obj) (h : Below w1.heap.size w1 w ∧ w.rangeAt N 0 cs) : Below w1.heap.size w1 (w.alloc o) ∧ (w.alloc o).rangeAt N 0 cs :=
  keepS hN h ((Below.refl _ _).alloc (Nat.le_refl _) _)
/-- A fresh block of 32. -/
def Free32 (w : World) (M : Nat) : Prop := w.heap[M]? = some (.cells (u8s (pad 32 [])).toArray 59 (0, 0))
theorem free_new (w : World) : Free32 (w.alloc (.cells (u8s (pad 32 [])).toArray 59)) w.heap.size := heap_alloc_new w _
theorem free_below {w w' : World} {M : Nat} (h : Free32 w M) (hb : Below w.heap.size w w') : Free32 w' M := (hb.block _ (lt_of_heap h)).trans h
theorem free_grown {w w' : World} {M b : Nat} (h : Free32 w M) (hb : w.grownBy w' (some b)) (hne : M ≠ b) : Free32 w' M := (hb.block _ (lt_of_heap h) (by intro e; injection e with e; exact hne e)).trans h
theorem free_alloc {w : World} {M : Nat} (h : Free32 w M) (o : Obj) : Free32 (w.alloc o) M := free_below h ((Below.refl _ _).alloc (Nat.le_refl _) _)
theorem free_new2 (w : World) (P : Obj) : Free32 ((w.alloc P).alloc (.cells (u8s (pad 32 [])).toArray 59)) (w.heap.size + 1) := heap_alloc2_new w _ _
theorem free_drew {w : World} {M : Nat} (h : Free32 w M) : Free32 w.drew M := h
theorem free_sum {w w' : World} {M b : Nat} {m : List Nat} (h : Free32 w M) (hs : SumAt w b m) (hg : w.grownBy w' (some b)) : Free32 w' M :=
  free_grown h hg (by
    rintro rfl
    obtain ⟨blk, hr, _⟩ := hs
    unfold Free32 at h
    rw [h] at hr
    injection hr with hr
    injection hr with _ e2 _
    exact absurd e2 (by decide))
theorem put_d {w : World} {M : Nat} {D : List Nat} (hD : (u8s D).length = 32) (h : Free32 w M) : (w.setCells M 0 (u8s D)).heap[M]? = some (.cells (u8s D).toArray 59 (0, 0)) := by
  have := heap_setCells M 59 (0, 0) (u8s D) 0 w _ h (by rw [hD, u8s_length, pad_length (by decide)]; decide)
  rw [this, Nat.zero_add, List.take_zero, List.nil_append, List.drop_of_length_le (by rw [hD, u8s_length, pad_length (by decide)]; decide), List.append_nil]
theorem bothS {w4 w : World} {N M : Nat} {D : List Nat} {cs : List Value} (h : Below w4.heap.size w4 (w.setCells M 0 (u8s D)) ∧ (w.setCells M 0 (u8s D)).rangeAt N 0 cs) (hD : (u8s D).length = 32) (hf : Free32 w M) :
    ∃ wz, w.setCells M 0 (u8s D) = wz ∧ ∃ M', wz.heap[M]? = some (.cells (u8s D).toArray 59 (0, 0)) ∧ M' = M ∧ Below w4.heap.size w4 wz :=
  ⟨_, rfl, M, put_d hD hf, rfl, h.1⟩
theorem row_all {w : World} {b n : Nat} {l : List Nat} {T : TypeId} (h : w.heap[b]? = some (.cells (u8s l).toArray T (0, 0))) (hl : l.length = n) : BytesIn w (.slice (some ⟨b, 0, none⟩) n n) l := by
  subst hl
  exact ⟨_, l.length, rfl, Nat.le_refl _, .inr ⟨b, 0, rfl, fun j hj => by rw [Nat.zero_add]; exact drop_cell h j hj⟩⟩
theorem startS {w : World} {N : Nat} {l : List Nat} {T : TypeId} (h : w.heap[N]? = some (.cells (u8s l).toArray T (0, 0))) : Below w.heap.size w w.drew ∧ w.drew.rangeAt N 0 (u8s l) :=
  ⟨(Below.refl _ _).drew, fun j v hj => by rw [Nat.zero_add]; exact (cell_of_row w N j _ _ _ h).trans (by rw [List.getElem?_toArray]; exact hj)⟩
theorem startG {w : World} {N r : Nat} {l : List Nat} {T : TypeId} (h : w.heap[N]? = some (.cells (u8s l).toArray T (0, 0))) : w.grownBy w.drew (some r) ∧ w.drew.rangeAt N 0 (u8s l) := ⟨gdrewN w 1 _, (startS h).2⟩
theorem keepGS {w1 w w' : World} {N r : Nat} {cs : List Value} (hN : N < w1.heap.size) (h : w1.grownBy w (some r) ∧ w.rangeAt N 0 cs) (hb : Below w.heap.size w w') : w1.grownBy w' (some r) ∧ w'.rangeAt N 0 cs :=
  ⟨gtrans h.1 (gbelow hb _), fun j v hj => (hb.cell (p := ⟨N, 0 + j, none⟩) (Nat.lt_of_lt_of_le hN h.1.size)).trans (h.2 j v hj)⟩
theorem keepGA {w1 w : World} {N r : Nat} {cs : List Value} (hN : N < w1.heap.size) (o : Obj) (h : w1.grownBy w (some r) ∧ w.rangeAt N 0 cs) : w1.grownBy (w.alloc o) (some r) ∧ (w.alloc o).rangeAt N 0 cs :=
  keepGS hN h ((Below.refl _ _).alloc (Nat.le_refl _) _)
theorem keepGC {w1 w : World} {N r : Nat} {cs vs : List Value} (hne : N ≠ r) (h : w1.grownBy w (some r) ∧ w.rangeAt N 0 cs) : w1.grownBy (w.setCells r 0 vs) (some r) ∧ (w.setCells r 0 vs).rangeAt N 0 cs :=
  ⟨gtrans h.1 (gsetCells r vs 0 w), fun j v hj => (gsetCells r vs 0 w).cell (h.2 j v hj) (by intro e; injection e with e; exact hne e)⟩
theorem free_there {w : World} {M : Nat} (h : Free32 w M) : w.there M 0 32 := there_of_block h 0 32 (by decide)
theorem belowS {w0 w1 w : World} {N : Nat} {cs : List Value} (hB : Below w0.heap.size w0 w1) (h : Below w1.heap.size w1 w ∧ w.rangeAt N 0 cs) : Below w0.heap.size w0 w := hB.trans (h.1.mono hB.size)
section
variable {w : World} {b g : Nat} {m l : List Nat} {T Tp : TypeId} (n : Nat) (hn : l.length = n) (hs : SumAt w b m) (hg : w.heap[g]? = some (.cells (u8s l).toArray T (0, 0))) (hbg : b < g) (Z : Obj)
include hn hs hg hbg
theorem parts3a : PartsAt (w.alloc (.cells #[.slice (some ⟨g, 0, none⟩) n n] Tp)) b (.slice (some ⟨w.heap.size, 0, none⟩) 1 1) [l] := by
  have := sum_lt hs
  exact part_at n hn (heap_alloc_new w _) ((heap_alloc_old w _ (lt_of_heap hg)).trans hg) (by omega) (by omega)
theorem parts3b : PartsAt ((w.alloc Z).alloc (.cells #[.slice (some ⟨g, 0, none⟩) n n] Tp)) b (.slice (some ⟨w.heap.size + 1, 0, none⟩) 1 1) [l] := by
  have := sum_lt hs
  have h := lt_of_heap hg
  exact part_at n hn (heap_alloc2_new w _ _) ((heap_alloc_old (w.alloc Z) _ (by simp; omega)).trans ((heap_alloc_old w _ h).trans hg)) (by omega) (by omega)
theorem parts3c : PartsAt ((w.alloc (.cells #[.slice (some ⟨g, 0, none⟩) n n] Tp)).alloc Z) b (.slice (some ⟨w.heap.size, 0, none⟩) 1 1) [l] := by
  have := sum_lt hs
  have h := lt_of_heap hg
  exact part_at n hn (heap_alloc2_old w _ _) ((heap_alloc_old (w.alloc _) _ (by simp; omega)).trans ((heap_alloc_old w _ h).trans hg)) (by omega) (by omega)
end
set_option maxRecDepth 100000 in
set_option maxHeartbeats 8000000 in
theorem code_any (ad : Option Addr) (n cap : Nat) (key : List Nat) (v : Value) (ps : List (List Nat)) (w : World) (hB : BytesIn w (.slice ad n cap) key) (h8 : ∀ x ∈ key, x < 256) (hn : n < 1000000) (hP : PartsIn w v ps) (hp8 : ∀ p ∈ ps, ∀ x ∈ p, x < 256) (hm : ps.flatten.length < 700000000) (hps : ps.length < 1000000) :
    Calls Tryd.prog 30 #[.slice ad n cap, v] w fun e w' => e = .returned (.agg (u8s (hmac key ps.flatten)).toArray) ∧ Below w.heap.size w w' := by
  have HB := Lib.hid hB
  have H8 := Lib.hid h8
  have HP := Lib.hid hP
  have HP8 := Lib.hid hp8
  have HM := Lib.hid hm
  have HPS := Lib.hid hps
  have HKL := Lib.hid (kblock_length key)
  have HK8 := Lib.hid (kblock_small h8)
  clear hB h8 hP hp8 hm hps
  go_enter Tryd.func30, Tryd.ntmps30
  go_upto_region 1 with (fail)
  have h1 : Free32 (w.alloc (.cells (u8s (pad 32 [])).toArray 59)) w.heap.size := free_new w
  have h3 : Below w.heap.size w (w.alloc (.cells (u8s (pad 32 [])).toArray 59)) := (Below.refl _ _).alloc (Nat.le_refl _) _
  change Code.wp _ _ _ _ (w.alloc (.cells (u8s (pad 32 [])).toArray 59))
  generalize w.alloc (.cells (u8s (pad 32 [])).toArray 59) = w1 at h1 h3
  have F1 := Lib.hid h1
  have B1 := Lib.hid h3
  clear h1 h3
  go_wp2_with fail
  refine (keyBlock_any ad n cap key _ (bytes_below HB.out B1.out) H8.out hn).mono ?_
  rintro e w2 ⟨rfl, hb2⟩
  have F2 := Lib.hid (free_below F1.out hb2)
  have B2 := Lib.hid (B1.out.trans (hb2.mono B1.out.size))
  clear hb2 F1 B1
  have HMK := Lib.hid (show hmac key ps.flatten = digest (xored (kblock key) 92 ++ digest (xored (kblock key) 54 ++ ps.flatten)) from rfl)
  generalize kblock key = l at HKL HK8 HMK
  have hll := HKL.out
  have hsz : (u8s l).toArray.size = 64 := by rw [List.size_toArray, u8s_length, hll]
  have HSZ := Lib.hid hsz
  clear hll hsz
  dsimp only
  rename_i hK
  refine hK _ _ ?_
  clear hK
  refine wpList_plain rfl (fun K hK => ?_)
  go_simp
  refine hK _ _ ?_
  clear hK K
  have hbk : (w2.alloc (.cells (u8s (pad 64 [])).toArray 98)).heap[w2.heap.size]? = some (.cells (u8s (pad 64 [])).toArray 98 (0, 0)) := heap_alloc_new w2 _
  have hbl := B2.out.alloc B2.out.size (.cells (u8s (pad 64 [])).toArray 98)
  have hfr := free_alloc F2.out (.cells (u8s (pad 64 [])).toArray 98)
  have hN : w.heap.size < w2.heap.size := lt_of_heap F2.out
  change wpList _ _ _ _ _ (w2.alloc (.cells (u8s (pad 64 [])).toArray 98))
  generalize w2.alloc (.cells (u8s (pad 64 [])).toArray 98) = w3 at hbk hbl hfr
  clear F2 B2
  generalize w2.heap.size = N at hbk hN
  refine wpList_store_mid rfl 98 _ _ rfl N 0 _ rfl rfl (there_of_block hbk 0 _ (by rw [HSZ.out]; decide)) (by rw [HSZ.out]; kernel_rfl) (u8s_cells _) ?_
  have hrow : (w3.setCells N 0 (u8s l).toArray.toList).heap[N]? = some (.cells (u8s l).toArray 98 (0, 0)) := by
    have := heap_setCells N 98 (0, 0) (u8s l) 0 w3 _ hbk (by rw [u8s_length, u8s_length, HKL.out]; decide)
    rw [this, Nat.zero_add, List.take_zero, List.nil_append, List.drop_of_length_le (by rw [u8s_length, u8s_length, HKL.out]; decide), List.append_nil]
  have R4 := Lib.hid hrow
  have B4 := Lib.hid (below_setCells N (Nat.le_of_lt hN) (u8s l).toArray.toList 0 _ hbl)
  have F4 := Lib.hid (free_grown hfr (gsetCells N (u8s l).toArray.toList 0 w3) (by omega))
  change wpList _ _ _ _ _ (w3.setCells N 0 (u8s l).toArray.toList)
  generalize w3.setCells N 0 (u8s l).toArray.toList = w4 at R4 B4 F4
  clear hbk hbl hfr hrow
  have hN4 : N < w4.heap.size := lt_of_heap R4.out
  have hu := Tryd.underlying98
  have hi : (Tryd.prog.info? 98).map (·.size) = some (u8s l).length := by rw [u8s_length, HKL.out]; kernel_rfl
  have HX54 := Lib.hid (xored_small (c := 54) HK8.out (by decide))
  have HXL := Lib.hid (show (xored l 54).length = 64 by rw [xored_length, HKL.out])
  have HF1 := Lib.hid (show [] ++ [xored l 54].flatten = xored l 54 by simp)
  have HDL := Lib.hid (digest_len (xored l 54 ++ ps.flatten))
  obtain ⟨D, hD⟩ : ∃ D, D = digest (xored l 54 ++ ps.flatten) := ⟨_, rfl⟩
  have HD := Lib.hid hD.symm
  have hDl : (u8s D).length = 32 := by rw [hD, u8s_length, HDL.out]
  have hDi : (Tryd.prog.info? 59).map (·.size) = some (u8s D).length := by rw [hDl]; kernel_rfl
  have hD1 : ∀ v ∈ u8s D, v.oneCell' = true := u8s_one D
  clear hD
  go_wp2_with fail
  go_region_held3 (fun w' => Below w4.heap.size w4 w' ∧ w'.rangeAt N 0 (u8s l))
      (first | exact startS R4.out | exact keepS hN4 (by assumption) hb | exact keepG hN4 (by assumption) hg hge4 | exact keepA hN4 _ (by assumption) | exact keepG hN4 (by assumption) (gsetCells _ _ 0 _) (by first | exact Nat.le_refl _ | (have h1 := sum_lt hsn; omega) | (have h1 := sum_lt hst; omega) | (have h1 := sum_lt hsa; omega) | (have h1 := sum_lt hss; omega) | (have h1 := sum_lt hss; have h2 := hb.size; omega)))
      (first
        | (go_at_call 38; refine (new_ex _).mono ?_; rintro e wn ⟨bn, rfl, hsn, hbn, hb⟩; have hge4 := Nat.le_trans (And.left (by assumption : Below w4.heap.size w4 _ ∧ World.rangeAt _ N 0 (u8s l))).size hbn; (first | have hf := free_below (free_new _) hb | have hf := free_below (free_drew (free_new _)) hb | skip))
        | (go_at_call 40; refine (turned8_ex l 54 _ HKL.out HK8.out (by decide)).mono ?_; rintro e wt ⟨g, rfl, hxg, hg0, hb⟩; (first | (have hgn : bn < g := Nat.lt_of_lt_of_le (sum_lt hsn) hg0; have hst := sum_below hsn hb) | (have hgn : bn < g := Nat.lt_of_lt_of_le (sum_lt (sum_alloc hsn _)) hg0; have hst := sum_below (sum_alloc hsn _) hb)); (first | have hf := free_below hf hb | have hf := free_below (free_new _) hb | skip))
        | (go_at_call 39; refine (add_any bn [] [xored l 54] _ _ (by first | exact sum_alloc hst _ | exact sum_alloc (sum_alloc hst _) _) (by first | exact parts3a 64 HXL.out hst hxg hgn | exact parts3b 64 HXL.out hst hxg hgn _ | exact parts3c 64 HXL.out hst hxg hgn _) (by simpa using HX54.out) (by simp [HXL.out]) (by simp)).mono ?_; rintro e wa ⟨rfl, hsa, hg⟩; rw [HF1.out] at hsa; (first | have hf := free_sum (free_alloc hf _) (sum_alloc hst _) hg | have hf := free_sum (free_alloc (free_new _) _) (sum_alloc (sum_alloc hst _) _) hg | have hf := free_sum (free_new2 _ _) (sum_alloc (sum_alloc hst _) _) hg | skip))
        | (go_at_call 39; refine (add_any bn (xored l 54) ps v _ (by first | exact hsa | exact sum_alloc hsa _) (parts_at HP.out (belowS B4.out (by assumption)) (Nat.le_trans B4.out.size hge4)) HP8.out (by have := HM.out; have := HXL.out; omega) HPS.out).mono ?_; rintro e ws ⟨rfl, hss, hg⟩; (first | have hf := free_sum hf hsa hg | have hf := free_sum (free_new _) (sum_alloc hsa _) hg | skip))
        | (go_at_call 41; refine (end_any bn (xored l 54 ++ ps.flatten) _ (by first | exact hss | exact sum_alloc hss _) (by rw [List.length_append, HXL.out]; have := HM.out; omega)).mono ?_; rintro e we ⟨rfl, hb⟩; rw [HD.out]; (first | (have hf := free_below hf hb; have hth := free_there hf) | (have hf := free_below (free_new _) hb; have hth := free_there hf) | have hth := free_there (free_new we))))
  all_goals
    have hS := (by assumption : Below w4.heap.size w4 _ ∧ World.rangeAt _ N 0 (u8s l))
    (first | have hq := bothS hS hDl hf | have hq := bothS hS hDl (free_new we))
    obtain ⟨wz, hwz, M, hdz, hM, hbz⟩ := hq
    rw [hwz]
    rw [← hM] at hdz ⊢
    clear hS hM
    have HDZ := Lib.hid hdz
    have HBZ := Lib.hid hbz
    clear hwz hdz hbz
    have hRZ := (HBZ.out.block N hN4).trans R4.out
    have hFZ := free_below F4.out HBZ.out
    have hNZ : N < wz.heap.size := Nat.lt_of_lt_of_le hN4 HBZ.out.size
    have HX92 := Lib.hid (xored_small (c := 92) HK8.out (by decide))
    have HXL2 := Lib.hid (show (xored l 92).length = 64 by rw [xored_length, HKL.out])
    have hDl2 : D.length = 32 := by rw [← HD.out, HDL.out]
    have HDL2 := Lib.hid hDl2
    have HD8 := Lib.hid (show ∀ x ∈ D, x < 256 by rw [← HD.out]; exact digest_small _)
    clear hDl2
    have HF2 := Lib.hid (show [xored l 92, D].flatten = xored l 92 ++ D by simp)
    obtain ⟨E, hE⟩ : ∃ E, E = digest (xored l 92 ++ D) := ⟨_, rfl⟩
    have HE := Lib.hid hE.symm
    have hEl : (u8s E).length = 32 := by rw [hE, u8s_length, digest_len]
    have hEi : (Tryd.prog.info? 59).map (·.size) = some (u8s E).length := by rw [hEl]; kernel_rfl
    have hE1 : ∀ v ∈ u8s E, v.oneCell' = true := u8s_one E
    have HHM := Lib.hid (show hmac key ps.flatten = E by rw [HMK.out, HD.out, hE])
    have hNH : N ≠ w.heap.size := by omega
    clear hE hDl hDi hD1
    go_wp2_with fail
    go_region_held3 (fun w' => wz.grownBy w' (some w.heap.size) ∧ w'.rangeAt N 0 (u8s l))
      (first | exact startG hRZ | exact keepGS hNZ (by assumption) hb | exact keepGA hNZ _ (by assumption) | exact keepGC hNH (by assumption))
      (first
        | (go_at_call 40; refine (turned8_ex l 92 _ HKL.out HK8.out (by decide)).mono ?_; rintro e wt ⟨g2, rfl, hxg, hg0, hb⟩; have hf2 := free_below (free_drew hFZ) hb; have hd2 := (hb.block M (lt_of_heap (w := wz.drew) HDZ.out)).trans HDZ.out)
        | (go_at_call 42; refine (of_any [xored l 92, D] _ _ (parts_laid_in (Below.refl _ wt) [.slice (some ⟨g2, 0, none⟩) 64 64, .slice (some ⟨M, 0, none⟩) 32 32] [xored l 92, D] rfl (fun | 0, _ => row_all hxg HXL2.out | 1, _ => row_all hd2 HDL2.out) _ rfl) (by simpa using ⟨HX92.out, HD8.out⟩) (by rw [HF2.out, List.length_append, HXL2.out, HDL2.out]; decide) (by simp)).mono ?_; rintro e wo ⟨rfl, hb⟩; rw [HF2.out, HE.out]; have hf3 := free_below (free_alloc hf2 _) hb; have hth := free_there hf3))
    have hfin := (by assumption : wz.grownBy _ (some w.heap.size) ∧ World.rangeAt _ N 0 (u8s l))
    have hres := put_d hEl hf3
    have HRES := Lib.hid hres
    have HBL := Lib.hid ((B4.out.trans (HBZ.out.mono B4.out.size)).grown hfin.1 (Nat.le_trans B4.out.size HBZ.out.size) (by intro k hk; injection hk with hk; omega))
    clear hres hfin hEi hE1
    generalize wo.setCells w.heap.size 0 (u8s E) = wy at HRES HBL ⊢
    go_wp2_with fail
    exact bodyPost_ret (v := .agg (u8s E).toArray) (results_cell_row rfl _ _ w.heap.size 59 _ (0, 0) _ rfl HRES.out Tryd.underlying59 rfl (by rw [List.size_toArray, hEl]; kernel_rfl)) rfl ⟨by rw [HHM.out], HBL.out⟩
end Sha
end Go.Proofs.YtoiidedigbfnaaaDoor
/- 'Tag' of package mac is the beginning of the code. -/
set_option maxRecDepth 100000
namespace Go.Proofs.YtoiidedigbfnaaaDoor
open Go.RowKit
namespace Sha
theorem put_row {w : World} {b : Nat} {T : TypeId} {C D : List Nat} (hD : D.length = C.length) (h : w.heap[b]? = some (.cells (u8s C).toArray T (0, 0))) :
    (w.setCells b 0 (u8s D).toArray.toList).heap[b]? = some (.cells (u8s D).toArray T (0, 0)) := by
  have := heap_setCells b T (0, 0) (u8s D) 0 w _ h (by rw [u8s_length, u8s_length, hD]; omega)
  rw [this, Nat.zero_add, List.take_zero, List.nil_append, List.drop_of_length_le (by rw [u8s_length, u8s_length, hD]; exact Nat.le_refl _), List.append_nil]
/-- The memory of 'Tag': its result, a digest in block N. -/
structure TMem (H N : Nat) (D : List Nat) (w0 w : World) : Prop where
  res : w.heap[H]? = some (.cells (u8s (pad 16 [])).toArray 61 (0, 0))
  dg : w.heap[N]? = some (.cells (u8s D).toArray 59 (0, 0))
  old : Below H w0 w
theorem TMem.below {H N : Nat} {D : List Nat} {w0 w w1 : World} (h : TMem H N D w0 w) (hb : Below w.heap.size w w1) : TMem H N D w0 w1 :=
  ⟨(hb.block _ (lt_of_heap h.res)).trans h.res, (hb.block _ (lt_of_heap h.dg)).trans h.dg, h.old.trans (hb.mono (Nat.le_of_lt (lt_of_heap h.res)))⟩
theorem TMem.grown {H N M : Nat} {D : List Nat} {w0 w w1 : World} (h : TMem H N D w0 w) (hg : w.grownBy w1 (some M)) (h1 : H < M) (h2 : N ≠ M) : TMem H N D w0 w1 :=
  ⟨(hg.block _ (lt_of_heap h.res) (by intro e; injection e with e; omega)).trans h.res, (hg.block _ (lt_of_heap h.dg) (by intro e; injection e with e; omega)).trans h.dg, h.old.grown hg (Nat.le_of_lt (lt_of_heap h.res)) (by intro k hk; injection hk with hk; omega)⟩
attribute [local go_sem ↓] Go.wp_at_zero Go.wp_at_succ
set_option maxRecDepth 100000 in
set_option maxHeartbeats 2000000 in
theorem tag_any (ad : Option Addr) (n cap : Nat) (key : List Nat) (v : Value) (ps : List (List Nat)) (w : World) (hB : BytesIn w (.slice ad n cap) key) (h8 : ∀ x ∈ key, x < 256) (hn : n < 1000000) (hP : PartsIn w v ps) (hp8 : ∀ p ∈ ps, ∀ x ∈ p, x < 256) (hm : ps.flatten.length < 700000000) (hps : ps.length < 1000000) :
    Calls Tryd.prog 19 #[.slice ad n cap, v] w fun e w' => e = .returned (.agg (u8s ((hmac key ps.flatten).take 16)).toArray) ∧ Below w.heap.size w w' := by
  have HB := Lib.hid hB
  have H8 := Lib.hid h8
  have HP := Lib.hid hP
  have HP8 := Lib.hid hp8
  have HM := Lib.hid hm
  have HPS := Lib.hid hps
  clear hB h8 hP hp8 hm hps
  go_enter Tryd.func19, Tryd.ntmps19
  go_upto_region 1 with (fail)
  have h1 : (w.alloc (.cells (u8s (pad 16 [])).toArray 61)).heap[w.heap.size]? = some (.cells (u8s (pad 16 [])).toArray 61 (0, 0)) := heap_alloc_new w _
  have h3 : Below w.heap.size w (w.alloc (.cells (u8s (pad 16 [])).toArray 61)) := (Below.refl _ _).alloc (Nat.le_refl _) _
  change Code.wp _ _ _ _ (w.alloc (.cells (u8s (pad 16 [])).toArray 61))
  generalize w.alloc (.cells (u8s (pad 16 [])).toArray 61) = w1 at h1 h3
  have F1 := Lib.hid h1
  have B1 := Lib.hid h3
  clear h1 h3
  go_wp2_with fail
  refine (code_any ad n cap key v ps _ (bytes_below HB.out B1.out) H8.out hn (parts_below HP.out B1.out) HP8.out HM.out HPS.out).mono ?_
  rintro e w2 ⟨rfl, hb2⟩
  have HDL := Lib.hid (hmac_length key ps.flatten)
  generalize hD : hmac key ps.flatten = D at HDL ⊢
  have HD := Lib.hid hD
  clear hD
  have F2 := Lib.hid ((hb2.block _ (lt_of_heap F1.out)).trans F1.out)
  have B2 := Lib.hid (B1.out.trans (hb2.mono B1.out.size))
  clear hb2 F1 B1
  dsimp only
  rename_i hK
  refine hK _ _ ?_
  clear hK
  refine wpList_plain rfl (fun K hK => ?_)
  go_simp
  refine hK _ _ ?_
  clear hK K
  have hbk : (w2.alloc (.cells (u8s (pad 32 [])).toArray 59)).heap[w2.heap.size]? = some (.cells (u8s (pad 32 [])).toArray 59 (0, 0)) := heap_alloc_new w2 _
  have hbl := B2.out.alloc B2.out.size (.cells (u8s (pad 32 [])).toArray 59)
  have hfr := (heap_alloc_old w2 (.cells (u8s (pad 32 [])).toArray 59) (lt_of_heap F2.out)).trans F2.out
  have hN : w.heap.size < w2.heap.size := lt_of_heap F2.out
  change wpList _ _ _ _ _ (w2.alloc (.cells (u8s (pad 32 [])).toArray 59))
  generalize w2.alloc (.cells (u8s (pad 32 [])).toArray 59) = w3 at hbk hbl hfr
  clear F2 B2
  generalize w2.heap.size = N at hbk hN
  have hsz : (u8s D).toArray.size = 32 := by rw [List.size_toArray, u8s_length, HDL.out]
  refine wpList_store_mid rfl 59 _ _ rfl N 0 _ rfl rfl (there_of_block hbk 0 _ (by rw [hsz]; decide)) (by rw [hsz]; kernel_rfl) (u8s_cells _) ?_
  have T4 := Lib.hid (show TMem w.heap.size N D w (w3.setCells N 0 (u8s D).toArray.toList) from
    ⟨((gsetCells N _ 0 w3).block _ (lt_of_heap hfr) (by intro e; injection e with e; omega)).trans hfr, put_row (by rw [HDL.out, pad_length (by decide)]) hbk, below_setCells N (Nat.le_of_lt hN) _ 0 _ hbl⟩)
  change wpList _ _ _ _ _ (w3.setCells N 0 (u8s D).toArray.toList)
  generalize w3.setCells N 0 (u8s D).toArray.toList = w4 at T4
  clear hbk hbl hfr hsz
  go_upto_region 3 with (fail)
  have hl4 : N < w4.heap.size := lt_of_heap T4.out.dg
  have hc5 : (w4.alloc (.cells (u8s (pad 16 [])).toArray 61)).heap[w4.heap.size]? = some (.cells (u8s (pad 16 [])).toArray 61 (0, 0)) := heap_alloc_new w4 _
  have T5 := Lib.hid (T4.out.below ((Below.refl _ _).alloc (Nat.le_refl _) (.cells (u8s (pad 16 [])).toArray 61)))
  change Code.wp _ _ _ _ (w4.alloc (.cells (u8s (pad 16 [])).toArray 61))
  generalize w4.alloc (.cells (u8s (pad 16 [])).toArray 61) = w5 at hc5 T5
  clear T4
  generalize w4.heap.size = M at hc5 hl4
  have HC5 := Lib.hid hc5
  clear hc5
  go_still_tail 2, (by kernel_rfl)
  change wpList _ _ _ _ _ w5.drew
  have HC6 := Lib.hid (show w5.drew.heap[M]? = some (.cells (u8s (pad 16 [])).toArray 61 (0, 0)) from HC5.out)
  have T6 := Lib.hid (T5.out.below ((Below.refl w5.heap.size w5).drew))
  generalize w5.drew = w6 at HC6 T6
  clear HC5 T5
  refine copy_row rfl (.tmp 10) (.tmp 11) rfl 61 M 16 16 (pad 16 []) D (by decide) rfl _ rfl (row_all T6.out.dg HDL.out) HC6.out ?_
  intro w7 hb7 hg7
  have hcut : D.take 16 ++ (pad 16 []).drop D.length = D.take 16 := by
    rw [HDL.out, List.drop_of_length_le (by decide), List.append_nil]
  rw [hcut] at hb7
  have HTL := Lib.hid (show (D.take 16).length = 16 by rw [List.length_take, HDL.out]; decide)
  have T7 := Lib.hid (T6.out.grown hg7 (by omega) (by omega))
  have HB7 := Lib.hid hb7
  clear hcut hb7 hg7 HC6 T6
  generalize hE : D.take 16 = E at HTL HB7
  have HE := Lib.hid hE
  clear hE
  have hsz : (u8s E).toArray.size = 16 := by rw [List.size_toArray, u8s_length, HTL.out]
  go_upto_region 4 with (fail)
  refine wp_region_lit ?_
  refine wpList_load_row rfl 61 _ rfl M rfl 61 _ _ _ HB7.out Tryd.underlying61 rfl (by rw [hsz]; kernel_rfl) ?_
  refine wpList_store_mid rfl 61 _ _ rfl w.heap.size 0 _ rfl rfl (there_of_block T7.out.res 0 _ (by rw [hsz]; decide)) (by rw [hsz]; kernel_rfl) (u8s_cells _) ?_
  have FZ := Lib.hid (put_row (D := E) (by rw [HTL.out, pad_length (by decide)]) T7.out.res)
  have BZ := Lib.hid (below_setCells w.heap.size (Nat.le_refl _) (u8s E).toArray.toList 0 _ T7.out.old)
  generalize w7.setCells w.heap.size 0 (u8s E).toArray.toList = wz at FZ BZ
  clear hsz
  go_wp2_with fail
  exact bodyPost_ret (v := .agg (u8s E).toArray) (results_cell_row rfl _ _ w.heap.size 61 _ (0, 0) _ rfl FZ.out Tryd.underlying61 rfl (by rw [List.size_toArray, u8s_length, HTL.out]; kernel_rfl)) rfl ⟨by rw [HD.out, HE.out], BZ.out⟩
end Sha
end Go.Proofs.YtoiidedigbfnaaaDoor
