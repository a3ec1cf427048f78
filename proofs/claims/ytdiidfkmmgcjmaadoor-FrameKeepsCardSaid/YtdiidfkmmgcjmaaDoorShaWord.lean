/- 'word' of package hash returns the n-th word of a text. -/
import Derived.Test.YtdiidfkmmgcjmaaDoorShaLeaf
import Derived.Lib.SlBytesConst
import Derived.Lib.Strings
set_option maxRecDepth 100000
namespace Go.Proofs.YtdiidfkmmgcjmaaDoor
open Go.RowKit
namespace Sha

theorem extract_word (s : ByteArray) (n : Nat) : (s.extract (8 * n) (8 * n + 8)).data.toList = (s.data.toList.drop (8 * n)).take 8 := by
  rw [Lib.extract_data]; congr 1; omega
theorem bytesRow_at (t : ByteArray) (cap i : Nat) (h : i < t.size) : (bytesRow t cap)[i]? = some (.int .u8 ((t.data.toList.getD i 0).toNat : Nat)) := by
  unfold bytesRow
  have h' : i < t.data.size := h
  rw [Array.getElem?_append_left (by simpa using h')]
  have e : t.data[i]? = some t.data[i] := Array.getElem?_eq_getElem h'
  simp [e]

theorem wstep_val {a d b : Nat} (hd : d < 256) (h : wstep a d = b) : Value.int .u32 (bits .or .u32 ((a : Int) * 16 % 4294967296) ((dval d : Nat) : Int)) = .int .u32 (b : Int) := by
  rw [← h, show ((a : Int) * 16 % 4294967296) = ((a * 16 % 4294967296 : Nat) : Int) by omega, u32_or_nat _ _ (Nat.mod_lt _ (by decide)) (dval_lt hd)]; rfl

set_option maxHeartbeats 400000 in
theorem word_any (s : ByteArray) (n : Nat) (w : World) (h : 8 * n + 8 ≤ s.size) (hs : s.size ≤ 10000) :
    Calls Tryd.prog 41 #[.string s, .int .i64 n] w fun e w' => e = .returned (.int .u32 ((wordOf s.data.toList n : Nat) : Int)) ∧ Below w.heap.size w w' := by
  obtain ⟨t, ht⟩ : ∃ t, t = s.extract (8 * n) (8 * n + 8) := ⟨_, rfl⟩
  have htl : t.data.toList = (s.data.toList.drop (8 * n)).take 8 := by rw [ht, extract_word]
  have hsz : t.size = 8 := by
    have : t.data.toList.length = 8 := by rw [htl]; simp; omega
    simpa using this
  obtain ⟨cap, w1, hrun, hC, hB⟩ : ∃ cap w1, ((Go.convert 9 22 (.string (s.extract (8 * n) (8 * n + 8)))).run Tryd.prog w = .ok (.slice (some ⟨w.heap.size, 0, none⟩) 8 cap) w1) ∧
      (∀ i, i < 8 → w1.cell? ⟨w.heap.size, i, none⟩ = some (.int .u8 ((t.data.toList.getD i 0).toNat : Nat))) ∧ Below w.heap.size w w1 := by
    refine ⟨grownCap w 8 0 5, w.drew.alloc (.cells (bytesRow t (grownCap w 8 0 5)) 5 ((bytesRow t (grownCap w 8 0 5)).size, (bytesRow t (grownCap w 8 0 5)).size + 1)), ?_, fun i hi => (World.cell?_alloc_mark w.drew _ _ _ i).trans (bytesRow_at t (grownCap w 8 0 5) i (by omega)), ((Below.refl _ _).drew).alloc (Nat.le_refl _) _⟩
    rw [← ht, run_bytes_of_string (P := Tryd.prog) w 9 22 5 t Tryd.underlying9 Tryd.underlying22 Tryd.underlying5, hsz]
  have HC := Lib.hid hC
  have HT := Lib.hid htl
  have HZ := Lib.hid hsz
  have HB := Lib.hid hB
  clear hC htl hsz ht hB
  go_enter Tryd.func41, Tryd.ntmps41
  go_wp2_with fail
  go_loopw [5, 17] (fun a i wr => ∃ k : Nat, k ≤ 8 ∧ i = .int .i64 k ∧ a = .int .u32 ((wfold (t.data.toList.take k) : Nat) : Int) ∧ w1 = wr) (fun _ i _ => 8 - (intOf i).toNat)
  case atStart => exact ⟨0, Nat.zero_le _, rfl, rfl, rfl⟩
  case round =>
    obtain ⟨k, hk, rfl, rfl, rfl⟩ := hrel
    by_cases hlt : k < 8
    · have hc := HC.out k hlt
      have hb := (t.data.toList.getD k 0).toNat_lt
      have HS := Lib.hid (show wstep (wfold (t.data.toList.take k)) (t.data.toList.getD k 0).toNat = wfold (t.data.toList.take (k + 1)) by
        have hl : k < t.data.toList.length := by have := HZ.out; simpa using (by omega : k < t.size)
        rw [List.take_succ_eq_append_getElem hl, wfold_snoc]; congr 2; rw [List.getD_eq_getElem?_getD, List.getElem?_eq_getElem hl]; rfl)
      generalize (t.data.toList.getD k 0).toNat = d at hc hb HS
      generalize wfold (t.data.toList.take k) = a at HS
      go_wp2_with fail
      refine (value_any d _ hb).mono ?_
      rintro e w' ⟨rfl, rfl⟩
      go_wp2_with fail
      go_roundw
      case rel => exact ⟨k + 1, by omega, by go_num, wstep_val hb HS.out, trivial⟩
      case measure => simp [intOf]; omega
    · have hk8 : k = 8 := by omega
      subst hk8
      clear hlt hk
      go_wp2_with fail
      go_ret
      exact ⟨ret_u32 (by rw [wordOf, ← HT.out, List.take_of_length_le (by have := HZ.out; simpa using Nat.le_of_eq this)]), HB.out⟩

/-- The two published texts. -/
def beginText : List UInt8 := [54, 97, 48, 57, 101, 54, 54, 55, 98, 98, 54, 55, 97, 101, 56, 53, 51, 99, 54, 101, 102, 51, 55, 50, 97, 53, 52, 102, 102, 53, 51, 97, 53, 49, 48, 101, 53, 50, 55, 102, 57, 98, 48, 53, 54, 56, 56, 99, 49, 102, 56, 51, 100, 57, 97, 98, 53, 98, 101, 48, 99, 100, 49, 57]
def roundsText : List UInt8 := [52, 50, 56, 97, 50, 102, 57, 56, 55, 49, 51, 55, 52, 52, 57, 49, 98, 53, 99, 48, 102, 98, 99, 102, 101, 57, 98, 53, 100, 98, 97, 53, 51, 57, 53, 54, 99, 50, 53, 98, 53, 57, 102, 49, 49, 49, 102, 49, 57, 50, 51, 102, 56, 50, 97, 52, 97, 98, 49, 99, 53, 101, 100, 53, 100, 56, 48, 55, 97, 97, 57, 56, 49, 50, 56, 51, 53, 98, 48, 49, 50, 52, 51, 49, 56, 53, 98, 101, 53, 53, 48, 99, 55, 100, 99, 51, 55, 50, 98, 101, 53, 100, 55, 52, 56, 48, 100, 101, 98, 49, 102, 101, 57, 98, 100, 99, 48, 54, 97, 55, 99, 49, 57, 98, 102, 49, 55, 52, 101, 52, 57, 98, 54, 57, 99, 49, 101, 102, 98, 101, 52, 55, 56, 54, 48, 102, 99, 49, 57, 100, 99, 54, 50, 52, 48, 99, 97, 49, 99, 99, 50, 100, 101, 57, 50, 99, 54, 102, 52, 97, 55, 52, 56, 52, 97, 97, 53, 99, 98, 48, 97, 57, 100, 99, 55, 54, 102, 57, 56, 56, 100, 97, 57, 56, 51, 101, 53, 49, 53, 50, 97, 56, 51, 49, 99, 54, 54, 100, 98, 48, 48, 51, 50, 55, 99, 56, 98, 102, 53, 57, 55, 102, 99, 55, 99, 54, 101, 48, 48, 98, 102, 51, 100, 53, 97, 55, 57, 49, 52, 55, 48, 54, 99, 97, 54, 51, 53, 49, 49, 52, 50, 57, 50, 57, 54, 55, 50, 55, 98, 55, 48, 97, 56, 53, 50, 101, 49, 98, 50, 49, 51, 56, 52, 100, 50, 99, 54, 100, 102, 99, 53, 51, 51, 56, 48, 100, 49, 51, 54, 53, 48, 97, 55, 51, 53, 52, 55, 54, 54, 97, 48, 97, 98, 98, 56, 49, 99, 50, 99, 57, 50, 101, 57, 50, 55, 50, 50, 99, 56, 53, 97, 50, 98, 102, 101, 56, 97, 49, 97, 56, 49, 97, 54, 54, 52, 98, 99, 50, 52, 98, 56, 98, 55, 48, 99, 55, 54, 99, 53, 49, 97, 51, 100, 49, 57, 50, 101, 56, 49, 57, 100, 54, 57, 57, 48, 54, 50, 52, 102, 52, 48, 101, 51, 53, 56, 53, 49, 48, 54, 97, 97, 48, 55, 48, 49, 57, 97, 52, 99, 49, 49, 54, 49, 101, 51, 55, 54, 99, 48, 56, 50, 55, 52, 56, 55, 55, 52, 99, 51, 52, 98, 48, 98, 99, 98, 53, 51, 57, 49, 99, 48, 99, 98, 51, 52, 101, 100, 56, 97, 97, 52, 97, 53, 98, 57, 99, 99, 97, 52, 102, 54, 56, 50, 101, 54, 102, 102, 51, 55, 52, 56, 102, 56, 50, 101, 101, 55, 56, 97, 53, 54, 51, 54, 102, 56, 52, 99, 56, 55, 56, 49, 52, 56, 99, 99, 55, 48, 50, 48, 56, 57, 48, 98, 101, 102, 102, 102, 97, 97, 52, 53, 48, 54, 99, 101, 98, 98, 101, 102, 57, 97, 51, 102, 55, 99, 54, 55, 49, 55, 56, 102, 50]
theorem begin_word : ∀ k, k < 8 → wordOf beginText k = beginWords.getD k 0 := by decide +kernel
theorem round_word : ∀ k, k < 64 → wordOf roundsText k = roundWords.getD k 0 := by decide +kernel
theorem begin_size : beginText.length = 64 := by decide +kernel
theorem rounds_size : roundsText.length = 512 := by decide +kernel
theorem kword_any (s : ByteArray) (hs : s.data.toList = roundsText) (k : Nat) (hk : k < 64) (w : World) :
    Calls Tryd.prog 41 #[.string s, .int .i64 k] w fun e w' => e = .returned (.int .u32 ((roundWords.getD k 0 : Nat) : Int)) ∧ Below w.heap.size w w' := by
  have hz : s.size = 512 := by
    have h : s.data.toList.length = 512 := by rw [hs, rounds_size]
    simpa using h
  have := word_any s k w (by omega) (by omega)
  rwa [hs, round_word k hk] at this
theorem bword_any (s : ByteArray) (hs : s.data.toList = beginText) (k : Nat) (hk : k < 8) (w : World) :
    Calls Tryd.prog 41 #[.string s, .int .i64 k] w fun e w' => e = .returned (.int .u32 ((beginWords.getD k 0 : Nat) : Int)) ∧ Below w.heap.size w w' := by
  have hz : s.size = 64 := by
    have h : s.data.toList.length = 64 := by rw [hs, begin_size]
    simpa using h
  have := word_any s k w (by omega) (by omega)
  rwa [hs, begin_word k hk] at this
end Sha
end Go.Proofs.YtdiidfkmmgcjmaaDoor
