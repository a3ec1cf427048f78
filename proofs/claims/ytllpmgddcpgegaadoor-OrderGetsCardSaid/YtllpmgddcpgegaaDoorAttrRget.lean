/- The document's Get and GetWcc of layer 5, by search. -/
import Derived.Test.YtllpmgddcpgegaaDoorAttrRef
namespace Go.Proofs.YtllpmgddcpgegaaDoor
open Go.RowKit Six Err
namespace Att
/-- The number that a search's i-th attribute has. -/
def rnum (i : Nat) : Nat := num (i % 2 == 1) (i / 2 % 2 == 1) (i / 16 == 1) (i / 4 % 4)
/-- At which place a search meets an attribute. -/
def idx (p n m : Bool) (s : Nat) : Nat := bit p 1 + bit n 2 + 4 * s + bit m 16
theorem rnum_inj : ∀ i, i < 32 → ∀ j, j < 32 → rnum i = rnum j → i = j := by decide +kernel
theorem rnum_lt : ∀ i, i < 32 → rnum i < 64 := by decide +kernel
theorem idx_lt (p n m : Bool) (s : Nat) (h : s < 4) : idx p n m s < 32 := by
  unfold idx bit; cases p <;> cases n <;> cases m <;> simp <;> omega
theorem idx_parts (p n m : Bool) (s : Nat) (h : s < 4) : (idx p n m s % 2 == 1) = p ∧ (idx p n m s / 2 % 2 == 1) = n ∧ (idx p n m s / 16 == 1) = m ∧ idx p n m s / 4 % 4 = s := by
  unfold idx bit
  obtain rfl | rfl | rfl | rfl : s = 0 ∨ s = 1 ∨ s = 2 ∨ s = 3 := by omega
  all_goals cases p <;> cases n <;> cases m <;> decide
theorem rnum_idx (p n m : Bool) (s : Nat) (h : s < 4) : rnum (idx p n m s) = num p n m s := by
  obtain ⟨a, b, c, d⟩ := idx_parts p n m s h
  unfold rnum
  rw [a, b, c, d]
theorem ahead (p n m : Bool) (s k : Nat) (h : s < 4) (hk : k < idx p n m s) : put (rnum k) ≠ put (num p n m s) := by
  intro e
  have hi := idx_lt p n m s h
  have := put_inj _ _ (rnum_lt k (by omega)) (num_lt p n m s h) e
  rw [← rnum_idx p n m s h] at this
  have := rnum_inj k (by omega) _ hi this
  omega
theorem none_at (b k : Nat) (hn : noAttr b = true) (hk : k < 32) : put (rnum k) ≠ b := by
  have h : ∀ k, k < 32 → noAttr (put (rnum k)) = false := by decide +kernel
  intro e
  rw [← e, h k hk] at hn
  cases hn
/-- The contract of the document's Put at a search's i-th attribute, in a walk's spelling. -/
theorem rput_at (k : Nat) (w : World) :
    Calls Tryd.prog 33 #[.agg #[.bool ((k : Int) % 2 == 1), .bool ((k : Int) / 2 % 2 == 1), .int .i64 ((k : Int) / 4 % 4), .bool ((k : Int) / 16 == 1)]] w fun e w' => e = .returned (.int .u8 (put (rnum k) : Nat)) ∧ Below w.heap.size w w' := by
  have h := rput5 ((k : Int) % 2 == 1) ((k : Int) / 2 % 2 == 1) ((k : Int) / 16 == 1) ((k : Int) / 4 % 4) w (by omega) (by omega)
  have e0 : ((k : Int) % 2 == 1) = (k % 2 == 1) := by rw [Bool.eq_iff_iff]; simp; omega
  have e1 : ((k : Int) / 2 % 2 == 1) = (k / 2 % 2 == 1) := by rw [Bool.eq_iff_iff]; simp; omega
  have e2 : ((k : Int) / 16 == 1) = (k / 16 == 1) := by rw [Bool.eq_iff_iff]; simp; omega
  have e3 : ((k : Int) / 4 % 4).toNat = k / 4 % 4 := by omega
  unfold rnum
  rw [← e0, ← e1, ← e2, ← e3]
  exact h
set_option maxHeartbeats 4000000 in
theorem rget_ok (p n m : Bool) (s : Nat) (w : World) (hs : s < 4) :
    Calls Tryd.prog 43 #[.int .u8 (put (num p n m s) : Nat)] w fun e w' => e = .returned (.tuple #[.agg #[.bool p, .bool n, .int .i64 (s : Int), .bool m], .bool true]) ∧ Below w.heap.size w w' := by
  have HA := Lib.hid fun k => ahead p n m s k hs
  have hi := idx_lt p n m s hs
  have HR := Lib.hid (show put (rnum (idx p n m s)) = put (num p n m s) by rw [rnum_idx p n m s hs])
  have HP := Lib.hid (idx_parts p n m s hs)
  generalize put (num p n m s) = b at *
  generalize hx : idx p n m s = i at *
  have HI := Lib.hid hx
  clear hx
  go_enter Tryd.func43, Tryd.ntmps43
  go_wp2_with fail
  go_loopw [4] (fun v wr => ∃ k : Nat, k ≤ i ∧ v = .int .i64 k ∧ wr.heap[w.heap.size]? = some (.cells #[.bool false, .bool false, .int .i64 0, .bool false] 24 (0, 0)) ∧ Below w.heap.size w wr ∧ w.heap.size < wr.heap.size) (fun v _ => i - (intOf v).toNat)
  case atStart => exact ⟨0, Nat.zero_le _, rfl, heap_alloc_new w _, (Below.refl _ _).alloc (Nat.le_refl _) _, by simp⟩
  case round =>
    obtain ⟨k, hk, rfl, hh, hb, hz⟩ := hrel
    have HH := Lib.hid hh
    have HB := Lib.hid hb
    clear hh hb
    by_cases hlt : k < i
    · have HC := Lib.hid fun W => rput_at k W
      have hne := HA.out k hlt
      generalize put (rnum k) = q at HC hne
      have t1 : (((q : Nat) : Int) == (b : Int)) = false := by simp; omega
      go_wp2_with fail
      refine (HC.out _).mono ?_
      rintro e w1 ⟨rfl, hb1⟩
      have HW := Lib.hid (((Below.refl wr.heap.size wr).alloc (Nat.le_refl _) _).trans (hb1.mono (by simp)))
      clear hb1
      go_wp2_with fail
      go_roundw
      case rel => exact ⟨k + 1, by omega, by go_num, (HW.out.block _ hz).trans HH.out, HB.out.trans (HW.out.mono (Nat.le_of_lt hz)), Nat.lt_of_lt_of_le hz HW.out.size⟩
      case measure => simp [intOf]; omega
    · obtain rfl : k = i := by omega
      have HC := Lib.hid fun W => rput5 p n m (s : Int) W (by omega) (by omega)
      rw [Int.toNat_natCast, ← rnum_idx p n m s hs, HI.out, HR.out] at HC
      obtain ⟨p0, p1, p2, p3⟩ := HP.out
      have e0 : ((k : Int) % 2 == 1) = p := by rw [← p0, Bool.eq_iff_iff]; simp; omega
      have e1 : ((k : Int) / 2 % 2 == 1) = n := by rw [← p1, Bool.eq_iff_iff]; simp; omega
      have e2 : ((k : Int) / 16 == 1) = m := by rw [← p2, Bool.eq_iff_iff]; simp; omega
      have e3 : ((k : Int) / 4 % 4) = (s : Int) := by rw [← p3]; omega
      clear p0 p1 p2 p3 hlt hk
      go_wp2_with fail
      clear e0 e1 e2 e3
      with_reducible refine (HC.out _).mono ?_
      rintro e w1 ⟨rfl, hb1⟩
      have hA : Below wr.heap.size wr (wr.alloc (.cells #[.bool p, .bool n, .int .i64 (s : Int), .bool m] 24)) := (Below.refl _ _).alloc (Nat.le_refl _) _
      have hn1 : w1.heap[wr.heap.size]? = some (.cells #[.bool p, .bool n, .int .i64 (s : Int), .bool m] 24 (0, 0)) := (hb1.block _ (by simp)).trans (heap_alloc_new wr _)
      have HW := Lib.hid (hA.trans (hb1.mono (by simp)))
      have hd1 : w1.heap[w.heap.size]? = some (.cells #[.bool false, .bool false, .int .i64 0, .bool false] 24 (0, 0)) := (HW.out.block _ hz).trans HH.out
      obtain ⟨h1, h2⟩ := over4 w1 w.heap.size 24 (.bool false) (.bool false) (.int .i64 0) (.bool false) (.bool p) (.bool n) (.int .i64 (s : Int)) (.bool m) hd1
      have H1 := Lib.hid h1
      have H2 := Lib.hid ((HB.out.trans (HW.out.mono (Nat.le_of_lt hz))).trans h2)
      obtain ⟨c0, c1, c2, c3⟩ := cells4 hn1
      obtain ⟨z0, z1, z2, z3⟩ := cells4 hd1
      obtain ⟨f0, f1, f2, f3⟩ := free4 hd1
      clear hA hb1 h1 h2 hn1 hd1
      go_wp2_with fail
      generalize (((w1.setCell ⟨w.heap.size, 0, none⟩ (.bool p)).setCell ⟨w.heap.size, 1, none⟩ (.bool n)).setCell ⟨w.heap.size, 2, none⟩ (.int .i64 (s : Int))).setCell ⟨w.heap.size, 3, none⟩ (.bool m) = wz at *
      exact bodyPost_ret (v := .tuple #[.agg #[.bool p, .bool n, .int .i64 (s : Int), .bool m], .bool true]) (results_cell_row_tmp rfl _ _ _ w.heap.size _ rfl (run_loadVar_row wz w.heap.size 24 24 _ (0, 0) _ H1.out Tryd.underlying24 rfl (by kernel_rfl)) (.bool true) rfl) rfl ⟨rfl, H2.out⟩
set_option maxHeartbeats 4000000 in
theorem rget_bad (b : Nat) (w : World) (_hb : b < 256) (hn : noAttr b = true) :
    Calls Tryd.prog 43 #[.int .u8 (b : Int)] w fun e w' => e = .returned (.tuple #[.agg #[.bool false, .bool false, .int .i64 0, .bool false], .bool false]) ∧ Below w.heap.size w w' := by
  have HA := Lib.hid fun k => none_at b k hn
  clear hn
  go_enter Tryd.func43, Tryd.ntmps43
  go_wp2_with fail
  go_loopw [4] (fun v wr => ∃ k : Nat, k ≤ 32 ∧ v = .int .i64 k ∧ wr.heap[w.heap.size]? = some (.cells #[.bool false, .bool false, .int .i64 0, .bool false] 24 (0, 0)) ∧ Below w.heap.size w wr ∧ w.heap.size < wr.heap.size) (fun v _ => 32 - (intOf v).toNat)
  case atStart => exact ⟨0, Nat.zero_le _, rfl, heap_alloc_new w _, (Below.refl _ _).alloc (Nat.le_refl _) _, by simp⟩
  case round =>
    obtain ⟨k, hk, rfl, hh, hb, hz⟩ := hrel
    have HH := Lib.hid hh
    have HB := Lib.hid hb
    by_cases hlt : k < 32
    · clear hh hb
      have HC := Lib.hid fun W => rput_at k W
      have hne := HA.out k hlt
      generalize put (rnum k) = q at HC hne
      have t1 : (((q : Nat) : Int) == (b : Int)) = false := by simp; omega
      go_wp2_with fail
      with_reducible refine (HC.out _).mono ?_
      rintro e w1 ⟨rfl, hb1⟩
      have HW := Lib.hid (((Below.refl wr.heap.size wr).alloc (Nat.le_refl _) _).trans (hb1.mono (by simp)))
      clear hb1
      go_wp2_with fail
      go_roundw
      case rel => exact ⟨k + 1, by omega, by go_num, (HW.out.block _ hz).trans HH.out, HB.out.trans (HW.out.mono (Nat.le_of_lt hz)), Nat.lt_of_lt_of_le hz HW.out.size⟩
      case measure => simp [intOf]; omega
    · obtain rfl : k = 32 := by omega
      obtain ⟨h1, h2⟩ := over4 wr w.heap.size 24 (.bool false) (.bool false) (.int .i64 0) (.bool false) (.bool false) (.bool false) (.int .i64 0) (.bool false) hh
      have H1 := Lib.hid h1
      have H2 := Lib.hid (hb.trans h2)
      obtain ⟨z0, z1, z2, z3⟩ := cells4 hh
      obtain ⟨f0, f1, f2, f3⟩ := free4 hh
      clear hlt hk hb hh h1 h2
      go_wp2_with fail
      generalize (((wr.setCell ⟨w.heap.size, 0, none⟩ (.bool false)).setCell ⟨w.heap.size, 1, none⟩ (.bool false)).setCell ⟨w.heap.size, 2, none⟩ (.int .i64 0)).setCell ⟨w.heap.size, 3, none⟩ (.bool false) = wz at *
      exact bodyPost_ret (v := .tuple #[.agg #[.bool false, .bool false, .int .i64 0, .bool false], .bool false]) (results_cell_row_tmp rfl _ _ _ w.heap.size _ rfl (run_loadVar_row wz w.heap.size 24 24 _ (0, 0) _ H1.out Tryd.underlying24 rfl (by kernel_rfl)) (.bool false) rfl) rfl ⟨rfl, H2.out⟩
end Att
end Go.Proofs.YtllpmgddcpgegaaDoor
