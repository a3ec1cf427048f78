/- The document's GetWcc of layer 5, by search. -/
import Derived.Test.YteckncagccfioaaDoorAttrRget
namespace Go.Proofs.YteckncagccfioaaDoor
open Go.RowKit Six Err
namespace Att
/-- The number that a search's i-th write has. -/
def wrnum (i : Nat) : Nat := wnum (i % 2 == 1) (i / 2 % 2 == 1) (i / 4 == 1)
/-- At which place a search meets a write. -/
def widx (a u r : Bool) : Nat := bit a 1 + bit u 2 + bit r 4
theorem wrnum_inj : ∀ i, i < 8 → ∀ j, j < 8 → wrnum i = wrnum j → i = j := by decide +kernel
theorem wrnum_lt : ∀ i, i < 8 → wrnum i < 64 := by decide +kernel
theorem widx_lt (a u r : Bool) : widx a u r < 8 := by cases a <;> cases u <;> cases r <;> decide
theorem widx_parts (a u r : Bool) : (widx a u r % 2 == 1) = a ∧ (widx a u r / 2 % 2 == 1) = u ∧ (widx a u r / 4 == 1) = r := by
  cases a <;> cases u <;> cases r <;> decide
theorem wrnum_idx (a u r : Bool) : wrnum (widx a u r) = wnum a u r := by
  obtain ⟨x, y, z⟩ := widx_parts a u r
  unfold wrnum
  rw [x, y, z]
theorem wahead (a u r : Bool) (k : Nat) (hk : k < widx a u r) : put (wrnum k) ≠ put (wnum a u r) := by
  intro e
  have hi := widx_lt a u r
  have := put_inj _ _ (wrnum_lt k (by omega)) (Nat.lt_trans (wnum_lt a u r) (by decide)) e
  rw [← wrnum_idx a u r] at this
  have := wrnum_inj k (by omega) _ hi this
  omega
theorem wnone_at (b k : Nat) (hn : noWrite b = true) (hk : k < 8) : put (wrnum k) ≠ b := by
  have h : ∀ k, k < 8 → noWrite (put (wrnum k)) = false := by decide +kernel
  intro e
  rw [← e, h k hk] at hn
  cases hn
theorem rputWcc_at (k : Nat) (w : World) :
    Calls Tryd.prog 8 #[.agg #[.bool ((k : Int) % 2 == 1), .bool ((k : Int) / 2 % 2 == 1), .bool ((k : Int) / 4 == 1)]] w fun e w' => e = .returned (.int .u8 (put (wrnum k) : Nat)) ∧ Below w.heap.size w w' := by
  have h := rputWcc ((k : Int) % 2 == 1) ((k : Int) / 2 % 2 == 1) ((k : Int) / 4 == 1) w
  have e0 : ((k : Int) % 2 == 1) = (k % 2 == 1) := by rw [Bool.eq_iff_iff]; simp; omega
  have e1 : ((k : Int) / 2 % 2 == 1) = (k / 2 % 2 == 1) := by rw [Bool.eq_iff_iff]; simp; omega
  have e2 : ((k : Int) / 4 == 1) = (k / 4 == 1) := by rw [Bool.eq_iff_iff]; simp; omega
  unfold wrnum
  rw [← e0, ← e1, ← e2]
  exact h
set_option maxHeartbeats 4000000 in
theorem rgetWcc_ok (p n m : Bool) (w : World) :
    Calls Tryd.prog 14 #[.int .u8 (put (wnum p n m) : Nat)] w fun e w' => e = .returned (.tuple #[.agg #[.bool p, .bool n, .bool m], .bool true]) ∧ Below w.heap.size w w' := by
  have HA := Lib.hid fun k => wahead p n m k
  have hi := widx_lt p n m
  have HR := Lib.hid (show put (wrnum (widx p n m)) = put (wnum p n m) by rw [wrnum_idx p n m])
  have HP := Lib.hid (widx_parts p n m)
  generalize put (wnum p n m) = b at *
  generalize hx : widx p n m = i at *
  have HI := Lib.hid hx
  clear hx
  go_enter Tryd.func14, Tryd.ntmps14
  go_wp2_with fail
  go_loopw [4] (fun v wr => ∃ k : Nat, k ≤ i ∧ v = .int .i64 k ∧ wr.heap[w.heap.size]? = some (.cells #[.bool false, .bool false, .bool false] 25 (0, 0)) ∧ Below w.heap.size w wr ∧ w.heap.size < wr.heap.size) (fun v _ => i - (intOf v).toNat)
  case atStart => exact ⟨0, Nat.zero_le _, rfl, heap_alloc_new w _, (Below.refl _ _).alloc (Nat.le_refl _) _, by simp⟩
  case round =>
    obtain ⟨k, hk, rfl, hh, hb, hz⟩ := hrel
    have HH := Lib.hid hh
    have HB := Lib.hid hb
    clear hh hb
    by_cases hlt : k < i
    · have HC := Lib.hid fun W => rputWcc_at k W
      have hne := HA.out k hlt
      generalize put (wrnum k) = q at HC hne
      have t1 : (((q : Nat) : Int) == (b : Int)) = false := by simp; omega
      go_wp2_with fail
      with_reducible refine (HC.out _).mono ?_
      rintro e w1 ⟨rfl, hb1⟩
      have HW := Lib.hid (((Below.refl wr.heap.size wr).alloc (Nat.le_refl _) _).trans (hb1.mono (by simp)))
      clear hb1
      go_wp2_with fail
      go_roundw
      case rel => exact ⟨k + 1, by omega, by go_num, (HW.out.block _ hz).trans HH.out, HB.out.trans (HW.out.mono (Nat.le_of_lt hz)), Nat.lt_of_lt_of_le hz HW.out.size⟩
      case measure => simp [intOf]; omega
    · obtain rfl : k = i := by omega
      have HC := Lib.hid fun W => rputWcc p n m W
      rw [← wrnum_idx p n m, HI.out, HR.out] at HC
      obtain ⟨p0, p1, p2⟩ := HP.out
      have e0 : ((k : Int) % 2 == 1) = p := by rw [← p0, Bool.eq_iff_iff]; simp; omega
      have e1 : ((k : Int) / 2 % 2 == 1) = n := by rw [← p1, Bool.eq_iff_iff]; simp; omega
      have e2 : ((k : Int) / 4 == 1) = m := by rw [← p2, Bool.eq_iff_iff]; simp; omega
      clear p0 p1 p2 hlt hk
      go_wp2_with fail
      clear e0 e1 e2
      with_reducible refine (HC.out _).mono ?_
      rintro e w1 ⟨rfl, hb1⟩
      have hA : Below wr.heap.size wr (wr.alloc (.cells #[.bool p, .bool n, .bool m] 25)) := (Below.refl _ _).alloc (Nat.le_refl _) _
      have hn1 : w1.heap[wr.heap.size]? = some (.cells #[.bool p, .bool n, .bool m] 25 (0, 0)) := (hb1.block _ (by simp)).trans (heap_alloc_new wr _)
      have HW := Lib.hid (hA.trans (hb1.mono (by simp)))
      have hd1 : w1.heap[w.heap.size]? = some (.cells #[.bool false, .bool false, .bool false] 25 (0, 0)) := (HW.out.block _ hz).trans HH.out
      obtain ⟨h1, h2⟩ := over3 w1 w.heap.size 25 (.bool false) (.bool false) (.bool false) (.bool p) (.bool n) (.bool m) hd1
      have H1 := Lib.hid h1
      have H2 := Lib.hid ((HB.out.trans (HW.out.mono (Nat.le_of_lt hz))).trans h2)
      obtain ⟨c0, c1, c2⟩ := cells3 hn1
      obtain ⟨z0, z1, z2⟩ := cells3 hd1
      obtain ⟨f0, f1, f2⟩ := free3 hd1
      clear hA hb1 h1 h2 hn1 hd1
      go_wp2_with fail
      generalize ((w1.setCell ⟨w.heap.size, 0, none⟩ (.bool p)).setCell ⟨w.heap.size, 1, none⟩ (.bool n)).setCell ⟨w.heap.size, 2, none⟩ (.bool m) = wz at *
      exact bodyPost_ret (v := .tuple #[.agg #[.bool p, .bool n, .bool m], .bool true]) (results_cell_row_tmp rfl _ _ _ w.heap.size _ rfl (run_loadVar_row wz w.heap.size 25 25 _ (0, 0) _ H1.out Tryd.underlying25 rfl (by kernel_rfl)) (.bool true) rfl) rfl ⟨rfl, H2.out⟩
set_option maxHeartbeats 4000000 in
theorem rgetWcc_bad (b : Nat) (w : World) (_hb : b < 256) (hn : noWrite b = true) :
    Calls Tryd.prog 14 #[.int .u8 (b : Int)] w fun e w' => e = .returned (.tuple #[.agg #[.bool false, .bool false, .bool false], .bool false]) ∧ Below w.heap.size w w' := by
  have HA := Lib.hid fun k => wnone_at b k hn
  clear hn
  go_enter Tryd.func14, Tryd.ntmps14
  go_wp2_with fail
  go_loopw [4] (fun v wr => ∃ k : Nat, k ≤ 8 ∧ v = .int .i64 k ∧ wr.heap[w.heap.size]? = some (.cells #[.bool false, .bool false, .bool false] 25 (0, 0)) ∧ Below w.heap.size w wr ∧ w.heap.size < wr.heap.size) (fun v _ => 8 - (intOf v).toNat)
  case atStart => exact ⟨0, Nat.zero_le _, rfl, heap_alloc_new w _, (Below.refl _ _).alloc (Nat.le_refl _) _, by simp⟩
  case round =>
    obtain ⟨k, hk, rfl, hh, hb, hz⟩ := hrel
    have HH := Lib.hid hh
    have HB := Lib.hid hb
    by_cases hlt : k < 8
    · clear hh hb
      have HC := Lib.hid fun W => rputWcc_at k W
      have hne := HA.out k hlt
      generalize put (wrnum k) = q at HC hne
      have t1 : (((q : Nat) : Int) == (b : Int)) = false := by simp; omega
      go_wp2_with fail
      with_reducible refine (HC.out _).mono ?_
      rintro e w1 ⟨rfl, hb1⟩
      have HW := Lib.hid (((Below.refl wr.heap.size wr).alloc (Nat.le_refl _) _).trans (hb1.mono (by simp)))
      clear hb1
      go_wp2_with fail
      go_roundw
      case rel => exact ⟨k + 1, by omega, by go_num, (HW.out.block _ hz).trans HH.out, HB.out.trans (HW.out.mono (Nat.le_of_lt hz)), Nat.lt_of_lt_of_le hz HW.out.size⟩
      case measure => simp [intOf]; omega
    · obtain rfl : k = 8 := by omega
      obtain ⟨h1, h2⟩ := over3 wr w.heap.size 25 (.bool false) (.bool false) (.bool false) (.bool false) (.bool false) (.bool false) hh
      have H1 := Lib.hid h1
      have H2 := Lib.hid (hb.trans h2)
      obtain ⟨z0, z1, z2⟩ := cells3 hh
      obtain ⟨f0, f1, f2⟩ := free3 hh
      clear hlt hk hb hh h1 h2
      go_wp2_with fail
      generalize ((wr.setCell ⟨w.heap.size, 0, none⟩ (.bool false)).setCell ⟨w.heap.size, 1, none⟩ (.bool false)).setCell ⟨w.heap.size, 2, none⟩ (.bool false) = wz at *
      exact bodyPost_ret (v := .tuple #[.agg #[.bool false, .bool false, .bool false], .bool false]) (results_cell_row_tmp rfl _ _ _ w.heap.size _ rfl (run_loadVar_row wz w.heap.size 25 25 _ (0, 0) _ H1.out Tryd.underlying25 rfl (by kernel_rfl)) (.bool false) rfl) rfl ⟨rfl, H2.out⟩
end Att
end Go.Proofs.YteckncagccfioaaDoor
