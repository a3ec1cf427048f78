/- SixPut, AttrChar, AddrSize, AddrLeaf, AddrPut, AddrPutAll, AttrLeaf, AttrPutW, BytClone in one text (by tools/bundle.py). -/
import Derived.Test.YtpgbnnnfeaodmaaGreatDoorProg
import Derived.Test.YtpgbnnnfeaodmaaGreatDoorSBunBase
import Derived.WalkKit
import Derived.LaidEql
import Derived.RowKitTokens
import Derived.Lib.Hide
import Derived.Below
import Derived.Deep.QuietTactic
import Derived.BigQuiet
import Derived.IntWalk
import Derived.Test.YtpgbnnnfeaodmaaGreatDoorSBunPlain
import Derived.Laws.ResultCell
import Derived.OwnWalk
import Derived.Laws.Rows
import Derived.Deep.RegionHeld3
/- Put of package six returns what the plain functions say. -/
namespace Go.Proofs.YtpgbnnnfeaodmaaGreatDoor
open Go.RowKit
namespace Six
theorem value_any (i : Nat) (w : World) (hi : i < 128) :
    Calls Tryz.prog 124 #[.int .u8 (digits i : Nat)] w fun e w' => e = .returned (.int .u8 (value (digits i) : Nat)) ∧ w = w' := by
  rcases digits_hex i hi with ⟨h1, h2⟩ | ⟨h1, h2⟩
  · have hv := Lib.hid (show ((digits i : Nat) : Int) - 48 = (value (digits i) : Nat) by unfold value; rw [if_neg (by omega)]; omega)
    generalize digits i = c at *
    go_enter Tryz.func124, Tryz.ntmps124
    go_wp2
    go_ret
    exact ⟨ret_u8 hv.out, rfl⟩
  · have hv := Lib.hid (show ((digits i : Nat) : Int) - 87 = (value (digits i) : Nat) by unfold value; rw [if_pos (by omega)]; omega)
    generalize digits i = c at *
    go_enter Tryz.func124, Tryz.ntmps124
    go_wp2
    go_ret
    exact ⟨ret_u8 (by rw [← hv.out]; omega), rfl⟩
def text : ByteArray := { data := ((52 :: 48 :: 99 :: 49 :: 99 :: 50 :: 99 :: 51 :: 99 :: 52 :: 99 :: 53 :: 99 :: 54 :: 99 :: 55 :: 99 :: 56 :: 99 :: 57 :: 52 :: 97 :: 52 :: 98 :: 52 :: 99 :: 52 :: 100 :: 52 :: 101 :: 52 :: 102 :: 53 :: 48 :: 100 :: 49 :: 100 :: 50 :: 100 :: 51 :: 100 :: 52 :: 100 :: 53 :: 100 :: 54 :: 100 :: 55 :: 100 :: 56 :: 100 :: 57 :: 53 :: 97 :: 53 :: 98 :: 53 :: 99 :: 53 :: 100 :: 53 :: 101 :: 53 :: 102 :: []).append (54 :: 48 :: 54 :: 49 :: 101 :: 50 :: 101 :: 51 :: 101 :: 52 :: 101 :: 53 :: 101 :: 54 :: 101 :: 55 :: 101 :: 56 :: 101 :: 57 :: 54 :: 97 :: 54 :: 98 :: 54 :: 99 :: 54 :: 100 :: 54 :: 101 :: 54 :: 102 :: 102 :: 48 :: 102 :: 49 :: 102 :: 50 :: 102 :: 51 :: 102 :: 52 :: 102 :: 53 :: 102 :: 54 :: 102 :: 55 :: 102 :: 56 :: 102 :: 57 :: 55 :: 97 :: 55 :: 98 :: 55 :: 99 :: 55 :: 100 :: 55 :: 101 :: 55 :: 102 :: [])).toArray }
theorem text_def : Hid ({ data := ((52 :: 48 :: 99 :: 49 :: 99 :: 50 :: 99 :: 51 :: 99 :: 52 :: 99 :: 53 :: 99 :: 54 :: 99 :: 55 :: 99 :: 56 :: 99 :: 57 :: 52 :: 97 :: 52 :: 98 :: 52 :: 99 :: 52 :: 100 :: 52 :: 101 :: 52 :: 102 :: 53 :: 48 :: 100 :: 49 :: 100 :: 50 :: 100 :: 51 :: 100 :: 52 :: 100 :: 53 :: 100 :: 54 :: 100 :: 55 :: 100 :: 56 :: 100 :: 57 :: 53 :: 97 :: 53 :: 98 :: 53 :: 99 :: 53 :: 100 :: 53 :: 101 :: 53 :: 102 :: []).append (54 :: 48 :: 54 :: 49 :: 101 :: 50 :: 101 :: 51 :: 101 :: 52 :: 101 :: 53 :: 101 :: 54 :: 101 :: 55 :: 101 :: 56 :: 101 :: 57 :: 54 :: 97 :: 54 :: 98 :: 54 :: 99 :: 54 :: 100 :: 54 :: 101 :: 54 :: 102 :: 102 :: 48 :: 102 :: 49 :: 102 :: 50 :: 102 :: 51 :: 102 :: 52 :: 102 :: 53 :: 102 :: 54 :: 102 :: 55 :: 102 :: 56 :: 102 :: 57 :: 55 :: 97 :: 55 :: 98 :: 55 :: 99 :: 55 :: 100 :: 55 :: 101 :: 55 :: 102 :: [])).toArray } = text) := rfl
theorem text_size : text.size = 128 := by decide +kernel
theorem text_get : ∀ i, (h : i < text.size) → text[i].toNat = digits i := by decide +kernel
theorem index_text (i : Nat) (hi : i < 128) (W : World) :
    (Instr.index 9 (.string text) (.int .i64 (i : Int))).run Tryz.prog W = .ok (.int .u8 (digits i : Nat)) W := by
  have hz := text_size
  have hg := text_get i (by omega)
  simp [Instr.index, asIntOf, run_underlying Tryz.underlying9]
  rw [show text[i]? = some text[i] from getElem?_pos text i (by omega)]
  exact congrArg (fun x : Nat => Result.ok (Value.int .u8 (x : Int)) W) hg
set_option maxHeartbeats 1000000 in
theorem put_any (n : Nat) (w : World) (hn : n < 64) :
    Calls Tryz.prog 114 #[.int .i64 (n : Int)] w fun e w' => e = .returned (.tuple #[.int .u8 (put n : Nat), .nilIface]) ∧ ∃ m, w' = w.drewN m := by
  go_enter Tryz.func114, Tryz.ntmps114
  go_wp2_with fail
  have q0 : IntKind.i64.wrap (2 * (n : Int)) = 2 * (n : Int) := by rw [IntWalk.i64_in] <;> omega
  have q1 : IntKind.i64.wrap (2 * (n : Int) + 1) = 2 * (n : Int) + 1 := by rw [IntWalk.i64_in] <;> omega
  have x0 := index_text (2 * n) (by omega)
  have x1 := index_text (2 * n + 1) (by omega)
  rw [show ((2 * n : Nat) : Int) = 2 * (n : Int) by omega] at x0
  rw [show ((2 * n + 1 : Nat) : Int) = 2 * (n : Int) + 1 by omega] at x1
  rw [text_def.out]
  go_quiet ((go_at_call 124; refine quiet_same (value_any _ _ ?_); omega))
  clear x0 x1 q0 q1
  go_wp2
  go_ret2
  exact ⟨ret_put (put_bits n hn), nq, rfl⟩
end Six
end Go.Proofs.YtpgbnnnfeaodmaaGreatDoor
/- Char of package attr. -/
namespace Go.Proofs.YtpgbnnnfeaodmaaGreatDoor
open Go.RowKit Six
namespace Att
theorem char_any (b : Nat) (w : World) (hb : b < 256) :
    Calls Tryz.prog 66 #[.int .u8 (b : Int)] w fun e w' => e = .returned (.bool (char b)) ∧ w = w' := by
  by_cases h0 : b = 0
  · subst h0
    go_enter Tryz.func66, Tryz.ntmps66
    go_wp2
    go_ret
    exact ⟨rfl, rfl⟩
  by_cases h1 : b = 28
  · subst h1
    go_enter Tryz.func66, Tryz.ntmps66
    go_wp2
    go_ret
    exact ⟨rfl, rfl⟩
  by_cases h2 : b = 30
  · subst h2
    go_enter Tryz.func66, Tryz.ntmps66
    go_wp2
    go_ret
    exact ⟨rfl, rfl⟩
  have k0 : ((b : Int) == 0) = false := by simp; omega
  have k1 : ((b : Int) == 28) = false := by simp; omega
  have k2 : ((b : Int) == 30) = false := by simp; omega
  have hc : char b = (decide (64 ≤ b) && decide (b ≤ 254)) := by unfold char; simp [h0, h1, h2]
  rw [hc]
  clear hc h0 h1 h2
  by_cases h3 : 64 ≤ b
  · by_cases h4 : b ≤ 254
    · go_enter Tryz.func66, Tryz.ntmps66
      go_wp2
      go_ret
      exact ⟨ret_bool (by simp [h3, h4]; omega), rfl⟩
    · go_enter Tryz.func66, Tryz.ntmps66
      go_wp2
      go_ret
      exact ⟨ret_bool (by simp [h4]; try omega), rfl⟩
  · go_enter Tryz.func66, Tryz.ntmps66
    go_wp2
    go_ret
    exact ⟨ret_bool (by simp; try omega), rfl⟩
end Att
end Go.Proofs.YtpgbnnnfeaodmaaGreatDoor
/- Sizes of package addr: the functions that reading needs. -/
namespace Go.Proofs.YtpgbnnnfeaodmaaGreatDoor
open Go.RowKit Err Six
namespace Adr
theorem ret_bool {a b : Bool} (h : a = b) : Ending.returned (.bool a) = .returned (.bool b) := by rw [h]
theorem results_cell_row_tmp {fn : Func} {p u : Tmp} {ty : TypeId} (h : fn.results = #[.cell p ty, .tmp u]) (tmps : Array Value) (P : Program) (w : World) (g : Nat) (cs : Array Value)
    (hp : tmps.getD p undef = .pointer (some ⟨g, 0, none⟩)) (hl : (loadVar ty ⟨g, 0, none⟩).run P w = .ok (.agg cs) w) (x : Value) (hx : tmps.getD u undef = x) :
    (results fn tmps).run P w = .ok (.tuple #[.agg cs, x]) w := by
  subst hx
  have hp' : tmps[p]?.getD undef = .pointer (some ⟨g, 0, none⟩) := by simpa using hp
  rw [results_cell_tmp h]
  simp [hp', asAddr, hl, Result.andThen]
theorem two_set (w : World) (m : Nat) (t : TypeId) (a b u v : Value) :
    ((((w.alloc (.cells #[a, b] t)).drewN m).setCell ⟨w.heap.size, 0, none⟩ u).setCell ⟨w.heap.size, 1, none⟩ v).heap[w.heap.size]? = some (.cells #[u, v] t (0, 0))
    ∧ Below w.heap.size w ((((w.alloc (.cells #[a, b] t)).drewN m).setCell ⟨w.heap.size, 0, none⟩ u).setCell ⟨w.heap.size, 1, none⟩ v) := by
  have h0 : ((w.alloc (.cells #[a, b] t)).drewN m).heap[w.heap.size]? = some (.cells #[a, b] t (0, 0)) := by
    show (w.alloc (.cells #[a, b] t)).heap[w.heap.size]? = _
    exact heap_alloc_new w _
  have h1 := heap_setCell_same ((w.alloc (.cells #[a, b] t)).drewN m) w.heap.size 0 _ t u h0
  have h2 := heap_setCell_same _ w.heap.size 1 _ t v h1
  refine ⟨h2, ?_⟩
  have hb : Below w.heap.size w ((w.alloc (.cells #[a, b] t)).drewN m) := ((Below.refl _ _).alloc (Nat.le_refl _) _).trans (below_drewN _ _ _)
  exact (hb.setCell (p := ⟨w.heap.size, 0, none⟩) (Nat.le_refl _) u).setCell (p := ⟨w.heap.size, 1, none⟩) (Nat.le_refl _) v
theorem long_any (n : Int) (w : World) :
    Calls Tryz.prog 130 #[.int .i64 n] w fun e w' => e = .returned (.bool (decide (4096 < n))) ∧ w = w' := by
  go_enter Tryz.func130, Tryz.ntmps130
  go_wp2
  go_ret
  exact ⟨rfl, rfl⟩
theorem isSize_any (n : Int) (w : World) :
    Calls Tryz.prog 128 #[.int .i64 n] w fun e w' => e = .returned (.bool (decide (1 ≤ n ∧ n ≤ 16383))) ∧ w = w' := by
  by_cases h : 1 ≤ n
  · by_cases h2 : n ≤ 16383
    · go_enter Tryz.func128, Tryz.ntmps128
      go_wp2
      go_ret
      exact ⟨ret_bool (by simp; omega), rfl⟩
    · go_enter Tryz.func128, Tryz.ntmps128
      go_wp2
      go_ret
      exact ⟨ret_bool (by simp; omega), rfl⟩
  · go_enter Tryz.func128, Tryz.ntmps128
    go_wp2
    go_ret
    exact ⟨ret_bool (by simp; omega), rfl⟩
theorem lowBits_short (n : Int) (w : World) (h : n ≤ 4096) :
    Calls Tryz.prog 129 #[.int .i64 n] w fun e w' => e = .returned (.int .i64 6) ∧ w = w' := by
  have HL := fun W => long_any n W
  rw [show decide (4096 < n) = false by simp; omega] at HL
  go_enter Tryz.func129, Tryz.ntmps129
  go_wp2_with (go_at_call 130; refine (HL _).mono ?_; rintro e w' ⟨rfl, rfl⟩)
  go_ret
  exact ⟨rfl, rfl⟩
theorem lowBits_long (n : Int) (w : World) (h : 4096 < n) :
    Calls Tryz.prog 129 #[.int .i64 n] w fun e w' => e = .returned (.int .i64 8) ∧ w = w' := by
  have HL := fun W => long_any n W
  rw [show decide (4096 < n) = true by simp; omega] at HL
  go_enter Tryz.func129, Tryz.ntmps129
  go_wp2_with (go_at_call 130; refine (HL _).mono ?_; rintro e w' ⟨rfl, rfl⟩)
  go_ret
  exact ⟨rfl, rfl⟩
theorem size_yes (n : Nat) (w : World) (h : 1 ≤ n) (h2 : n ≤ 16383) :
    Calls Tryz.prog 128 #[.int .i64 (n : Int)] w fun e w' => e = .returned (.bool true) ∧ w = w' :=
  (isSize_any n w).mono fun _ _ ⟨he, hm⟩ => ⟨by rw [he]; exact ret_bool (by simp; omega), hm⟩
theorem long_no (n : Nat) (w : World) (h : n ≤ 4096) :
    Calls Tryz.prog 130 #[.int .i64 (n : Int)] w fun e w' => e = .returned (.bool false) ∧ w = w' :=
  (long_any n w).mono fun _ _ ⟨he, hm⟩ => ⟨by rw [he]; exact ret_bool (by simp; omega), hm⟩
theorem long_yes (n : Nat) (w : World) (h : 4096 < n) :
    Calls Tryz.prog 130 #[.int .i64 (n : Int)] w fun e w' => e = .returned (.bool true) ∧ w = w' :=
  (long_any n w).mono fun _ _ ⟨he, hm⟩ => ⟨by rw [he]; exact ret_bool (by simp; omega), hm⟩
theorem ofInt_64 (a : Nat) (ha : a < 2 ^ 64) : (BitVec.ofInt 64 (a : Int)).toNat = a := by
  rw [BitVec.ofInt_natCast, BitVec.toNat_ofNat]; exact Nat.mod_eq_of_lt ha
theorem i64_and_nat (a b : Nat) (ha : a < 2 ^ 62) (hb : b < 2 ^ 62) : bits .and .i64 (a : Int) (b : Int) = ((a &&& b : Nat) : Int) := by
  have hx : a &&& b ≤ a := Nat.and_le_left
  show IntKind.i64.wrap ((BitVec.ofInt 64 (a : Int) &&& BitVec.ofInt 64 (b : Int)).toNat : Int) = _
  rw [BitVec.toNat_and, ofInt_64 a (by omega), ofInt_64 b (by omega), IntWalk.i64_in] <;> omega
theorem and63 (a : Nat) (ha : a < 2 ^ 62) : bits .and .i64 (a : Int) 63 = ((a % 64 : Nat) : Int) := by
  rw [show (63 : Int) = ((63 : Nat) : Int) from rfl, i64_and_nat a 63 ha (by decide), show a &&& 63 = a % 64 from Nat.and_two_pow_sub_one_eq_mod a 6]
theorem and255 (a : Nat) (ha : a < 2 ^ 62) : bits .and .i64 (a : Int) 255 = ((a % 256 : Nat) : Int) := by
  rw [show (255 : Int) = ((255 : Nat) : Int) from rfl, i64_and_nat a 255 ha (by decide), show a &&& 255 = a % 256 from Nat.and_two_pow_sub_one_eq_mod a 8]
theorem shr6 (a : Nat) : (a : Int) / 2 ^ 6 = ((a / 64 : Nat) : Int) := by omega
theorem shr8 (a : Nat) : (a : Int) / 2 ^ 8 = ((a / 256 : Nat) : Int) := by omega
end Adr
end Go.Proofs.YtpgbnnnfeaodmaaGreatDoor
/- The small functions of package addr return what they say. -/
namespace Go.Proofs.YtpgbnnnfeaodmaaGreatDoor
open Go.RowKit Err Six
namespace Adr
theorem putShort_any (x y : Nat) (w : World) (hx : x < 64) (hy : y < 64) :
    Calls Tryz.prog 131 #[.int .i64 (x : Int), .int .i64 (y : Int)] w fun e w' => e = .returned (.agg #[.int .u8 (put x : Nat), .int .u8 (put y : Nat)]) ∧ Below w.heap.size w w' := by
  have HX := fun W => put_any x W hx
  have HY := fun W => put_any y W hy
  generalize put x = p at HX
  generalize put y = q at HY
  go_enter Tryz.func131, Tryz.ntmps131
  go_wp2_with fail
  refine (HX _).mono ?_
  rintro e w1 ⟨rfl, m, rfl⟩
  clear HX
  go_wp2_with fail
  refine (HY _).mono ?_
  rintro e w2 ⟨rfl, m2, rfl⟩
  clear HY
  go_wp2_with fail
  obtain ⟨h1, h2⟩ := two_set w (m + m2) 156 (.int .u8 0) (.int .u8 0) (.int .u8 (p : Int)) (.int .u8 (q : Int))
  have H1 := Lib.hid h1
  have H2 := Lib.hid h2
  clear h1 h2
  generalize ((((w.alloc (.cells #[.int .u8 0, .int .u8 0] 156)).drewN (m + m2)).setCell ⟨w.heap.size, 0, none⟩ (.int .u8 (p : Int))).setCell ⟨w.heap.size, 1, none⟩ (.int .u8 (q : Int))) = wz at *
  exact bodyPost_ret (v := .agg #[.int .u8 (p : Int), .int .u8 (q : Int)]) (results_cell_row rfl _ _ w.heap.size 156 _ (0, 0) _ rfl H1.out Tryz.underlying156 rfl (by kernel_rfl)) rfl ⟨rfl, H2.out⟩
end Adr
end Go.Proofs.YtpgbnnnfeaodmaaGreatDoor
/- Put of package addr writes an address. -/
namespace Go.Proofs.YtpgbnnnfeaodmaaGreatDoor
open Go.RowKit Err Six
namespace Adr
theorem putShort_at (a n : Nat) (w : World) (ha : a < n) (hn : n ≤ 4096) :
    Calls Tryz.prog 131 #[.int .i64 ((a : Int) / 64), .int .i64 ((a : Int) % 64)] w fun e w' => e = .returned (.agg #[.int .u8 (put (a / 64) : Nat), .int .u8 (put (a % 64) : Nat)]) ∧ Below w.heap.size w w' := by
  have := putShort_any (a / 64) (a % 64) w (by omega) (by omega)
  rw [show ((a / 64 : Nat) : Int) = (a : Int) / 64 by omega, show ((a % 64 : Nat) : Int) = (a : Int) % 64 by omega] at this
  exact this
theorem heap_two (w : World) (m : Nat) (w1 : World) (t : TypeId) (a b : Value) (hb : Below ((w.alloc (.cells #[a, b] t)).drewN m).heap.size ((w.alloc (.cells #[a, b] t)).drewN m) w1) :
    w1.heap[w.heap.size]? = some (.cells #[a, b] t (0, 0)) ∧ Below w.heap.size w w1 := by
  have h0 : ((w.alloc (.cells #[a, b] t)).drewN m).heap[w.heap.size]? = some (.cells #[a, b] t (0, 0)) := by
    show (w.alloc (.cells #[a, b] t)).heap[w.heap.size]? = _
    exact heap_alloc_new w _
  have hlt : w.heap.size < ((w.alloc (.cells #[a, b] t)).drewN m).heap.size := by simp
  have h1 := hb.block _ hlt
  have h2 : Below w.heap.size w ((w.alloc (.cells #[a, b] t)).drewN m) := ((Below.refl _ _).alloc (Nat.le_refl _) _).trans (below_drewN _ _ _)
  exact ⟨h1.trans h0, h2.trans (hb.mono (Nat.le_of_lt hlt))⟩
theorem cells_two (w : World) (m : Nat) (w1 : World) (t : TypeId) (a b : Value) (hb : Below ((w.alloc (.cells #[a, b] t)).drewN m).heap.size ((w.alloc (.cells #[a, b] t)).drewN m) w1) :
    w1.cell? ⟨w.heap.size, 0, none⟩ = some a ∧ w1.cell? ⟨w.heap.size, 1, none⟩ = some b ∧ w1.frozen? ⟨w.heap.size, 0, none⟩ = false ∧ w1.frozen? ⟨w.heap.size, 1, none⟩ = false := by
  have h := (heap_two w m w1 t a b hb).1
  refine ⟨?_, ?_, ?_, ?_⟩
  · exact cell_of_row w1 _ 0 _ _ _ h
  · exact cell_of_row w1 _ 1 _ _ _ h
  · simp [World.frozen?, h]
  · simp [World.frozen?, h]
theorem set_two (w : World) (m : Nat) (w1 : World) (t : TypeId) (a b : Value) (hb : Below ((w.alloc (.cells #[a, b] t)).drewN m).heap.size ((w.alloc (.cells #[a, b] t)).drewN m) w1) (u v : Value) :
    ((w1.setCell ⟨w.heap.size, 0, none⟩ u).setCell ⟨w.heap.size, 1, none⟩ v).heap[w.heap.size]? = some (.cells #[u, v] t (0, 0))
    ∧ Below w.heap.size w ((w1.setCell ⟨w.heap.size, 0, none⟩ u).setCell ⟨w.heap.size, 1, none⟩ v) := by
  obtain ⟨h, hb⟩ := heap_two w m w1 t a b hb
  have h1 := heap_setCell_same w1 w.heap.size 0 _ t u h
  have h2 := heap_setCell_same _ w.heap.size 1 _ t v h1
  exact ⟨h2, (hb.setCell (p := ⟨w.heap.size, 0, none⟩) (Nat.le_refl _) u).setCell (p := ⟨w.heap.size, 1, none⟩) (Nat.le_refl _) v⟩
set_option maxHeartbeats 1000000 in
theorem put_short (a n : Nat) (w : World) (ha : a < n) (hn : n ≤ 4096) :
    Calls Tryz.prog 120 #[.int .i64 (a : Int), .int .i64 (n : Int)] w fun e w' => e = .returned (.tuple #[.agg #[.int .u8 (put (a / 64) : Nat), .int .u8 (put (a % 64) : Nat)], .nilIface]) ∧ Below w.heap.size w w' := by
  have HS := Lib.hid fun W => size_yes n W (by omega) (by omega)
  have HB := Lib.hid fun W => lowBits_short n W (by omega)
  have HL := Lib.hid fun W => long_no n W hn
  have HP := fun W => putShort_at a n W ha hn
  generalize ((put (a / 64) : Nat) : Int) = x at HP ⊢
  generalize ((put (a % 64) : Nat) : Int) = y at HP ⊢
  have HP := Lib.hid HP
  have e0 := shr6 a
  have e1 := and63 a (by omega)
  go_enter Tryz.func120, Tryz.ntmps120
  go_wp2_with fail
  refine (HS.out _).mono ?_
  rintro e w1 ⟨rfl, rfl⟩
  clear HS
  go_wp2_with fail
  refine (HB.out _).mono ?_
  rintro e w1 ⟨rfl, rfl⟩
  clear HB
  go_wp2_with fail
  go_quiet (fail)
  clear e0
  go_wp2_with fail
  refine (HL.out _).mono ?_
  rintro e w1 ⟨rfl, rfl⟩
  clear HL
  go_wp2_with fail
  refine (HP.out _).mono ?_
  rintro e w1 ⟨rfl, hb⟩
  clear HP
  obtain ⟨c0, c1, f0, f1⟩ := cells_two w nq w1 156 _ _ hb
  have H1 := Lib.hid fun u v => set_two w nq w1 156 _ _ hb u v
  clear hb
  go_wp2_with fail
  clear c0 c1 f0 f1
  obtain ⟨h1, h2⟩ := H1.out (.int .u8 x) (.int .u8 y)
  have H1 := Lib.hid h1
  have H2 := Lib.hid h2
  clear h1 h2
  generalize (w1.setCell ⟨w.heap.size, 0, none⟩ (.int .u8 x)).setCell ⟨w.heap.size, 1, none⟩ (.int .u8 y) = wz at *
  exact bodyPost_ret (v := .tuple #[.agg #[.int .u8 x, .int .u8 y], .nilIface]) (results_cell_row_tmp rfl _ _ _ w.heap.size _ rfl (run_loadVar_row wz w.heap.size 156 156 _ (0, 0) _ H1.out Tryz.underlying156 rfl (by kernel_rfl)) .nilIface rfl) rfl ⟨rfl, H2.out⟩
set_option maxHeartbeats 1000000 in
theorem put_long (a n : Nat) (w : World) (ha : a < n) (hn : 4096 < n) (h2 : n ≤ 16383) :
    Calls Tryz.prog 120 #[.int .i64 (a : Int), .int .i64 (n : Int)] w fun e w' => e = .returned (.tuple #[.agg #[.int .u8 (a / 256 : Nat), .int .u8 (a % 256 : Nat)], .nilIface]) ∧ Below w.heap.size w w' := by
  have HS := Lib.hid fun W => size_yes n W (by omega) (by omega)
  have HB := Lib.hid fun W => lowBits_long n W (by omega)
  have HL := Lib.hid fun W => long_yes n W hn
  have e0 := shr8 a
  have e1 := and255 a (by omega)
  go_enter Tryz.func120, Tryz.ntmps120
  go_wp2_with fail
  refine (HS.out _).mono ?_
  rintro e w1 ⟨rfl, rfl⟩
  clear HS
  go_wp2_with fail
  refine (HB.out _).mono ?_
  rintro e w1 ⟨rfl, rfl⟩
  clear HB
  go_wp2_with fail
  go_quiet (fail)
  clear e0
  go_wp2_with fail
  refine (HL.out _).mono ?_
  rintro e w1 ⟨rfl, rfl⟩
  clear HL
  go_wp2_with fail
  obtain ⟨h1, h2⟩ := two_set w nq 156 (.int .u8 0) (.int .u8 0) (.int .u8 ((a : Int) / 256)) (.int .u8 ((a : Int) % 256))
  have H1 := Lib.hid h1
  have H2 := Lib.hid h2
  clear h1 h2
  generalize (((w.alloc (.cells #[.int .u8 0, .int .u8 0] 156)).drewN nq).setCell ⟨w.heap.size, 0, none⟩ (.int .u8 ((a : Int) / 256))).setCell ⟨w.heap.size, 1, none⟩ (.int .u8 ((a : Int) % 256)) = wz at *
  exact bodyPost_ret (v := .tuple #[.agg #[.int .u8 ((a : Int) / 256), .int .u8 ((a : Int) % 256)], .nilIface]) (results_cell_row_tmp rfl _ _ _ w.heap.size _ rfl (run_loadVar_row wz w.heap.size 156 156 _ (0, 0) _ H1.out Tryz.underlying156 rfl (by kernel_rfl)) .nilIface rfl) rfl ⟨rfl, H2.out⟩
end Adr
end Go.Proofs.YtpgbnnnfeaodmaaGreatDoor
/- Put of package addr, of whatever number. (Sizes that may be.) -/
namespace Go.Proofs.YtpgbnnnfeaodmaaGreatDoor
open Go.RowKit Err Six
namespace Adr
theorem put_all (a n : Nat) (w : World) (ha : a < n) (h2 : n ≤ 16383) :
    Calls Tryz.prog 120 #[.int .i64 (a : Int), .int .i64 (n : Int)] w fun e w' => e = .returned (.tuple #[.agg #[.int .u8 (first a n : Nat), .int .u8 (second a n : Nat)], .nilIface]) ∧ Below w.heap.size w w' := by
  unfold first second
  by_cases h : n ≤ 4096
  · rw [if_pos h, if_pos h]; exact put_short a n w ha h
  · rw [if_neg h, if_neg h]; exact put_long a n w ha (by omega) h2
set_option maxHeartbeats 1000000 in
theorem put_none (a : Int) (n : Nat) (w : World) (h1 : 1 ≤ n) (h2 : n ≤ 16383) (ha : a < 0 ∨ n ≤ a) :
    Calls Tryz.prog 120 #[.int .i64 a, .int .i64 (n : Int)] w fun e w' => e = .returned (.tuple #[.agg #[.int .u8 0, .int .u8 0], .iface 48 (.int .i64 4)]) ∧ Below w.heap.size w w' := by
  have HS := Lib.hid fun W => size_yes n W h1 h2
  have HA : Hid (Below w.heap.size w (w.alloc (.cells #[.int .u8 0, .int .u8 0] 156))) := (Below.refl _ _).alloc (Nat.le_refl _) _
  have HN := Lib.hid (heap_alloc_new w (.cells #[.int .u8 0, .int .u8 0] 156))
  by_cases h : a < 0
  · clear ha h1 h2
    go_enter Tryz.func120, Tryz.ntmps120
    go_wp2_with fail
    refine (HS.out _).mono ?_
    rintro e w1 ⟨rfl, rfl⟩
    clear HS
    go_wp2_with fail
    exact bodyPost_ret (v := .tuple #[.agg #[.int .u8 0, .int .u8 0], .iface 48 (.int .i64 4)]) (results_cell_row_tmp rfl _ _ _ w.heap.size _ rfl (run_loadVar_row _ w.heap.size 156 156 _ (0, 0) _ HN.out Tryz.underlying156 rfl (by kernel_rfl)) (.iface 48 (.int .i64 4)) rfl) rfl ⟨rfl, HA.out⟩
  · have h3 : (n : Int) ≤ a := by omega
    clear ha h1 h2
    go_enter Tryz.func120, Tryz.ntmps120
    go_wp2_with fail
    refine (HS.out _).mono ?_
    rintro e w1 ⟨rfl, rfl⟩
    clear HS
    go_wp2_with fail
    exact bodyPost_ret (v := .tuple #[.agg #[.int .u8 0, .int .u8 0], .iface 48 (.int .i64 4)]) (results_cell_row_tmp rfl _ _ _ w.heap.size _ rfl (run_loadVar_row _ w.heap.size 156 156 _ (0, 0) _ HN.out Tryz.underlying156 rfl (by kernel_rfl)) (.iface 48 (.int .i64 4)) rfl) rfl ⟨rfl, HA.out⟩
end Adr
end Go.Proofs.YtpgbnnnfeaodmaaGreatDoor
/- The functions of package attr return what the plain functions say. -/
namespace Go.Proofs.YtpgbnnnfeaodmaaGreatDoor
open Go.RowKit Six Err
namespace Att
theorem puti (n : Int) (w : World) (h0 : 0 ≤ n) (h : n < 64) :
    Calls Tryz.prog 114 #[.int .i64 n] w fun e w' => e = .returned (.tuple #[.int .u8 (put n.toNat : Nat), .nilIface]) ∧ ∃ m, w' = w.drewN m := by
  obtain ⟨k, rfl⟩ := Int.eq_ofNat_of_zero_le h0
  rw [Int.toNat_natCast]
  exact put_any k w (by omega)
theorem part_yes (n : Int) (w : World) :
    Calls Tryz.prog 113 #[.bool true, .int .i64 n] w fun e w' => e = .returned (.int .i64 n) ∧ w = w' := by
  go_enter Tryz.func113, Tryz.ntmps113
  go_wp2
  go_ret
  exact ⟨rfl, rfl⟩
theorem part_no (n : Int) (w : World) :
    Calls Tryz.prog 113 #[.bool false, .int .i64 n] w fun e w' => e = .returned (.int .i64 0) ∧ w = w' := by
  go_enter Tryz.func113, Tryz.ntmps113
  go_wp2
  go_ret
  exact ⟨rfl, rfl⟩
theorem ret_put8 {a b : Nat} (h : a = b) : Ending.returned (.tuple #[.int .u8 (put a : Nat), .nilIface]) = .returned (.tuple #[.int .u8 (put b : Nat), .nilIface]) := by rw [h]
set_option maxHeartbeats 4000000 in
theorem put_ok (p n m : Bool) (s : Nat) (w : World) (hs : s < 4) :
    Calls Tryz.prog 119 #[.agg #[.bool p, .bool n, .int .i64 (s : Int), .bool m]] w fun e w' => e = .returned (.tuple #[.int .u8 (put (num p n m s) : Nat), .nilIface]) ∧ Below w.heap.size w w' := by
  cases p <;> cases n <;> cases m
  all_goals
    go_enter Tryz.func119, Tryz.ntmps119
    go_wp2
    go_quiet (first | (go_at_call 113; with_reducible exact quiet_same (part_yes _ _)) | (go_at_call 113; with_reducible exact quiet_same (part_no _ _)))
    go_wp2_with fail
    refine (puti _ _ (by omega) (by omega)).mono ?_
    rintro e w1 ⟨rfl, k, rfl⟩
    go_wp2_with fail
    go_ret2
    exact ⟨ret_put8 (by unfold num bit; simp; omega), ((Below.refl _ _).alloc (Nat.le_refl _) _).trans (below_drewN _ _ _)⟩
theorem put_bad (p n m : Bool) (s : Int) (w : World) (hs : s < 0 ∨ 4 ≤ s) :
    Calls Tryz.prog 119 #[.agg #[.bool p, .bool n, .int .i64 s, .bool m]] w fun e w' => e = .returned (.tuple #[.int .u8 0, .iface 48 (.int .i64 1)]) ∧ Below w.heap.size w w' := by
  rcases hs with h | h
  · go_enter Tryz.func119, Tryz.ntmps119
    go_wp2
    go_ret2
    exact ⟨rfl, (Below.refl _ _).alloc (Nat.le_refl _) _⟩
  · have h0 : ¬ s < 0 := by omega
    go_enter Tryz.func119, Tryz.ntmps119
    go_wp2
    go_ret2
    exact ⟨rfl, (Below.refl _ _).alloc (Nat.le_refl _) _⟩
theorem ret_p8 {a b : Nat} (h : a = b) : Ending.returned (.int .u8 (put a : Nat)) = .returned (.int .u8 (put b : Nat)) := by rw [h]
end Att
end Go.Proofs.YtpgbnnnfeaodmaaGreatDoor
/- PutWcc of package attr returns what the plain functions say. -/
namespace Go.Proofs.YtpgbnnnfeaodmaaGreatDoor
open Go.RowKit Six Err
namespace Att
set_option maxHeartbeats 4000000 in
theorem putWcc_any (a u r : Bool) (w : World) :
    Calls Tryz.prog 108 #[.agg #[.bool a, .bool u, .bool r]] w fun e w' => e = .returned (.int .u8 (put (wnum a u r) : Nat)) ∧ Below w.heap.size w w' := by
  cases a <;> cases u <;> cases r
  all_goals
    go_enter Tryz.func108, Tryz.ntmps108
    go_wp2
    go_quiet (first | (go_at_call 113; with_reducible exact quiet_same (part_yes _ _)) | (go_at_call 113; with_reducible exact quiet_same (part_no _ _)))
    go_wp2_with fail
    refine (puti _ _ (by omega) (by omega)).mono ?_
    rintro e w1 ⟨rfl, k, rfl⟩
    go_wp2_with fail
    go_ret
    exact ⟨ret_p8 (by decide), ((Below.refl _ _).alloc (Nat.le_refl _) _).trans (below_drewN _ _ _)⟩
end Att
end Go.Proofs.YtpgbnnnfeaodmaaGreatDoor
/- slices.Clone of bytes. -/
namespace Go.Proofs.YtpgbnnnfeaodmaaGreatDoor
open Go.RowKit Sha Cut Err Six Apd
namespace Byt
theorem lt_heap {w : World} {b : Nat} {x : Obj} (h : w.heap[b]? = some x) : b < w.heap.size := by
  rcases Nat.lt_or_ge b w.heap.size with h0 | h0
  · exact h0
  · simp [Array.getElem?_eq_none h0] at h
theorem nil_eq (w : World) : (binOp BinOp.eql 128 (.slice none 0 0) (.slice none 0 0)).run Tryz.prog w = .ok (.bool true) w := by kernel_rfl
theorem nil_ne (a : Addr) (n c : Nat) (w : World) : (binOp BinOp.eql 128 (.slice (some a) n c) (.slice none 0 0)).run Tryz.prog w = .ok (.bool false) w := by kernel_rfl
set_option maxRecDepth 100000 in
set_option maxHeartbeats 1000000 in
theorem clone_any (ad : Option Addr) (len cap : Nat) (xs : List Nat) (w : World) (hB : BytesIn w (.slice ad len cap) xs) (hn : ad = none → len = 0 ∧ cap = 0) (hl : xs.length < 1000000000) :
    Calls Tryz.prog 125 #[.slice ad len cap] w fun e w' => ∃ v, e = .returned v ∧ w'.ownsRow w.heap.size 5 1 v xs.length (u8s xs) ∧ Below w.heap.size w w' := by
  have hx : len = xs.length := by
    obtain ⟨_, _, hv, _⟩ := hB
    injection hv
  subst hx
  cases ad with
  | none =>
    obtain ⟨h0, rfl⟩ := hn rfl
    have hx : xs = [] := List.eq_nil_of_length_eq_zero h0
    subst hx
    clear hB hn hl h0
    have e0 := nil_eq
    go_enter Tryz.func125, Tryz.ntmps125
    go_wp2
    go_ret
    exact ⟨_, rfl, World.ownsRow_nil _ _ _ _, Below.refl _ _⟩
  | some a =>
    have HS := Lib.hid (bytes_src (bytes_below hB ((Below.refl w.heap.size w).alloc (Nat.le_refl _) (.cells #[] 5))))
    have HO := Lib.hid (World.ownsRow_lit (e := 5) (size := 1) w #[] 0 (Nat.le_refl _) (Nat.zero_le _) rfl)
    have HL := Lib.hid hl
    have HB := Lib.hid ((Below.refl w.heap.size w).alloc (Nat.le_refl _) (.cells #[] 5))
    clear hB hn hl
    have e0 := nil_ne
    go_enter Tryz.func125, Tryz.ntmps125
    go_wp2_with (at_builtin; refine wpList_mark ?_)
    refine Lib.hid ?_
    refine append_own rfl (.tmp 5) (.tmp 6) rfl w.heap.size (.slice (some ⟨w.heap.size, 0, none⟩) 0 0) 0 [] rfl HO.out (some a) xs.length cap xs rfl rfl (fun h => by cases h) HS.out (by have := HL.out; omega) HB.out.size ?_
    intro v' w' hown hgr _
    have HR := Lib.hid (show w'.ownsRow w.heap.size 5 1 v' xs.length (u8s xs) from by simpa using hown)
    have HW := Lib.hid (HB.out.grown hgr HB.out.size (by intro k hk; simp [Value.ownBlock] at hk; omega))
    clear hown hgr HS HO HB HL
    obtain ⟨va, vc, rfl⟩ := own_form HR.out
    go_wp2_with fail
    go_ret
    exact ⟨_, rfl, HR.out, HW.out⟩
end Byt
end Go.Proofs.YtpgbnnnfeaodmaaGreatDoor
