/- SixPut, SixLeaf, SixGet, AttrChar, AttrKey, AttrBare, AddrSize, AddrLeaf, AddrPut, AddrPutAll, AddrRead, AddrGet, AddrAll, AttrLeaf, AttrGet, AttrPutW, AttrWcc, BytClone in one text (by tools/bundle.py). -/
import Derived.Test.YtpdlpmbjhopnnaaGreatDoorProg
import Derived.Test.YtpdlpmbjhopnnaaGreatDoorBunBase
import Derived.WalkKit
import Derived.LaidEql
import Derived.RowKitTokens
import Derived.Lib.Hide
import Derived.Below
import Derived.Deep.QuietTactic
import Derived.BigQuiet
import Derived.IntWalk
import Derived.Test.YtpdlpmbjhopnnaaGreatDoorBunPlain
import Derived.Laws.ResultCell
import Derived.OwnWalk
import Derived.Laws.Rows
import Derived.Deep.RegionHeld3
/- Put of package six returns what the plain functions say. -/
namespace Go.Proofs.YtpdlpmbjhopnnaaGreatDoor
open Go.RowKit
namespace Six
theorem value_any (i : Nat) (w : World) (hi : i < 128) :
    Calls Tryz.prog 135 #[.int .u8 (digits i : Nat)] w fun e w' => e = .returned (.int .u8 (value (digits i) : Nat)) ∧ w = w' := by
  rcases digits_hex i hi with ⟨h1, h2⟩ | ⟨h1, h2⟩
  · have hv := Lib.hid (show ((digits i : Nat) : Int) - 48 = (value (digits i) : Nat) by unfold value; rw [if_neg (by omega)]; omega)
    generalize digits i = c at *
    go_enter Tryz.func135, Tryz.ntmps135
    go_wp2
    go_ret
    exact ⟨ret_u8 hv.out, rfl⟩
  · have hv := Lib.hid (show ((digits i : Nat) : Int) - 87 = (value (digits i) : Nat) by unfold value; rw [if_pos (by omega)]; omega)
    generalize digits i = c at *
    go_enter Tryz.func135, Tryz.ntmps135
    go_wp2
    go_ret
    exact ⟨ret_u8 (by rw [← hv.out]; omega), rfl⟩
/-- The text of all graphic bytes. -/
def text : ByteArray := { data := ((52 :: 48 :: 99 :: 49 :: 99 :: 50 :: 99 :: 51 :: 99 :: 52 :: 99 :: 53 :: 99 :: 54 :: 99 :: 55 :: 99 :: 56 :: 99 :: 57 :: 52 :: 97 :: 52 :: 98 :: 52 :: 99 :: 52 :: 100 :: 52 :: 101 :: 52 :: 102 :: 53 :: 48 :: 100 :: 49 :: 100 :: 50 :: 100 :: 51 :: 100 :: 52 :: 100 :: 53 :: 100 :: 54 :: 100 :: 55 :: 100 :: 56 :: 100 :: 57 :: 53 :: 97 :: 53 :: 98 :: 53 :: 99 :: 53 :: 100 :: 53 :: 101 :: 53 :: 102 :: []).append (54 :: 48 :: 54 :: 49 :: 101 :: 50 :: 101 :: 51 :: 101 :: 52 :: 101 :: 53 :: 101 :: 54 :: 101 :: 55 :: 101 :: 56 :: 101 :: 57 :: 54 :: 97 :: 54 :: 98 :: 54 :: 99 :: 54 :: 100 :: 54 :: 101 :: 54 :: 102 :: 102 :: 48 :: 102 :: 49 :: 102 :: 50 :: 102 :: 51 :: 102 :: 52 :: 102 :: 53 :: 102 :: 54 :: 102 :: 55 :: 102 :: 56 :: 102 :: 57 :: 55 :: 97 :: 55 :: 98 :: 55 :: 99 :: 55 :: 100 :: 55 :: 101 :: 55 :: 102 :: [])).toArray }
theorem text_def : Hid ({ data := ((52 :: 48 :: 99 :: 49 :: 99 :: 50 :: 99 :: 51 :: 99 :: 52 :: 99 :: 53 :: 99 :: 54 :: 99 :: 55 :: 99 :: 56 :: 99 :: 57 :: 52 :: 97 :: 52 :: 98 :: 52 :: 99 :: 52 :: 100 :: 52 :: 101 :: 52 :: 102 :: 53 :: 48 :: 100 :: 49 :: 100 :: 50 :: 100 :: 51 :: 100 :: 52 :: 100 :: 53 :: 100 :: 54 :: 100 :: 55 :: 100 :: 56 :: 100 :: 57 :: 53 :: 97 :: 53 :: 98 :: 53 :: 99 :: 53 :: 100 :: 53 :: 101 :: 53 :: 102 :: []).append (54 :: 48 :: 54 :: 49 :: 101 :: 50 :: 101 :: 51 :: 101 :: 52 :: 101 :: 53 :: 101 :: 54 :: 101 :: 55 :: 101 :: 56 :: 101 :: 57 :: 54 :: 97 :: 54 :: 98 :: 54 :: 99 :: 54 :: 100 :: 54 :: 101 :: 54 :: 102 :: 102 :: 48 :: 102 :: 49 :: 102 :: 50 :: 102 :: 51 :: 102 :: 52 :: 102 :: 53 :: 102 :: 54 :: 102 :: 55 :: 102 :: 56 :: 102 :: 57 :: 55 :: 97 :: 55 :: 98 :: 55 :: 99 :: 55 :: 100 :: 55 :: 101 :: 55 :: 102 :: [])).toArray } = text) := rfl
theorem text_size : text.size = 128 := by decide +kernel
theorem text_get : ∀ i, (h : i < text.size) → text[i].toNat = digits i := by decide +kernel
theorem index_text (i : Nat) (hi : i < 128) (W : World) :
    (Instr.index 9 (.string text) (.int .i64 (i : Int))).run Tryz.prog W = .ok (.int .u8 (digits i : Nat)) W := by
  have hz := text_size
  have hg := text_get i (by omega)
  simp [Instr.index, asIntOf, run_underlying Tryz.underlying9]
  rw [show text[i]? = some text[i] from getElem?_pos text i (by omega)]
  exact congrArg (fun x : Nat => Result.ok (Value.int .u8 (x : Int)) W) hg
set_option maxHeartbeats 1000000 in
theorem put_any (n : Nat) (w : World) (hn : n < 64) :
    Calls Tryz.prog 117 #[.int .i64 (n : Int)] w fun e w' => e = .returned (.tuple #[.int .u8 (put n : Nat), .nilIface]) ∧ ∃ m, w' = w.drewN m := by
  go_enter Tryz.func117, Tryz.ntmps117
  go_wp2_with fail
  have q0 : IntKind.i64.wrap (2 * (n : Int)) = 2 * (n : Int) := by rw [IntWalk.i64_in] <;> omega
  have q1 : IntKind.i64.wrap (2 * (n : Int) + 1) = 2 * (n : Int) + 1 := by rw [IntWalk.i64_in] <;> omega
  have x0 := index_text (2 * n) (by omega)
  have x1 := index_text (2 * n + 1) (by omega)
  rw [show ((2 * n : Nat) : Int) = 2 * (n : Int) by omega] at x0
  rw [show ((2 * n + 1 : Nat) : Int) = 2 * (n : Int) + 1 by omega] at x1
  rw [text_def.out]
  go_quiet ((go_at_call 135; refine quiet_same (value_any _ _ ?_); omega))
  clear x0 x1 q0 q1
  go_wp2
  go_ret2
  exact ⟨ret_put (put_bits n hn), nq, rfl⟩
theorem put_less (n : Int) (w : World) (h : n < 0) :
    Calls Tryz.prog 117 #[.int .i64 n] w fun e w' => e = .returned (.tuple #[.int .u8 0, .iface 71 (.int .i64 1)]) ∧ w = w' := by
  go_enter Tryz.func117, Tryz.ntmps117
  go_wp2
  go_ret2
  exact ⟨rfl, rfl⟩
theorem put_more (n : Int) (w : World) (h : 64 ≤ n) :
    Calls Tryz.prog 117 #[.int .i64 n] w fun e w' => e = .returned (.tuple #[.int .u8 0, .iface 71 (.int .i64 1)]) ∧ w = w' := by
  have h0 : ¬ n < 0 := by omega
  go_enter Tryz.func117, Tryz.ntmps117
  go_wp2
  go_ret2
  exact ⟨rfl, rfl⟩
end Six
end Go.Proofs.YtpdlpmbjhopnnaaGreatDoor
/- The functions of package six return what the plain functions say. -/
namespace Go.Proofs.YtpdlpmbjhopnnaaGreatDoor
open Go.RowKit
namespace Six
theorem low_any (b : Nat) (w : World) (hb : b < 256) :
    Calls Tryz.prog 142 #[.int .u8 (b : Int)] w fun e w' => e = .returned (.int .i64 (b % 64 : Nat)) ∧ w = w' := by
  go_enter Tryz.func142, Tryz.ntmps142
  go_wp2
  go_ret
  exact ⟨ret_i64 (by omega), rfl⟩
end Six
end Go.Proofs.YtpdlpmbjhopnnaaGreatDoor
/- Get of package six returns what the plain functions say. -/
namespace Go.Proofs.YtpdlpmbjhopnnaaGreatDoor
open Go.RowKit
namespace Six
theorem get_yes (b : Nat) (w : World) (hb : b < 256) (hg : isGraphic b = true) :
    Calls Tryz.prog 130 #[.int .u8 (b : Int)] w fun e w' => e = .returned (.tuple #[.int .i64 (b % 64 : Nat), .nilIface]) ∧ ∃ m, w' = w.drewN m := by
  have HP := put_any (b % 64) w (Nat.mod_lt _ (by decide))
  rw [put_of_graphic hg] at HP
  clear hg
  have HL := low_any b w hb
  generalize b % 64 = n at HP HL
  go_enter Tryz.func130, Tryz.ntmps130
  go_wp2_with (first | (go_at_call 142; refine HL.mono ?_; rintro e w' ⟨rfl, rfl⟩) | (go_at_call 117; refine HP.mono ?_; rintro e w' ⟨rfl, m, rfl⟩))
  go_ret2
  exact ⟨rfl, _, rfl⟩
theorem get_no (b : Nat) (w : World) (hb : b < 256) (hg : isGraphic b = false) :
    Calls Tryz.prog 130 #[.int .u8 (b : Int)] w fun e w' => e = .returned (.tuple #[.int .i64 0, .iface 71 (.int .i64 3)]) ∧ ∃ m, w' = w.drewN m := by
  have HP := put_any (b % 64) w (Nat.mod_lt _ (by decide))
  have hne := not_graphic hg (b % 64) (Nat.mod_lt _ (by decide))
  clear hg
  have HL := low_any b w hb
  generalize put (b % 64) = p at HP hne
  generalize b % 64 = n at HP HL
  have t1 : (((p : Nat) : Int) == (b : Int)) = false := by simp; omega
  have t2 : (((p : Nat) : Int) != (b : Int)) = true := by simp; omega
  go_enter Tryz.func130, Tryz.ntmps130
  go_wp2_with (first | (go_at_call 142; refine HL.mono ?_; rintro e w' ⟨rfl, rfl⟩) | (go_at_call 117; refine HP.mono ?_; rintro e w' ⟨rfl, m, rfl⟩))
  go_ret2
  exact ⟨rfl, _, rfl⟩
end Six
end Go.Proofs.YtpdlpmbjhopnnaaGreatDoor
/- Char of package attr. -/
namespace Go.Proofs.YtpdlpmbjhopnnaaGreatDoor
open Go.RowKit Six
namespace Att
theorem char_any (b : Nat) (w : World) (hb : b < 256) :
    Calls Tryz.prog 87 #[.int .u8 (b : Int)] w fun e w' => e = .returned (.bool (char b)) ∧ w = w' := by
  by_cases h0 : b = 0
  · subst h0
    go_enter Tryz.func87, Tryz.ntmps87
    go_wp2
    go_ret
    exact ⟨rfl, rfl⟩
  by_cases h1 : b = 28
  · subst h1
    go_enter Tryz.func87, Tryz.ntmps87
    go_wp2
    go_ret
    exact ⟨rfl, rfl⟩
  by_cases h2 : b = 30
  · subst h2
    go_enter Tryz.func87, Tryz.ntmps87
    go_wp2
    go_ret
    exact ⟨rfl, rfl⟩
  have k0 : ((b : Int) == 0) = false := by simp; omega
  have k1 : ((b : Int) == 28) = false := by simp; omega
  have k2 : ((b : Int) == 30) = false := by simp; omega
  have hc : char b = (decide (64 ≤ b) && decide (b ≤ 254)) := by unfold char; simp [h0, h1, h2]
  rw [hc]
  clear hc h0 h1 h2
  by_cases h3 : 64 ≤ b
  · by_cases h4 : b ≤ 254
    · go_enter Tryz.func87, Tryz.ntmps87
      go_wp2
      go_ret
      exact ⟨ret_bool (by simp [h3, h4]; omega), rfl⟩
    · go_enter Tryz.func87, Tryz.ntmps87
      go_wp2
      go_ret
      exact ⟨ret_bool (by simp [h4]; try omega), rfl⟩
  · go_enter Tryz.func87, Tryz.ntmps87
    go_wp2
    go_ret
    exact ⟨ret_bool (by simp; try omega), rfl⟩
end Att
end Go.Proofs.YtpdlpmbjhopnnaaGreatDoor
/- The keys of package attr are told as the plain functions say. -/
namespace Go.Proofs.YtpdlpmbjhopnnaaGreatDoor
open Go.RowKit Six Err
namespace Att
theorem aid_no {b : Nat} (hb : b < 256) (h0 : b ≠ 109) (h1 : b ≠ 108) (h2 : b ≠ 110) (h3 : b ≠ 107) (h4 : b ≠ 125) (h5 : b ≠ 241) (h6 : b ≠ 242) (h7 : b ≠ 243) (h8 : b ≠ 244) (h9 : b ≠ 245) (h10 : b ≠ 246) (h11 : b ≠ 247) (h12 : b ≠ 248) (h13 : b ≠ 249) (h14 : b ≠ 122) (h15 : b ≠ 123) (h16 : b ≠ 124) : aid b = false ∧ bare b = false := by
  have hall : ∀ b, b < 256 → aid b = true → ([109, 108, 110, 107, 125, 241, 242, 243, 244, 245, 246, 247, 248, 249, 122, 123, 124] : List Nat).contains b = true := by decide +kernel
  have ha : aid b = false := by
    cases h : aid b with
    | false => rfl
    | true =>
      have hc := hall b hb h
      simp at hc
      omega
  refine ⟨ha, ?_⟩
  cases h : bare b with
  | false => rfl
  | true => rw [bare_aid b h] at ha; cases ha
set_option maxHeartbeats 4000000 in
theorem key_any (b : Nat) (w : World) (hb : b < 256) :
    Calls Tryz.prog 93 #[.int .u8 (b : Int)] w fun e w' => e = .returned (.tuple #[.bool (aid b), .bool (bare b)]) ∧ w = w' := by
  by_cases h0 : b = 109
  · subst h0
    go_enter Tryz.func93, Tryz.ntmps93
    go_wp2
    go_ret2
    exact ⟨rfl, rfl⟩
  by_cases h1 : b = 108
  · subst h1
    go_enter Tryz.func93, Tryz.ntmps93
    go_wp2
    go_ret2
    exact ⟨rfl, rfl⟩
  by_cases h2 : b = 110
  · subst h2
    go_enter Tryz.func93, Tryz.ntmps93
    go_wp2
    go_ret2
    exact ⟨rfl, rfl⟩
  by_cases h3 : b = 107
  · subst h3
    go_enter Tryz.func93, Tryz.ntmps93
    go_wp2
    go_ret2
    exact ⟨rfl, rfl⟩
  by_cases h4 : b = 125
  · subst h4
    go_enter Tryz.func93, Tryz.ntmps93
    go_wp2
    go_ret2
    exact ⟨rfl, rfl⟩
  by_cases h5 : b = 241
  · subst h5
    go_enter Tryz.func93, Tryz.ntmps93
    go_wp2
    go_ret2
    exact ⟨rfl, rfl⟩
  by_cases h6 : b = 242
  · subst h6
    go_enter Tryz.func93, Tryz.ntmps93
    go_wp2
    go_ret2
    exact ⟨rfl, rfl⟩
  by_cases h7 : b = 243
  · subst h7
    go_enter Tryz.func93, Tryz.ntmps93
    go_wp2
    go_ret2
    exact ⟨rfl, rfl⟩
  by_cases h8 : b = 244
  · subst h8
    go_enter Tryz.func93, Tryz.ntmps93
    go_wp2
    go_ret2
    exact ⟨rfl, rfl⟩
  by_cases h9 : b = 245
  · subst h9
    go_enter Tryz.func93, Tryz.ntmps93
    go_wp2
    go_ret2
    exact ⟨rfl, rfl⟩
  by_cases h10 : b = 246
  · subst h10
    go_enter Tryz.func93, Tryz.ntmps93
    go_wp2
    go_ret2
    exact ⟨rfl, rfl⟩
  by_cases h11 : b = 247
  · subst h11
    go_enter Tryz.func93, Tryz.ntmps93
    go_wp2
    go_ret2
    exact ⟨rfl, rfl⟩
  by_cases h12 : b = 248
  · subst h12
    go_enter Tryz.func93, Tryz.ntmps93
    go_wp2
    go_ret2
    exact ⟨rfl, rfl⟩
  by_cases h13 : b = 249
  · subst h13
    go_enter Tryz.func93, Tryz.ntmps93
    go_wp2
    go_ret2
    exact ⟨rfl, rfl⟩
  by_cases h14 : b = 122
  · subst h14
    go_enter Tryz.func93, Tryz.ntmps93
    go_wp2
    go_ret2
    exact ⟨rfl, rfl⟩
  by_cases h15 : b = 123
  · subst h15
    go_enter Tryz.func93, Tryz.ntmps93
    go_wp2
    go_ret2
    exact ⟨rfl, rfl⟩
  by_cases h16 : b = 124
  · subst h16
    go_enter Tryz.func93, Tryz.ntmps93
    go_wp2
    go_ret2
    exact ⟨rfl, rfl⟩
  obtain ⟨ha, hr⟩ := aid_no hb h0 h1 h2 h3 h4 h5 h6 h7 h8 h9 h10 h11 h12 h13 h14 h15 h16
  rw [ha, hr]
  have k0 : ((b : Int) == 109) = false := by simp; omega
  have k1 : ((b : Int) == 108) = false := by simp; omega
  have k2 : ((b : Int) == 110) = false := by simp; omega
  have k3 : ((b : Int) == 107) = false := by simp; omega
  have k4 : ((b : Int) == 125) = false := by simp; omega
  have k5 : ((b : Int) == 241) = false := by simp; omega
  have k6 : ((b : Int) == 242) = false := by simp; omega
  have k7 : ((b : Int) == 243) = false := by simp; omega
  have k8 : ((b : Int) == 244) = false := by simp; omega
  have k9 : ((b : Int) == 245) = false := by simp; omega
  have k10 : ((b : Int) == 246) = false := by simp; omega
  have k11 : ((b : Int) == 247) = false := by simp; omega
  have k12 : ((b : Int) == 248) = false := by simp; omega
  have k13 : ((b : Int) == 249) = false := by simp; omega
  have k14 : ((b : Int) == 122) = false := by simp; omega
  have k15 : ((b : Int) == 123) = false := by simp; omega
  have k16 : ((b : Int) == 124) = false := by simp; omega
  clear ha hr h0 h1 h2 h3 h4 h5 h6 h7 h8 h9 h10 h11 h12 h13 h14 h15 h16
  go_enter Tryz.func93, Tryz.ntmps93
  go_wp2
  go_ret2
  exact ⟨rfl, rfl⟩
theorem aid_any (b : Nat) (w : World) (hb : b < 256) :
    Calls Tryz.prog 48 #[.int .u8 (b : Int)] w fun e w' => e = .returned (.bool (aid b)) ∧ w = w' := by
  have HK := fun W => key_any b W hb
  generalize aid b = x at HK ⊢
  generalize bare b = y at HK
  go_enter Tryz.func48, Tryz.ntmps48
  go_wp2_with (go_at_call 93; refine (HK _).mono ?_; rintro e w' ⟨rfl, rfl⟩)
  go_ret
  exact ⟨rfl, rfl⟩
end Att
end Go.Proofs.YtpdlpmbjhopnnaaGreatDoor
/- The bare keys of package attr. -/
namespace Go.Proofs.YtpdlpmbjhopnnaaGreatDoor
open Go.RowKit Six Err
namespace Att
theorem bare_any (b : Nat) (w : World) (hb : b < 256) :
    Calls Tryz.prog 49 #[.int .u8 (b : Int)] w fun e w' => e = .returned (.bool (bare b)) ∧ w = w' := by
  have HK := fun W => key_any b W hb
  generalize aid b = x at HK
  generalize bare b = y at HK ⊢
  go_enter Tryz.func49, Tryz.ntmps49
  go_wp2_with (go_at_call 93; refine (HK _).mono ?_; rintro e w' ⟨rfl, rfl⟩)
  go_ret
  exact ⟨rfl, rfl⟩
end Att
end Go.Proofs.YtpdlpmbjhopnnaaGreatDoor
/- Sizes of package addr: the functions that reading needs. -/
namespace Go.Proofs.YtpdlpmbjhopnnaaGreatDoor
open Go.RowKit Err Six
namespace Adr
theorem ret_bool {a b : Bool} (h : a = b) : Ending.returned (.bool a) = .returned (.bool b) := by rw [h]
theorem results_cell_row_tmp {fn : Func} {p u : Tmp} {ty : TypeId} (h : fn.results = #[.cell p ty, .tmp u]) (tmps : Array Value) (P : Program) (w : World) (g : Nat) (cs : Array Value)
    (hp : tmps.getD p undef = .pointer (some ⟨g, 0, none⟩)) (hl : (loadVar ty ⟨g, 0, none⟩).run P w = .ok (.agg cs) w) (x : Value) (hx : tmps.getD u undef = x) :
    (results fn tmps).run P w = .ok (.tuple #[.agg cs, x]) w := by
  subst hx
  have hp' : tmps[p]?.getD undef = .pointer (some ⟨g, 0, none⟩) := by simpa using hp
  rw [results_cell_tmp h]
  simp [hp', asAddr, hl, Result.andThen]
theorem two_set (w : World) (m : Nat) (t : TypeId) (a b u v : Value) :
    ((((w.alloc (.cells #[a, b] t)).drewN m).setCell ⟨w.heap.size, 0, none⟩ u).setCell ⟨w.heap.size, 1, none⟩ v).heap[w.heap.size]? = some (.cells #[u, v] t (0, 0))
    ∧ Below w.heap.size w ((((w.alloc (.cells #[a, b] t)).drewN m).setCell ⟨w.heap.size, 0, none⟩ u).setCell ⟨w.heap.size, 1, none⟩ v) := by
  have h0 : ((w.alloc (.cells #[a, b] t)).drewN m).heap[w.heap.size]? = some (.cells #[a, b] t (0, 0)) := by
    show (w.alloc (.cells #[a, b] t)).heap[w.heap.size]? = _
    exact heap_alloc_new w _
  have h1 := heap_setCell_same ((w.alloc (.cells #[a, b] t)).drewN m) w.heap.size 0 _ t u h0
  have h2 := heap_setCell_same _ w.heap.size 1 _ t v h1
  refine ⟨h2, ?_⟩
  have hb : Below w.heap.size w ((w.alloc (.cells #[a, b] t)).drewN m) := ((Below.refl _ _).alloc (Nat.le_refl _) _).trans (below_drewN _ _ _)
  exact (hb.setCell (p := ⟨w.heap.size, 0, none⟩) (Nat.le_refl _) u).setCell (p := ⟨w.heap.size, 1, none⟩) (Nat.le_refl _) v
theorem long_any (n : Int) (w : World) :
    Calls Tryz.prog 103 #[.int .i64 n] w fun e w' => e = .returned (.bool (decide (4096 < n))) ∧ w = w' := by
  go_enter Tryz.func103, Tryz.ntmps103
  go_wp2
  go_ret
  exact ⟨rfl, rfl⟩
theorem isSize_any (n : Int) (w : World) :
    Calls Tryz.prog 101 #[.int .i64 n] w fun e w' => e = .returned (.bool (decide (1 ≤ n ∧ n ≤ 16383))) ∧ w = w' := by
  by_cases h : 1 ≤ n
  · by_cases h2 : n ≤ 16383
    · go_enter Tryz.func101, Tryz.ntmps101
      go_wp2
      go_ret
      exact ⟨ret_bool (by simp; omega), rfl⟩
    · go_enter Tryz.func101, Tryz.ntmps101
      go_wp2
      go_ret
      exact ⟨ret_bool (by simp; omega), rfl⟩
  · go_enter Tryz.func101, Tryz.ntmps101
    go_wp2
    go_ret
    exact ⟨ret_bool (by simp; omega), rfl⟩
theorem lowBits_short (n : Int) (w : World) (h : n ≤ 4096) :
    Calls Tryz.prog 102 #[.int .i64 n] w fun e w' => e = .returned (.int .i64 6) ∧ w = w' := by
  have HL := fun W => long_any n W
  rw [show decide (4096 < n) = false by simp; omega] at HL
  go_enter Tryz.func102, Tryz.ntmps102
  go_wp2_with (go_at_call 103; refine (HL _).mono ?_; rintro e w' ⟨rfl, rfl⟩)
  go_ret
  exact ⟨rfl, rfl⟩
theorem lowBits_long (n : Int) (w : World) (h : 4096 < n) :
    Calls Tryz.prog 102 #[.int .i64 n] w fun e w' => e = .returned (.int .i64 8) ∧ w = w' := by
  have HL := fun W => long_any n W
  rw [show decide (4096 < n) = true by simp; omega] at HL
  go_enter Tryz.func102, Tryz.ntmps102
  go_wp2_with (go_at_call 103; refine (HL _).mono ?_; rintro e w' ⟨rfl, rfl⟩)
  go_ret
  exact ⟨rfl, rfl⟩
theorem size_yes (n : Nat) (w : World) (h : 1 ≤ n) (h2 : n ≤ 16383) :
    Calls Tryz.prog 101 #[.int .i64 (n : Int)] w fun e w' => e = .returned (.bool true) ∧ w = w' :=
  (isSize_any n w).mono fun _ _ ⟨he, hm⟩ => ⟨by rw [he]; exact ret_bool (by simp; omega), hm⟩
theorem long_no (n : Nat) (w : World) (h : n ≤ 4096) :
    Calls Tryz.prog 103 #[.int .i64 (n : Int)] w fun e w' => e = .returned (.bool false) ∧ w = w' :=
  (long_any n w).mono fun _ _ ⟨he, hm⟩ => ⟨by rw [he]; exact ret_bool (by simp; omega), hm⟩
theorem long_yes (n : Nat) (w : World) (h : 4096 < n) :
    Calls Tryz.prog 103 #[.int .i64 (n : Int)] w fun e w' => e = .returned (.bool true) ∧ w = w' :=
  (long_any n w).mono fun _ _ ⟨he, hm⟩ => ⟨by rw [he]; exact ret_bool (by simp; omega), hm⟩
theorem ofInt_64 (a : Nat) (ha : a < 2 ^ 64) : (BitVec.ofInt 64 (a : Int)).toNat = a := by
  rw [BitVec.ofInt_natCast, BitVec.toNat_ofNat]; exact Nat.mod_eq_of_lt ha
theorem i64_and_nat (a b : Nat) (ha : a < 2 ^ 62) (hb : b < 2 ^ 62) : bits .and .i64 (a : Int) (b : Int) = ((a &&& b : Nat) : Int) := by
  have hx : a &&& b ≤ a := Nat.and_le_left
  show IntKind.i64.wrap ((BitVec.ofInt 64 (a : Int) &&& BitVec.ofInt 64 (b : Int)).toNat : Int) = _
  rw [BitVec.toNat_and, ofInt_64 a (by omega), ofInt_64 b (by omega), IntWalk.i64_in] <;> omega
theorem i64_or_nat (a b : Nat) (ha : a < 2 ^ 62) (hb : b < 2 ^ 62) : bits .or .i64 (a : Int) (b : Int) = ((a ||| b : Nat) : Int) := by
  have hx : a ||| b < 2 ^ 62 := Nat.or_lt_two_pow ha hb
  show IntKind.i64.wrap ((BitVec.ofInt 64 (a : Int) ||| BitVec.ofInt 64 (b : Int)).toNat : Int) = _
  rw [BitVec.toNat_or, ofInt_64 a (by omega), ofInt_64 b (by omega), IntWalk.i64_in] <;> omega
theorem and63 (a : Nat) (ha : a < 2 ^ 62) : bits .and .i64 (a : Int) 63 = ((a % 64 : Nat) : Int) := by
  rw [show (63 : Int) = ((63 : Nat) : Int) from rfl, i64_and_nat a 63 ha (by decide), show a &&& 63 = a % 64 from Nat.and_two_pow_sub_one_eq_mod a 6]
theorem and255 (a : Nat) (ha : a < 2 ^ 62) : bits .and .i64 (a : Int) 255 = ((a % 256 : Nat) : Int) := by
  rw [show (255 : Int) = ((255 : Nat) : Int) from rfl, i64_and_nat a 255 ha (by decide), show a &&& 255 = a % 256 from Nat.and_two_pow_sub_one_eq_mod a 8]
theorem shr6 (a : Nat) : (a : Int) / 2 ^ 6 = ((a / 64 : Nat) : Int) := by omega
theorem shr8 (a : Nat) : (a : Int) / 2 ^ 8 = ((a / 256 : Nat) : Int) := by omega
end Adr
end Go.Proofs.YtpdlpmbjhopnnaaGreatDoor
/- The small functions of package addr return what they say. -/
namespace Go.Proofs.YtpdlpmbjhopnnaaGreatDoor
open Go.RowKit Err Six
namespace Adr
theorem putShort_any (x y : Nat) (w : World) (hx : x < 64) (hy : y < 64) :
    Calls Tryz.prog 104 #[.int .i64 (x : Int), .int .i64 (y : Int)] w fun e w' => e = .returned (.agg #[.int .u8 (put x : Nat), .int .u8 (put y : Nat)]) ∧ Below w.heap.size w w' := by
  have HX := fun W => put_any x W hx
  have HY := fun W => put_any y W hy
  generalize put x = p at HX
  generalize put y = q at HY
  go_enter Tryz.func104, Tryz.ntmps104
  go_wp2_with fail
  refine (HX _).mono ?_
  rintro e w1 ⟨rfl, m, rfl⟩
  clear HX
  go_wp2_with fail
  refine (HY _).mono ?_
  rintro e w2 ⟨rfl, m2, rfl⟩
  clear HY
  go_wp2_with fail
  obtain ⟨h1, h2⟩ := two_set w (m + m2) 104 (.int .u8 0) (.int .u8 0) (.int .u8 (p : Int)) (.int .u8 (q : Int))
  have H1 := Lib.hid h1
  have H2 := Lib.hid h2
  clear h1 h2
  generalize ((((w.alloc (.cells #[.int .u8 0, .int .u8 0] 104)).drewN (m + m2)).setCell ⟨w.heap.size, 0, none⟩ (.int .u8 (p : Int))).setCell ⟨w.heap.size, 1, none⟩ (.int .u8 (q : Int))) = wz at *
  exact bodyPost_ret (v := .agg #[.int .u8 (p : Int), .int .u8 (q : Int)]) (results_cell_row rfl _ _ w.heap.size 104 _ (0, 0) _ rfl H1.out Tryz.underlying104 rfl (by kernel_rfl)) rfl ⟨rfl, H2.out⟩
end Adr
end Go.Proofs.YtpdlpmbjhopnnaaGreatDoor
/- Put of package addr writes an address. -/
namespace Go.Proofs.YtpdlpmbjhopnnaaGreatDoor
open Go.RowKit Err Six
namespace Adr
theorem putShort_at (a n : Nat) (w : World) (ha : a < n) (hn : n ≤ 4096) :
    Calls Tryz.prog 104 #[.int .i64 ((a : Int) / 64), .int .i64 ((a : Int) % 64)] w fun e w' => e = .returned (.agg #[.int .u8 (put (a / 64) : Nat), .int .u8 (put (a % 64) : Nat)]) ∧ Below w.heap.size w w' := by
  have := putShort_any (a / 64) (a % 64) w (by omega) (by omega)
  rw [show ((a / 64 : Nat) : Int) = (a : Int) / 64 by omega, show ((a % 64 : Nat) : Int) = (a : Int) % 64 by omega] at this
  exact this
theorem heap_two (w : World) (m : Nat) (w1 : World) (t : TypeId) (a b : Value) (hb : Below ((w.alloc (.cells #[a, b] t)).drewN m).heap.size ((w.alloc (.cells #[a, b] t)).drewN m) w1) :
    w1.heap[w.heap.size]? = some (.cells #[a, b] t (0, 0)) ∧ Below w.heap.size w w1 := by
  have h0 : ((w.alloc (.cells #[a, b] t)).drewN m).heap[w.heap.size]? = some (.cells #[a, b] t (0, 0)) := by
    show (w.alloc (.cells #[a, b] t)).heap[w.heap.size]? = _
    exact heap_alloc_new w _
  have hlt : w.heap.size < ((w.alloc (.cells #[a, b] t)).drewN m).heap.size := by simp
  have h1 := hb.block _ hlt
  have h2 : Below w.heap.size w ((w.alloc (.cells #[a, b] t)).drewN m) := ((Below.refl _ _).alloc (Nat.le_refl _) _).trans (below_drewN _ _ _)
  exact ⟨h1.trans h0, h2.trans (hb.mono (Nat.le_of_lt hlt))⟩
theorem cells_two (w : World) (m : Nat) (w1 : World) (t : TypeId) (a b : Value) (hb : Below ((w.alloc (.cells #[a, b] t)).drewN m).heap.size ((w.alloc (.cells #[a, b] t)).drewN m) w1) :
    w1.cell? ⟨w.heap.size, 0, none⟩ = some a ∧ w1.cell? ⟨w.heap.size, 1, none⟩ = some b ∧ w1.frozen? ⟨w.heap.size, 0, none⟩ = false ∧ w1.frozen? ⟨w.heap.size, 1, none⟩ = false := by
  have h := (heap_two w m w1 t a b hb).1
  refine ⟨?_, ?_, ?_, ?_⟩
  · exact cell_of_row w1 _ 0 _ _ _ h
  · exact cell_of_row w1 _ 1 _ _ _ h
  · simp [World.frozen?, h]
  · simp [World.frozen?, h]
theorem set_two (w : World) (m : Nat) (w1 : World) (t : TypeId) (a b : Value) (hb : Below ((w.alloc (.cells #[a, b] t)).drewN m).heap.size ((w.alloc (.cells #[a, b] t)).drewN m) w1) (u v : Value) :
    ((w1.setCell ⟨w.heap.size, 0, none⟩ u).setCell ⟨w.heap.size, 1, none⟩ v).heap[w.heap.size]? = some (.cells #[u, v] t (0, 0))
    ∧ Below w.heap.size w ((w1.setCell ⟨w.heap.size, 0, none⟩ u).setCell ⟨w.heap.size, 1, none⟩ v) := by
  obtain ⟨h, hb⟩ := heap_two w m w1 t a b hb
  have h1 := heap_setCell_same w1 w.heap.size 0 _ t u h
  have h2 := heap_setCell_same _ w.heap.size 1 _ t v h1
  exact ⟨h2, (hb.setCell (p := ⟨w.heap.size, 0, none⟩) (Nat.le_refl _) u).setCell (p := ⟨w.heap.size, 1, none⟩) (Nat.le_refl _) v⟩
set_option maxHeartbeats 1000000 in
theorem put_short (a n : Nat) (w : World) (ha : a < n) (hn : n ≤ 4096) :
    Calls Tryz.prog 57 #[.int .i64 (a : Int), .int .i64 (n : Int)] w fun e w' => e = .returned (.tuple #[.agg #[.int .u8 (put (a / 64) : Nat), .int .u8 (put (a % 64) : Nat)], .nilIface]) ∧ Below w.heap.size w w' := by
  have HS := Lib.hid fun W => size_yes n W (by omega) (by omega)
  have HB := Lib.hid fun W => lowBits_short n W (by omega)
  have HL := Lib.hid fun W => long_no n W hn
  have HP := fun W => putShort_at a n W ha hn
  generalize ((put (a / 64) : Nat) : Int) = x at HP ⊢
  generalize ((put (a % 64) : Nat) : Int) = y at HP ⊢
  have HP := Lib.hid HP
  have e0 := shr6 a
  have e1 := and63 a (by omega)
  go_enter Tryz.func57, Tryz.ntmps57
  go_wp2_with fail
  refine (HS.out _).mono ?_
  rintro e w1 ⟨rfl, rfl⟩
  clear HS
  go_wp2_with fail
  refine (HB.out _).mono ?_
  rintro e w1 ⟨rfl, rfl⟩
  clear HB
  go_wp2_with fail
  go_quiet (fail)
  clear e0
  go_wp2_with fail
  refine (HL.out _).mono ?_
  rintro e w1 ⟨rfl, rfl⟩
  clear HL
  go_wp2_with fail
  refine (HP.out _).mono ?_
  rintro e w1 ⟨rfl, hb⟩
  clear HP
  obtain ⟨c0, c1, f0, f1⟩ := cells_two w nq w1 104 _ _ hb
  have H1 := Lib.hid fun u v => set_two w nq w1 104 _ _ hb u v
  clear hb
  go_wp2_with fail
  clear c0 c1 f0 f1
  obtain ⟨h1, h2⟩ := H1.out (.int .u8 x) (.int .u8 y)
  have H1 := Lib.hid h1
  have H2 := Lib.hid h2
  clear h1 h2
  generalize (w1.setCell ⟨w.heap.size, 0, none⟩ (.int .u8 x)).setCell ⟨w.heap.size, 1, none⟩ (.int .u8 y) = wz at *
  exact bodyPost_ret (v := .tuple #[.agg #[.int .u8 x, .int .u8 y], .nilIface]) (results_cell_row_tmp rfl _ _ _ w.heap.size _ rfl (run_loadVar_row wz w.heap.size 104 104 _ (0, 0) _ H1.out Tryz.underlying104 rfl (by kernel_rfl)) .nilIface rfl) rfl ⟨rfl, H2.out⟩
set_option maxHeartbeats 1000000 in
theorem put_long (a n : Nat) (w : World) (ha : a < n) (hn : 4096 < n) (h2 : n ≤ 16383) :
    Calls Tryz.prog 57 #[.int .i64 (a : Int), .int .i64 (n : Int)] w fun e w' => e = .returned (.tuple #[.agg #[.int .u8 (a / 256 : Nat), .int .u8 (a % 256 : Nat)], .nilIface]) ∧ Below w.heap.size w w' := by
  have HS := Lib.hid fun W => size_yes n W (by omega) (by omega)
  have HB := Lib.hid fun W => lowBits_long n W (by omega)
  have HL := Lib.hid fun W => long_yes n W hn
  have e0 := shr8 a
  have e1 := and255 a (by omega)
  go_enter Tryz.func57, Tryz.ntmps57
  go_wp2_with fail
  refine (HS.out _).mono ?_
  rintro e w1 ⟨rfl, rfl⟩
  clear HS
  go_wp2_with fail
  refine (HB.out _).mono ?_
  rintro e w1 ⟨rfl, rfl⟩
  clear HB
  go_wp2_with fail
  go_quiet (fail)
  clear e0
  go_wp2_with fail
  refine (HL.out _).mono ?_
  rintro e w1 ⟨rfl, rfl⟩
  clear HL
  go_wp2_with fail
  obtain ⟨h1, h2⟩ := two_set w nq 104 (.int .u8 0) (.int .u8 0) (.int .u8 ((a : Int) / 256)) (.int .u8 ((a : Int) % 256))
  have H1 := Lib.hid h1
  have H2 := Lib.hid h2
  clear h1 h2
  generalize (((w.alloc (.cells #[.int .u8 0, .int .u8 0] 104)).drewN nq).setCell ⟨w.heap.size, 0, none⟩ (.int .u8 ((a : Int) / 256))).setCell ⟨w.heap.size, 1, none⟩ (.int .u8 ((a : Int) % 256)) = wz at *
  exact bodyPost_ret (v := .tuple #[.agg #[.int .u8 ((a : Int) / 256), .int .u8 ((a : Int) % 256)], .nilIface]) (results_cell_row_tmp rfl _ _ _ w.heap.size _ rfl (run_loadVar_row wz w.heap.size 104 104 _ (0, 0) _ H1.out Tryz.underlying104 rfl (by kernel_rfl)) .nilIface rfl) rfl ⟨rfl, H2.out⟩
end Adr
end Go.Proofs.YtpdlpmbjhopnnaaGreatDoor
/- Put of package addr, of whatever number. (Sizes that may be.) -/
namespace Go.Proofs.YtpdlpmbjhopnnaaGreatDoor
open Go.RowKit Err Six
namespace Adr
theorem put_all (a n : Nat) (w : World) (ha : a < n) (h2 : n ≤ 16383) :
    Calls Tryz.prog 57 #[.int .i64 (a : Int), .int .i64 (n : Int)] w fun e w' => e = .returned (.tuple #[.agg #[.int .u8 (first a n : Nat), .int .u8 (second a n : Nat)], .nilIface]) ∧ Below w.heap.size w w' := by
  unfold first second
  by_cases h : n ≤ 4096
  · rw [if_pos h, if_pos h]; exact put_short a n w ha h
  · rw [if_neg h, if_neg h]; exact put_long a n w ha (by omega) h2
set_option maxHeartbeats 1000000 in
theorem put_none (a : Int) (n : Nat) (w : World) (h1 : 1 ≤ n) (h2 : n ≤ 16383) (ha : a < 0 ∨ n ≤ a) :
    Calls Tryz.prog 57 #[.int .i64 a, .int .i64 (n : Int)] w fun e w' => e = .returned (.tuple #[.agg #[.int .u8 0, .int .u8 0], .iface 71 (.int .i64 4)]) ∧ Below w.heap.size w w' := by
  have HS := Lib.hid fun W => size_yes n W h1 h2
  have HA : Hid (Below w.heap.size w (w.alloc (.cells #[.int .u8 0, .int .u8 0] 104))) := (Below.refl _ _).alloc (Nat.le_refl _) _
  have HN := Lib.hid (heap_alloc_new w (.cells #[.int .u8 0, .int .u8 0] 104))
  by_cases h : a < 0
  · clear ha h1 h2
    go_enter Tryz.func57, Tryz.ntmps57
    go_wp2_with fail
    refine (HS.out _).mono ?_
    rintro e w1 ⟨rfl, rfl⟩
    clear HS
    go_wp2_with fail
    exact bodyPost_ret (v := .tuple #[.agg #[.int .u8 0, .int .u8 0], .iface 71 (.int .i64 4)]) (results_cell_row_tmp rfl _ _ _ w.heap.size _ rfl (run_loadVar_row _ w.heap.size 104 104 _ (0, 0) _ HN.out Tryz.underlying104 rfl (by kernel_rfl)) (.iface 71 (.int .i64 4)) rfl) rfl ⟨rfl, HA.out⟩
  · have h3 : (n : Int) ≤ a := by omega
    clear ha h1 h2
    go_enter Tryz.func57, Tryz.ntmps57
    go_wp2_with fail
    refine (HS.out _).mono ?_
    rintro e w1 ⟨rfl, rfl⟩
    clear HS
    go_wp2_with fail
    exact bodyPost_ret (v := .tuple #[.agg #[.int .u8 0, .int .u8 0], .iface 71 (.int .i64 4)]) (results_cell_row_tmp rfl _ _ _ w.heap.size _ rfl (run_loadVar_row _ w.heap.size 104 104 _ (0, 0) _ HN.out Tryz.underlying104 rfl (by kernel_rfl)) (.iface 71 (.int .i64 4)) rfl) rfl ⟨rfl, HA.out⟩
end Adr
end Go.Proofs.YtpdlpmbjhopnnaaGreatDoor
/- getShort and getLong of package addr. -/
namespace Go.Proofs.YtpdlpmbjhopnnaaGreatDoor
open Go.RowKit Err Six
namespace Adr
theorem ret3 {a b : Int} {c d : Int} {v : Value} (h : a = b) (k : c = d) : Ending.returned (.tuple #[.int .i64 a, .int .i64 c, v]) = .returned (.tuple #[.int .i64 b, .int .i64 d, v]) := by rw [h, k]
theorem spot_new (w : World) (m : Nat) (n k : Int) :
    SpotAt ((w.drewN m).alloc (.cells #[.int .i64 n, .iface 71 (.int .i64 k)] 86)) w.heap.size n k ∧ Below w.heap.size w ((w.drewN m).alloc (.cells #[.int .i64 n, .iface 71 (.int .i64 k)] 86)) := by
  have h : ((w.drewN m).alloc (.cells #[.int .i64 n, .iface 71 (.int .i64 k)] 86)).heap[w.heap.size]? = some (.cells #[.int .i64 n, .iface 71 (.int .i64 k)] 86 (0, 0)) := heap_alloc_new (w.drewN m) _
  exact ⟨⟨cell_of_row _ _ 0 _ _ _ h, cell_of_row _ _ 1 _ _ _ h⟩, (below_drewN w.heap.size m w).alloc (Nat.le_refl _) _⟩
set_option maxHeartbeats 1000000 in
theorem getShort_ok (g o len cap x y : Nat) (w : World) (hl : 2 ≤ len) (hx : x < 256) (hy : y < 256) (h0 : w.cell? ⟨g, o, none⟩ = some (.int .u8 (x : Int))) (h1 : w.cell? ⟨g, o + 1, none⟩ = some (.int .u8 (y : Int))) (gx : isGraphic x = true) (gy : isGraphic y = true) :
    Calls Tryz.prog 138 #[.slice (some ⟨g, o, none⟩) len cap] w fun e w' => e = .returned (.tuple #[.int .i64 (x % 64 : Nat), .int .i64 (y % 64 : Nat), .nilIface]) ∧ ∃ m, w' = w.drewN m := by
  have HX := Lib.hid fun W => get_yes x W hx gx
  have HY := Lib.hid fun W => get_yes y W hy gy
  clear gx gy
  go_enter Tryz.func138, Tryz.ntmps138
  go_wp2_with fail
  refine (HX.out _).mono ?_
  rintro e w1 ⟨rfl, m, rfl⟩
  clear HX
  go_wp2_with fail
  refine (HY.out _).mono ?_
  rintro e w2 ⟨rfl, m2, rfl⟩
  clear HY
  go_wp2_with fail
  go_ret3
  exact ⟨rfl, _, rfl⟩
set_option maxHeartbeats 1000000 in
theorem getShort_0 (g o len cap x : Nat) (w : World) (hl : 2 ≤ len) (hx : x < 256) (h0 : w.cell? ⟨g, o, none⟩ = some (.int .u8 (x : Int))) (gx : isGraphic x = false) :
    Calls Tryz.prog 138 #[.slice (some ⟨g, o, none⟩) len cap] w fun e w' => ∃ B, e = .returned (.tuple #[.int .i64 0, .int .i64 0, .iface 84 (.pointer (some ⟨B, 0, none⟩))]) ∧ SpotAt w' B 0 3 ∧ Below w.heap.size w w' := by
  have HX := Lib.hid fun W => get_no x W hx gx
  clear gx
  go_enter Tryz.func138, Tryz.ntmps138
  go_wp2_with fail
  refine (HX.out _).mono ?_
  rintro e w1 ⟨rfl, m, rfl⟩
  clear HX
  go_wp2_with fail
  go_ret3
  exact ⟨_, rfl, spot_new w m 0 3⟩
set_option maxHeartbeats 1000000 in
theorem getShort_1 (g o len cap x y : Nat) (w : World) (hl : 2 ≤ len) (hx : x < 256) (hy : y < 256) (h0 : w.cell? ⟨g, o, none⟩ = some (.int .u8 (x : Int))) (h1 : w.cell? ⟨g, o + 1, none⟩ = some (.int .u8 (y : Int))) (gx : isGraphic x = true) (gy : isGraphic y = false) :
    Calls Tryz.prog 138 #[.slice (some ⟨g, o, none⟩) len cap] w fun e w' => ∃ B, e = .returned (.tuple #[.int .i64 0, .int .i64 0, .iface 84 (.pointer (some ⟨B, 0, none⟩))]) ∧ SpotAt w' B 1 3 ∧ Below w.heap.size w w' := by
  have HX := Lib.hid fun W => get_yes x W hx gx
  have HY := Lib.hid fun W => get_no y W hy gy
  clear gx gy
  go_enter Tryz.func138, Tryz.ntmps138
  go_wp2_with fail
  refine (HX.out _).mono ?_
  rintro e w1 ⟨rfl, m, rfl⟩
  clear HX
  go_wp2_with fail
  refine (HY.out _).mono ?_
  rintro e w2 ⟨rfl, m2, rfl⟩
  clear HY
  go_wp2_with fail
  go_ret3
  exact ⟨_, rfl, spot_new w (m + m2) 1 3⟩
set_option maxHeartbeats 1000000 in
theorem getLong_ok (g o len cap x y : Nat) (w : World) (hl : 2 ≤ len) (hx : x < 64) (hy : y < 256) (h0 : w.cell? ⟨g, o, none⟩ = some (.int .u8 (x : Int))) (h1 : w.cell? ⟨g, o + 1, none⟩ = some (.int .u8 (y : Int))) :
    Calls Tryz.prog 139 #[.slice (some ⟨g, o, none⟩) len cap] w fun e w' => e = .returned (.tuple #[.int .i64 (x : Int), .int .i64 (y : Int), .nilIface]) ∧ ∃ m, w' = w.drewN m := by
  go_enter Tryz.func139, Tryz.ntmps139
  go_wp2_with fail
  go_quiet (fail)
  go_wp2_with fail
  go_ret3
  exact ⟨rfl, _, rfl⟩
set_option maxHeartbeats 1000000 in
theorem getLong_0 (g o len cap x : Nat) (w : World) (hl : 2 ≤ len) (hx : x < 256) (hx2 : 64 ≤ x) (h0 : w.cell? ⟨g, o, none⟩ = some (.int .u8 (x : Int))) :
    Calls Tryz.prog 139 #[.slice (some ⟨g, o, none⟩) len cap] w fun e w' => ∃ B, e = .returned (.tuple #[.int .i64 0, .int .i64 0, .iface 84 (.pointer (some ⟨B, 0, none⟩))]) ∧ SpotAt w' B 0 3 ∧ Below w.heap.size w w' := by
  go_enter Tryz.func139, Tryz.ntmps139
  go_wp2_with fail
  go_ret3
  exact ⟨_, rfl, spot_new w 0 0 3⟩
end Adr
end Go.Proofs.YtpdlpmbjhopnnaaGreatDoor
/- Get of package addr: the address, or what is wrong. -/
namespace Go.Proofs.YtpdlpmbjhopnnaaGreatDoor
open Go.RowKit Err Six
namespace Adr
theorem or6 (h l : Nat) (hh : h < 64) (hl : l < 64) : bits .or .i64 ((h : Int) * 64) (l : Int) = 64 * (h : Int) + l := by
  have e : h * 64 ||| l = 64 * h + l := by
    have := Nat.shiftLeft_add_eq_or_of_lt (i := 6) (b := l) hl h
    rw [show h <<< 6 = h * 64 from Nat.shiftLeft_eq h 6] at this
    omega
  rw [show (h : Int) * 64 = ((h * 64 : Nat) : Int) by omega, i64_or_nat _ _ (by omega) (by omega), e]; omega
theorem or8 (h l : Nat) (hh : h < 64) (hl : l < 256) : bits .or .i64 ((h : Int) * 256) (l : Int) = 256 * (h : Int) + l := by
  have e : h * 256 ||| l = 256 * h + l := by
    have := Nat.shiftLeft_add_eq_or_of_lt (i := 8) (b := l) hl h
    rw [show h <<< 8 = h * 256 from Nat.shiftLeft_eq h 8] at this
    omega
  rw [show (h : Int) * 256 = ((h * 256 : Nat) : Int) by omega, i64_or_nat _ _ (by omega) (by omega), e]; omega
theorem size_no (n : Int) (w : World) (h : n < 1 ∨ 16383 < n) :
    Calls Tryz.prog 101 #[.int .i64 n] w fun e w' => e = .returned (.bool false) ∧ w = w' :=
  (isSize_any n w).mono fun _ _ ⟨he, hm⟩ => ⟨by rw [he]; exact ret_bool (by simp; omega), hm⟩
theorem get_size (ad : Option Addr) (len cap : Nat) (n : Int) (w : World) (h : n < 1 ∨ 16383 < n) :
    Calls Tryz.prog 124 #[.slice ad len cap, .int .i64 n] w fun e w' => e = .returned (.tuple #[.int .i64 0, .iface 71 (.int .i64 1)]) ∧ w = w' := by
  have HS := Lib.hid fun W => size_no n W h
  clear h
  go_enter Tryz.func124, Tryz.ntmps124
  go_wp2_with fail
  refine (HS.out _).mono ?_
  rintro e w1 ⟨rfl, rfl⟩
  clear HS
  go_wp2_with fail
  go_ret2
  exact ⟨rfl, rfl⟩
theorem get_cut (ad : Option Addr) (len cap n : Nat) (w : World) (h : 1 ≤ n) (h2 : n ≤ 16383) (hl : len < 2) :
    Calls Tryz.prog 124 #[.slice ad len cap, .int .i64 (n : Int)] w fun e w' => e = .returned (.tuple #[.int .i64 0, .iface 71 (.int .i64 2)]) ∧ w = w' := by
  have HS := Lib.hid fun W => size_yes n W h h2
  go_enter Tryz.func124, Tryz.ntmps124
  go_wp2_with fail
  refine (HS.out _).mono ?_
  rintro e w1 ⟨rfl, rfl⟩
  clear HS
  go_wp2_with fail
  go_ret2
  exact ⟨rfl, rfl⟩
set_option maxHeartbeats 1000000 in
theorem get_short_ok (ad : Option Addr) (len cap n h l : Nat) (w : World) (h1 : 1 ≤ n) (h2 : n ≤ 16383) (hn : n ≤ 4096) (hl : 2 ≤ len) (hh : h < 64) (hll : l < 64) (hv : 64 * h + l < n)
    (HR : Calls Tryz.prog 138 #[.slice ad len cap] w fun e w' => e = .returned (.tuple #[.int .i64 (h : Int), .int .i64 (l : Int), .nilIface]) ∧ ∃ m, w' = w.drewN m) :
    Calls Tryz.prog 124 #[.slice ad len cap, .int .i64 (n : Int)] w fun e w' => e = .returned (.tuple #[.int .i64 (64 * (h : Int) + l), .nilIface]) ∧ Below w.heap.size w w' := by
  have HS := Lib.hid fun W => size_yes n W h1 h2
  have HL := Lib.hid fun W => long_no n W hn
  have HB := Lib.hid fun W => lowBits_short n W (by omega)
  have HR := Lib.hid HR
  have e0 := or6 h l hh hll
  have e1 : IntKind.i64.wrap ((h : Int) * 64) = (h : Int) * 64 := by rw [IntWalk.i64_in] <;> omega
  go_enter Tryz.func124, Tryz.ntmps124
  go_wp2_with fail
  refine (HS.out _).mono ?_
  rintro e w1 ⟨rfl, rfl⟩
  clear HS
  go_wp2_with fail
  refine (HL.out _).mono ?_
  rintro e w1 ⟨rfl, rfl⟩
  clear HL
  go_wp2_with fail
  refine HR.out.mono ?_
  rintro e w1 ⟨rfl, m, rfl⟩
  clear HR
  go_wp2_with fail
  refine (HB.out _).mono ?_
  rintro e w1 ⟨rfl, rfl⟩
  clear HB
  go_wp2_with fail
  go_ret2
  exact ⟨rfl, below_drewN _ _ _⟩
set_option maxHeartbeats 1000000 in
theorem get_short_addr (ad : Option Addr) (len cap n h l : Nat) (w : World) (h1 : 1 ≤ n) (h2 : n ≤ 16383) (hn : n ≤ 4096) (hl : 2 ≤ len) (hh : h < 64) (hll : l < 64) (hv : n ≤ 64 * h + l)
    (HR : Calls Tryz.prog 138 #[.slice ad len cap] w fun e w' => e = .returned (.tuple #[.int .i64 (h : Int), .int .i64 (l : Int), .nilIface]) ∧ ∃ m, w' = w.drewN m) :
    Calls Tryz.prog 124 #[.slice ad len cap, .int .i64 (n : Int)] w fun e w' => e = .returned (.tuple #[.int .i64 0, .iface 71 (.int .i64 4)]) ∧ Below w.heap.size w w' := by
  have HS := Lib.hid fun W => size_yes n W h1 h2
  have HL := Lib.hid fun W => long_no n W hn
  have HB := Lib.hid fun W => lowBits_short n W (by omega)
  have HR := Lib.hid HR
  have e0 := or6 h l hh hll
  have e1 : IntKind.i64.wrap ((h : Int) * 64) = (h : Int) * 64 := by rw [IntWalk.i64_in] <;> omega
  go_enter Tryz.func124, Tryz.ntmps124
  go_wp2_with fail
  refine (HS.out _).mono ?_
  rintro e w1 ⟨rfl, rfl⟩
  clear HS
  go_wp2_with fail
  refine (HL.out _).mono ?_
  rintro e w1 ⟨rfl, rfl⟩
  clear HL
  go_wp2_with fail
  refine HR.out.mono ?_
  rintro e w1 ⟨rfl, m, rfl⟩
  clear HR
  go_wp2_with fail
  refine (HB.out _).mono ?_
  rintro e w1 ⟨rfl, rfl⟩
  clear HB
  go_wp2_with fail
  go_ret2
  exact ⟨rfl, below_drewN _ _ _⟩
set_option maxHeartbeats 1000000 in
theorem get_short_spot (ad : Option Addr) (len cap n : Nat) (k : Int) (w : World) (h1 : 1 ≤ n) (h2 : n ≤ 16383) (hn : n ≤ 4096) (hl : 2 ≤ len)
    (HR : Calls Tryz.prog 138 #[.slice ad len cap] w fun e w' => ∃ B, e = .returned (.tuple #[.int .i64 0, .int .i64 0, .iface 84 (.pointer (some ⟨B, 0, none⟩))]) ∧ SpotAt w' B k 3 ∧ Below w.heap.size w w') :
    Calls Tryz.prog 124 #[.slice ad len cap, .int .i64 (n : Int)] w fun e w' => ∃ B, e = .returned (.tuple #[.int .i64 0, .iface 84 (.pointer (some ⟨B, 0, none⟩))]) ∧ SpotAt w' B k 3 ∧ Below w.heap.size w w' := by
  have HS := Lib.hid fun W => size_yes n W h1 h2
  have HL := Lib.hid fun W => long_no n W hn
  have HR := Lib.hid HR
  go_enter Tryz.func124, Tryz.ntmps124
  go_wp2_with fail
  refine (HS.out _).mono ?_
  rintro e w1 ⟨rfl, rfl⟩
  clear HS
  go_wp2_with fail
  refine (HL.out _).mono ?_
  rintro e w1 ⟨rfl, rfl⟩
  clear HL
  go_wp2_with fail
  refine HR.out.mono ?_
  rintro e w1 ⟨B, rfl, hs, hb⟩
  have HS := Lib.hid hs
  have HB := Lib.hid hb
  clear HR hs hb
  go_wp2_with fail
  go_ret2
  exact ⟨B, rfl, HS.out, HB.out⟩
set_option maxHeartbeats 1000000 in
theorem get_long_ok (ad : Option Addr) (len cap n h l : Nat) (w : World) (h1 : 1 ≤ n) (h2 : n ≤ 16383) (hn : 4096 < n) (hl : 2 ≤ len) (hh : h < 64) (hll : l < 256) (hv : 256 * h + l < n)
    (HR : Calls Tryz.prog 139 #[.slice ad len cap] w fun e w' => e = .returned (.tuple #[.int .i64 (h : Int), .int .i64 (l : Int), .nilIface]) ∧ ∃ m, w' = w.drewN m) :
    Calls Tryz.prog 124 #[.slice ad len cap, .int .i64 (n : Int)] w fun e w' => e = .returned (.tuple #[.int .i64 (256 * (h : Int) + l), .nilIface]) ∧ Below w.heap.size w w' := by
  have HS := Lib.hid fun W => size_yes n W h1 h2
  have HL := Lib.hid fun W => long_yes n W hn
  have HB := Lib.hid fun W => lowBits_long n W (by omega)
  have HR := Lib.hid HR
  have e0 := or8 h l hh hll
  have e1 : IntKind.i64.wrap ((h : Int) * 256) = (h : Int) * 256 := by rw [IntWalk.i64_in] <;> omega
  go_enter Tryz.func124, Tryz.ntmps124
  go_wp2_with fail
  refine (HS.out _).mono ?_
  rintro e w1 ⟨rfl, rfl⟩
  clear HS
  go_wp2_with fail
  refine (HL.out _).mono ?_
  rintro e w1 ⟨rfl, rfl⟩
  clear HL
  go_wp2_with fail
  refine HR.out.mono ?_
  rintro e w1 ⟨rfl, m, rfl⟩
  clear HR
  go_wp2_with fail
  refine (HB.out _).mono ?_
  rintro e w1 ⟨rfl, rfl⟩
  clear HB
  go_wp2_with fail
  go_ret2
  exact ⟨rfl, below_drewN _ _ _⟩
set_option maxHeartbeats 1000000 in
theorem get_long_addr (ad : Option Addr) (len cap n h l : Nat) (w : World) (h1 : 1 ≤ n) (h2 : n ≤ 16383) (hn : 4096 < n) (hl : 2 ≤ len) (hh : h < 64) (hll : l < 256) (hv : n ≤ 256 * h + l)
    (HR : Calls Tryz.prog 139 #[.slice ad len cap] w fun e w' => e = .returned (.tuple #[.int .i64 (h : Int), .int .i64 (l : Int), .nilIface]) ∧ ∃ m, w' = w.drewN m) :
    Calls Tryz.prog 124 #[.slice ad len cap, .int .i64 (n : Int)] w fun e w' => e = .returned (.tuple #[.int .i64 0, .iface 71 (.int .i64 4)]) ∧ Below w.heap.size w w' := by
  have HS := Lib.hid fun W => size_yes n W h1 h2
  have HL := Lib.hid fun W => long_yes n W hn
  have HB := Lib.hid fun W => lowBits_long n W (by omega)
  have HR := Lib.hid HR
  have e0 := or8 h l hh hll
  have e1 : IntKind.i64.wrap ((h : Int) * 256) = (h : Int) * 256 := by rw [IntWalk.i64_in] <;> omega
  go_enter Tryz.func124, Tryz.ntmps124
  go_wp2_with fail
  refine (HS.out _).mono ?_
  rintro e w1 ⟨rfl, rfl⟩
  clear HS
  go_wp2_with fail
  refine (HL.out _).mono ?_
  rintro e w1 ⟨rfl, rfl⟩
  clear HL
  go_wp2_with fail
  refine HR.out.mono ?_
  rintro e w1 ⟨rfl, m, rfl⟩
  clear HR
  go_wp2_with fail
  refine (HB.out _).mono ?_
  rintro e w1 ⟨rfl, rfl⟩
  clear HB
  go_wp2_with fail
  go_ret2
  exact ⟨rfl, below_drewN _ _ _⟩
set_option maxHeartbeats 1000000 in
theorem get_long_spot (ad : Option Addr) (len cap n : Nat) (k : Int) (w : World) (h1 : 1 ≤ n) (h2 : n ≤ 16383) (hn : 4096 < n) (hl : 2 ≤ len)
    (HR : Calls Tryz.prog 139 #[.slice ad len cap] w fun e w' => ∃ B, e = .returned (.tuple #[.int .i64 0, .int .i64 0, .iface 84 (.pointer (some ⟨B, 0, none⟩))]) ∧ SpotAt w' B k 3 ∧ Below w.heap.size w w') :
    Calls Tryz.prog 124 #[.slice ad len cap, .int .i64 (n : Int)] w fun e w' => ∃ B, e = .returned (.tuple #[.int .i64 0, .iface 84 (.pointer (some ⟨B, 0, none⟩))]) ∧ SpotAt w' B k 3 ∧ Below w.heap.size w w' := by
  have HS := Lib.hid fun W => size_yes n W h1 h2
  have HL := Lib.hid fun W => long_yes n W hn
  have HR := Lib.hid HR
  go_enter Tryz.func124, Tryz.ntmps124
  go_wp2_with fail
  refine (HS.out _).mono ?_
  rintro e w1 ⟨rfl, rfl⟩
  clear HS
  go_wp2_with fail
  refine (HL.out _).mono ?_
  rintro e w1 ⟨rfl, rfl⟩
  clear HL
  go_wp2_with fail
  refine HR.out.mono ?_
  rintro e w1 ⟨B, rfl, hs, hb⟩
  have HS := Lib.hid hs
  have HB := Lib.hid hb
  clear HR hs hb
  go_wp2_with fail
  go_ret2
  exact ⟨B, rfl, HS.out, HB.out⟩
end Adr
end Go.Proofs.YtpdlpmbjhopnnaaGreatDoor
/- addr.Get of whatever bytes and size, by the plain function. -/
namespace Go.Proofs.YtpdlpmbjhopnnaaGreatDoor
open Go.RowKit Err Six Sha
namespace Adr
theorem told_errno (w : World) (c : Int) : Err.Told w (.iface 71 (.int .i64 c)) c (-1) := .inr (.inl ⟨rfl, rfl⟩)
theorem told_nil (w : World) : Err.Told w .nilIface 0 (-1) := .inl ⟨rfl, rfl, rfl⟩
theorem told_spot {w : World} {B : Nat} {n k : Int} (h : SpotAt w B n k) : Err.Told w (.iface 84 (.pointer (some ⟨B, 0, none⟩))) k n :=
  .inr (.inr ⟨0, B, rfl, h.at0, B, n, _, rfl, h.at0, h.at1, rfl⟩)
theorem told_cases {w : World} {ev : Value} {c n : Int} (h : Err.Told w ev c n) (hc : c ≠ 0) : ∃ d, Chain w c d ev := by
  rcases h with ⟨_, h, _⟩ | ⟨h, _⟩ | ⟨d, _, _, _, h⟩
  · exact absurd h hc
  · exact ⟨0, h⟩
  · exact ⟨_, h⟩
theorem two_cells {w : World} {ad : Option Addr} {len cap : Nat} {ys : List Nat} (h : BytesIn w (.slice ad len cap) ys) (hl : 2 ≤ ys.length) :
    len = ys.length ∧ ∃ g o, ad = some ⟨g, o, none⟩ ∧ w.cell? ⟨g, o, none⟩ = some (.int .u8 ((ys.getD 0 0 : Nat) : Int)) ∧ w.cell? ⟨g, o + 1, none⟩ = some (.int .u8 ((ys.getD 1 0 : Nat) : Int)) := by
  obtain ⟨ad', c, hv, _, hc⟩ := h
  injection hv with e1 e2 e3
  subst e1 e2
  rcases hc with h0 | ⟨g, o, rfl, hc⟩
  · rw [h0] at hl; simp at hl
  · exact ⟨rfl, g, o, rfl, hc 0 (by omega), hc 1 (by omega)⟩
theorem slice_len {w : World} {ad : Option Addr} {len cap : Nat} {ys : List Nat} (h : BytesIn w (.slice ad len cap) ys) : len = ys.length := by
  obtain ⟨_, _, hv, _⟩ := h
  injection hv
theorem get_all (ad : Option Addr) (len cap : Nat) (ys : List Nat) (n : Int) (w : World) (hB : BytesIn w (.slice ad len cap) ys) (h8 : ∀ y ∈ ys, y < 256) :
    Calls Tryz.prog 124 #[.slice ad len cap, .int .i64 n] w fun e w' => ∃ ev, e = .returned (.tuple #[.int .i64 ((aspec ys n).1 : Int), ev]) ∧ Below w.heap.size w w' ∧
      Err.Told w' ev ((aspec ys n).2.1 : Int) (aspec ys n).2.2 ∧ ((aspec ys n).2.1 = 0 → ev = .nilIface) := by
  unfold aspec
  by_cases h1 : n < 1 ∨ 16383 < n
  · simp only [if_pos h1]
    exact (get_size ad len cap n w h1).mono fun e w' ⟨he, hw⟩ => ⟨_, he, by rw [← hw]; exact Below.refl _ _, told_errno _ _, nofun⟩
  simp only [if_neg h1]
  obtain ⟨N, rfl⟩ := Int.eq_ofNat_of_zero_le (a := n) (by omega)
  have hl := slice_len hB
  by_cases h2 : ys.length < 2
  · simp only [if_pos h2]
    exact (get_cut ad len cap N w (by omega) (by omega) (by omega)).mono fun e w' ⟨he, hw⟩ => ⟨_, he, by rw [← hw]; exact Below.refl _ _, told_errno _ _, nofun⟩
  simp only [if_neg h2]
  obtain ⟨_, g, o, rfl, c0, c1⟩ := two_cells hB (by omega)
  have hx := byte_lt h8 (by decide) 0
  have hy := byte_lt h8 (by decide) 1
  generalize ys.getD 0 0 = x at c0 hx ⊢
  generalize ys.getD 1 0 = y at c1 hy ⊢
  by_cases h3 : (N : Int) ≤ 4096
  · simp only [if_pos h3]
    by_cases gx : isGraphic x = false
    · simp only [if_pos gx]
      exact (get_short_spot _ len cap N 0 w (by omega) (by omega) (by omega) (by omega) (getShort_0 g o len cap x w (by omega) hx c0 gx)).mono fun e w' ⟨B, he, hs, hb⟩ => ⟨_, he, hb, told_spot hs, nofun⟩
    simp only [if_neg gx]
    have gx : isGraphic x = true := by simpa using gx
    by_cases gy : isGraphic y = false
    · simp only [if_pos gy]
      exact (get_short_spot _ len cap N 1 w (by omega) (by omega) (by omega) (by omega) (getShort_1 g o len cap x y w (by omega) hx hy c0 c1 gx gy)).mono fun e w' ⟨B, he, hs, hb⟩ => ⟨_, he, hb, told_spot hs, nofun⟩
    simp only [if_neg gy]
    have gy : isGraphic y = true := by simpa using gy
    have HR := getShort_ok g o len cap x y w (by omega) hx hy c0 c1 gx gy
    by_cases h4 : (N : Int) ≤ ((64 * (x % 64) + y % 64 : Nat) : Int)
    · simp only [if_pos h4]
      exact (get_short_addr _ len cap N (x % 64) (y % 64) w (by omega) (by omega) (by omega) (by omega) (by omega) (by omega) (by omega) HR).mono fun e w' ⟨he, hb⟩ => ⟨_, he, hb, told_errno _ _, nofun⟩
    · simp only [if_neg h4]
      exact (get_short_ok _ len cap N (x % 64) (y % 64) w (by omega) (by omega) (by omega) (by omega) (by omega) (by omega) (by omega) HR).mono fun e w' ⟨he, hb⟩ => ⟨_, by rw [he]; simp, hb, told_nil _, fun _ => rfl⟩
  · simp only [if_neg h3]
    by_cases gx : 64 ≤ x
    · simp only [if_pos gx]
      exact (get_long_spot _ len cap N 0 w (by omega) (by omega) (by omega) (by omega) (getLong_0 g o len cap x w (by omega) hx gx c0)).mono fun e w' ⟨B, he, hs, hb⟩ => ⟨_, he, hb, told_spot hs, nofun⟩
    simp only [if_neg gx]
    have HR := getLong_ok g o len cap x y w (by omega) (by omega) hy c0 c1
    by_cases h4 : (N : Int) ≤ ((256 * x + y : Nat) : Int)
    · simp only [if_pos h4]
      exact (get_long_addr _ len cap N x y w (by omega) (by omega) (by omega) (by omega) (by omega) (by omega) (by omega) HR).mono fun e w' ⟨he, hb⟩ => ⟨_, he, hb, told_errno _ _, nofun⟩
    · simp only [if_neg h4]
      exact (get_long_ok _ len cap N x y w (by omega) (by omega) (by omega) (by omega) (by omega) (by omega) (by omega) HR).mono fun e w' ⟨he, hb⟩ => ⟨_, by rw [he]; simp, hb, told_nil _, fun _ => rfl⟩
end Adr
end Go.Proofs.YtpdlpmbjhopnnaaGreatDoor
/- The functions of package attr return what the plain functions say. -/
namespace Go.Proofs.YtpdlpmbjhopnnaaGreatDoor
open Go.RowKit Six Err
namespace Att
theorem puti (n : Int) (w : World) (h0 : 0 ≤ n) (h : n < 64) :
    Calls Tryz.prog 117 #[.int .i64 n] w fun e w' => e = .returned (.tuple #[.int .u8 (put n.toNat : Nat), .nilIface]) ∧ ∃ m, w' = w.drewN m := by
  obtain ⟨k, rfl⟩ := Int.eq_ofNat_of_zero_le h0
  rw [Int.toNat_natCast]
  exact put_any k w (by omega)
theorem part_yes (n : Int) (w : World) :
    Calls Tryz.prog 116 #[.bool true, .int .i64 n] w fun e w' => e = .returned (.int .i64 n) ∧ w = w' := by
  go_enter Tryz.func116, Tryz.ntmps116
  go_wp2
  go_ret
  exact ⟨rfl, rfl⟩
theorem part_no (n : Int) (w : World) :
    Calls Tryz.prog 116 #[.bool false, .int .i64 n] w fun e w' => e = .returned (.int .i64 0) ∧ w = w' := by
  go_enter Tryz.func116, Tryz.ntmps116
  go_wp2
  go_ret
  exact ⟨rfl, rfl⟩
theorem ret_put8 {a b : Nat} (h : a = b) : Ending.returned (.tuple #[.int .u8 (put a : Nat), .nilIface]) = .returned (.tuple #[.int .u8 (put b : Nat), .nilIface]) := by rw [h]
set_option maxHeartbeats 4000000 in
theorem put_ok (p n m : Bool) (s : Nat) (w : World) (hs : s < 4) :
    Calls Tryz.prog 86 #[.agg #[.bool p, .bool n, .int .i64 (s : Int), .bool m]] w fun e w' => e = .returned (.tuple #[.int .u8 (put (num p n m s) : Nat), .nilIface]) ∧ Below w.heap.size w w' := by
  cases p <;> cases n <;> cases m
  all_goals
    go_enter Tryz.func86, Tryz.ntmps86
    go_wp2
    go_quiet (first | (go_at_call 116; with_reducible exact quiet_same (part_yes _ _)) | (go_at_call 116; with_reducible exact quiet_same (part_no _ _)))
    go_wp2_with fail
    refine (puti _ _ (by omega) (by omega)).mono ?_
    rintro e w1 ⟨rfl, k, rfl⟩
    go_wp2_with fail
    go_ret2
    exact ⟨ret_put8 (by unfold num bit; simp; omega), ((Below.refl _ _).alloc (Nat.le_refl _) _).trans (below_drewN _ _ _)⟩
theorem put_bad (p n m : Bool) (s : Int) (w : World) (hs : s < 0 ∨ 4 ≤ s) :
    Calls Tryz.prog 86 #[.agg #[.bool p, .bool n, .int .i64 s, .bool m]] w fun e w' => e = .returned (.tuple #[.int .u8 0, .iface 71 (.int .i64 1)]) ∧ Below w.heap.size w w' := by
  rcases hs with h | h
  · go_enter Tryz.func86, Tryz.ntmps86
    go_wp2
    go_ret2
    exact ⟨rfl, (Below.refl _ _).alloc (Nat.le_refl _) _⟩
  · have h0 : ¬ s < 0 := by omega
    go_enter Tryz.func86, Tryz.ntmps86
    go_wp2
    go_ret2
    exact ⟨rfl, (Below.refl _ _).alloc (Nat.le_refl _) _⟩
theorem ret_p8 {a b : Nat} (h : a = b) : Ending.returned (.int .u8 (put a : Nat)) = .returned (.int .u8 (put b : Nat)) := by rw [h]
end Att
end Go.Proofs.YtpdlpmbjhopnnaaGreatDoor
/- Get of package attr returns what the plain functions say. -/
namespace Go.Proofs.YtpdlpmbjhopnnaaGreatDoor
open Go.RowKit Six Err
namespace Att
theorem bit_ne (b : Bool) (n : Nat) (h : 0 < n) : (((bit b n : Nat) : Int) != 0) = b := by
  unfold bit; cases b <;> simp; omega
theorem masks : ∀ k, k < 64 → bits .and .i64 ((k : Nat) : Int) 32 = (bit (k / 32 % 2 == 1) 32 : Nat) ∧ bits .and .i64 ((k : Nat) : Int) 16 = (bit (k / 16 % 2 == 1) 16 : Nat)
    ∧ bits .and .i64 ((k : Nat) : Int) 4 = (bit (k / 4 % 2 == 1) 4 : Nat) ∧ bits .and .i64 ((k : Nat) : Int) 2 = (bit (k / 2 % 2 == 1) 2 : Nat) ∧ bits .and .i64 ((k : Nat) : Int) 1 = (bit (k % 2 == 1) 1 : Nat) := by
  decide +kernel
theorem num_bits (p n m : Bool) (s : Nat) (hs : s < 4) : (num p n m s / 32 % 2 == 1) = p ∧ (num p n m s / 16 % 2 == 1) = n ∧ (num p n m s / 2 % 2 == 1) = false ∧ (num p n m s % 2 == 1) = m ∧ num p n m s / 4 % 4 = s := by
  unfold num bit
  obtain rfl | rfl | rfl | rfl : s = 0 ∨ s = 1 ∨ s = 2 ∨ s = 3 := by omega
  all_goals cases p <;> cases n <;> cases m <;> decide
theorem wnum_bits (a u r : Bool) : (wnum a u r / 4 % 2 == 1) = a ∧ (wnum a u r / 2 % 2 == 1) = u ∧ (wnum a u r % 2 == 1) = r := by
  cases a <;> cases u <;> cases r <;> decide
set_option maxHeartbeats 4000000 in
theorem get_ok (p n m : Bool) (s : Nat) (w : World) (hs : s < 4) :
    Calls Tryz.prog 145 #[.int .u8 (put (num p n m s) : Nat)] w fun e w' => e = .returned (.tuple #[.agg #[.bool p, .bool n, .int .i64 (s : Int), .bool m], .nilIface]) ∧ Below w.heap.size w w' := by
  have hn := num_lt p n m s hs
  have HG := fun W => get_yes (put (num p n m s)) W (put_lt _ hn) (graphic_put _ hn)
  rw [put_low _ hn] at HG
  obtain ⟨b32, b16, b2, b1, b4⟩ := num_bits p n m s hs
  obtain ⟨q32, q16, _, q2, q1⟩ := masks (num p n m s) hn
  rw [b32] at q32
  rw [b16] at q16
  rw [b2] at q2
  rw [b1] at q1
  have q2 : bits .and .i64 (num p n m s : Nat) 2 = 0 := q2
  have q4 : ((num p n m s : Nat) : Int) / 4 % 4 = s := by omega
  have z32 := bit_ne p 32 (by decide)
  have z16 := bit_ne n 16 (by decide)
  have z1 := bit_ne m 1 (by decide)
  clear b32 b16 b2 b1 b4
  generalize put (num p n m s) = b at HG
  generalize num p n m s = k at *
  have HB := Lib.hid HG
  clear HG
  go_enter Tryz.func145, Tryz.ntmps145
  go_wp2_with fail
  refine (HB.out _).mono ?_
  rintro e w1 ⟨rfl, j, rfl⟩
  go_wp2_with fail
  obtain ⟨h1, h2⟩ := set4 w j 62 (.bool false) (.bool false) (.int .i64 0) (.bool false) (.bool p) (.bool n) (.int .i64 (s : Int)) (.bool m)
  have H1 := Lib.hid h1
  have H2 := Lib.hid h2
  clear h1 h2
  generalize (((((w.alloc (.cells #[.bool false, .bool false, .int .i64 0, .bool false] 62)).drewN j).setCell ⟨w.heap.size, 0, none⟩ (.bool p)).setCell ⟨w.heap.size, 1, none⟩ (.bool n)).setCell ⟨w.heap.size, 2, none⟩ (.int .i64 (s : Int))).setCell ⟨w.heap.size, 3, none⟩ (.bool m) = wz at *
  exact bodyPost_ret (v := .tuple #[.agg #[.bool p, .bool n, .int .i64 (s : Int), .bool m], .nilIface]) (results_cell_row_tmp rfl _ _ _ w.heap.size _ rfl (run_loadVar_row wz w.heap.size 62 62 _ (0, 0) _ H1.out Tryz.underlying62 rfl (by kernel_rfl)) .nilIface rfl) rfl ⟨rfl, H2.out⟩
set_option maxHeartbeats 4000000 in
theorem get_bad (b : Nat) (w : World) (hb : b < 256) (hn : noAttr b = true) :
    Calls Tryz.prog 145 #[.int .u8 (b : Int)] w fun e w' => e = .returned (.tuple #[.agg #[.bool false, .bool false, .int .i64 0, .bool false], .iface 71 (.int .i64 3)]) ∧ Below w.heap.size w w' := by
  cases hg : isGraphic b with
  | false =>
    have HB := Lib.hid fun W => get_no b W hb hg
    clear hg hn
    go_enter Tryz.func145, Tryz.ntmps145
    go_wp2_with fail
    refine (HB.out _).mono ?_
    rintro e w1 ⟨rfl, j, rfl⟩
    go_wp2_with fail
    obtain ⟨h1, h2⟩ := set4 w j 62 (.bool false) (.bool false) (.int .i64 0) (.bool false) (.bool false) (.bool false) (.int .i64 0) (.bool false)
    have H1 := Lib.hid h1
    have H2 := Lib.hid h2
    clear h1 h2
    generalize (((((w.alloc (.cells #[.bool false, .bool false, .int .i64 0, .bool false] 62)).drewN j).setCell ⟨w.heap.size, 0, none⟩ (.bool false)).setCell ⟨w.heap.size, 1, none⟩ (.bool false)).setCell ⟨w.heap.size, 2, none⟩ (.int .i64 0)).setCell ⟨w.heap.size, 3, none⟩ (.bool false) = wz at *
    exact bodyPost_ret (v := .tuple #[.agg #[.bool false, .bool false, .int .i64 0, .bool false], .iface 71 (.int .i64 3)]) (results_cell_row_tmp rfl _ _ _ w.heap.size _ rfl (run_loadVar_row wz w.heap.size 62 62 _ (0, 0) _ H1.out Tryz.underlying62 rfl (by kernel_rfl)) (.iface 71 (.int .i64 3)) rfl) rfl ⟨rfl, H2.out⟩
  | true =>
    have HG := fun W => get_yes b W hb hg
    have hm : b % 64 < 64 := Nat.mod_lt _ (by decide)
    obtain ⟨_, _, _, q2, _⟩ := masks (b % 64) hm
    have e2 : (b % 64 / 2 % 2 == 1) = true := by unfold noAttr at hn; rw [hg] at hn; simpa using hn
    rw [e2] at q2
    have q2 : bits .and .i64 (b % 64 : Nat) 2 = 2 := q2
    clear e2 hg hn
    generalize b % 64 = k at *
    have HB := Lib.hid HG
    clear HG
    go_enter Tryz.func145, Tryz.ntmps145
    go_wp2_with fail
    refine (HB.out _).mono ?_
    rintro e w1 ⟨rfl, j, rfl⟩
    go_wp2_with fail
    obtain ⟨h1, h2⟩ := set4 w j 62 (.bool false) (.bool false) (.int .i64 0) (.bool false) (.bool false) (.bool false) (.int .i64 0) (.bool false)
    have H1 := Lib.hid h1
    have H2 := Lib.hid h2
    clear h1 h2
    generalize (((((w.alloc (.cells #[.bool false, .bool false, .int .i64 0, .bool false] 62)).drewN j).setCell ⟨w.heap.size, 0, none⟩ (.bool false)).setCell ⟨w.heap.size, 1, none⟩ (.bool false)).setCell ⟨w.heap.size, 2, none⟩ (.int .i64 0)).setCell ⟨w.heap.size, 3, none⟩ (.bool false) = wz at *
    exact bodyPost_ret (v := .tuple #[.agg #[.bool false, .bool false, .int .i64 0, .bool false], .iface 71 (.int .i64 3)]) (results_cell_row_tmp rfl _ _ _ w.heap.size _ rfl (run_loadVar_row wz w.heap.size 62 62 _ (0, 0) _ H1.out Tryz.underlying62 rfl (by kernel_rfl)) (.iface 71 (.int .i64 3)) rfl) rfl ⟨rfl, H2.out⟩
end Att
end Go.Proofs.YtpdlpmbjhopnnaaGreatDoor
/- PutWcc of package attr returns what the plain functions say. -/
namespace Go.Proofs.YtpdlpmbjhopnnaaGreatDoor
open Go.RowKit Six Err
namespace Att
set_option maxHeartbeats 4000000 in
theorem putWcc_any (a u r : Bool) (w : World) :
    Calls Tryz.prog 106 #[.agg #[.bool a, .bool u, .bool r]] w fun e w' => e = .returned (.int .u8 (put (wnum a u r) : Nat)) ∧ Below w.heap.size w w' := by
  cases a <;> cases u <;> cases r
  all_goals
    go_enter Tryz.func106, Tryz.ntmps106
    go_wp2
    go_quiet (first | (go_at_call 116; with_reducible exact quiet_same (part_yes _ _)) | (go_at_call 116; with_reducible exact quiet_same (part_no _ _)))
    go_wp2_with fail
    refine (puti _ _ (by omega) (by omega)).mono ?_
    rintro e w1 ⟨rfl, k, rfl⟩
    go_wp2_with fail
    go_ret
    exact ⟨ret_p8 (by decide), ((Below.refl _ _).alloc (Nat.le_refl _) _).trans (below_drewN _ _ _)⟩
end Att
end Go.Proofs.YtpdlpmbjhopnnaaGreatDoor
/- GetWcc of package attr returns what the plain functions say. -/
namespace Go.Proofs.YtpdlpmbjhopnnaaGreatDoor
open Go.RowKit Six Err
namespace Att
theorem wnum_small (a u r : Bool) : wnum a u r < 64 := Nat.lt_trans (wnum_lt a u r) (by decide)
set_option maxHeartbeats 4000000 in
theorem getWcc_ok (a u r : Bool) (w : World) :
    Calls Tryz.prog 114 #[.int .u8 (put (wnum a u r) : Nat)] w fun e w' => e = .returned (.tuple #[.agg #[.bool a, .bool u, .bool r], .nilIface]) ∧ Below w.heap.size w w' := by
  have hn := wnum_small a u r
  have h8 := wnum_lt a u r
  have HG := fun W => get_yes (put (wnum a u r)) W (put_lt _ hn) (graphic_put _ hn)
  rw [put_low _ hn] at HG
  obtain ⟨b4, b2, b1⟩ := wnum_bits a u r
  obtain ⟨_, _, q4, q2, q1⟩ := masks (wnum a u r) hn
  rw [b4] at q4
  rw [b2] at q2
  rw [b1] at q1
  have z4 := bit_ne a 4 (by decide)
  have z2 := bit_ne u 2 (by decide)
  have z1 := bit_ne r 1 (by decide)
  clear b4 b2 b1
  generalize put (wnum a u r) = b at HG
  generalize wnum a u r = k at *
  have HB := Lib.hid HG
  clear HG
  go_enter Tryz.func114, Tryz.ntmps114
  go_wp2_with fail
  refine (HB.out _).mono ?_
  rintro e w1 ⟨rfl, j, rfl⟩
  go_wp2_with fail
  obtain ⟨h1, h2⟩ := set3 w j 37 (.bool false) (.bool false) (.bool false) (.bool a) (.bool u) (.bool r)
  have H1 := Lib.hid h1
  have H2 := Lib.hid h2
  clear h1 h2
  generalize ((((w.alloc (.cells #[.bool false, .bool false, .bool false] 37)).drewN j).setCell ⟨w.heap.size, 0, none⟩ (.bool a)).setCell ⟨w.heap.size, 1, none⟩ (.bool u)).setCell ⟨w.heap.size, 2, none⟩ (.bool r) = wz at *
  exact bodyPost_ret (v := .tuple #[.agg #[.bool a, .bool u, .bool r], .nilIface]) (results_cell_row_tmp rfl _ _ _ w.heap.size _ rfl (run_loadVar_row wz w.heap.size 37 37 _ (0, 0) _ H1.out Tryz.underlying37 rfl (by kernel_rfl)) .nilIface rfl) rfl ⟨rfl, H2.out⟩
set_option maxHeartbeats 4000000 in
theorem getWcc_bad (b : Nat) (w : World) (hb : b < 256) (hn : noWrite b = true) :
    Calls Tryz.prog 114 #[.int .u8 (b : Int)] w fun e w' => e = .returned (.tuple #[.agg #[.bool false, .bool false, .bool false], .iface 71 (.int .i64 3)]) ∧ Below w.heap.size w w' := by
  cases hg : isGraphic b with
  | false =>
    have HB := Lib.hid fun W => get_no b W hb hg
    clear hg hn
    go_enter Tryz.func114, Tryz.ntmps114
    go_wp2_with fail
    refine (HB.out _).mono ?_
    rintro e w1 ⟨rfl, j, rfl⟩
    go_wp2_with fail
    obtain ⟨h1, h2⟩ := set3 w j 37 (.bool false) (.bool false) (.bool false) (.bool false) (.bool false) (.bool false)
    have H1 := Lib.hid h1
    have H2 := Lib.hid h2
    clear h1 h2
    generalize ((((w.alloc (.cells #[.bool false, .bool false, .bool false] 37)).drewN j).setCell ⟨w.heap.size, 0, none⟩ (.bool false)).setCell ⟨w.heap.size, 1, none⟩ (.bool false)).setCell ⟨w.heap.size, 2, none⟩ (.bool false) = wz at *
    exact bodyPost_ret (v := .tuple #[.agg #[.bool false, .bool false, .bool false], .iface 71 (.int .i64 3)]) (results_cell_row_tmp rfl _ _ _ w.heap.size _ rfl (run_loadVar_row wz w.heap.size 37 37 _ (0, 0) _ H1.out Tryz.underlying37 rfl (by kernel_rfl)) (.iface 71 (.int .i64 3)) rfl) rfl ⟨rfl, H2.out⟩
  | true =>
    have HG := fun W => get_yes b W hb hg
    have e2 : 7 < b % 64 := by unfold noWrite at hn; rw [hg] at hn; simp at hn; omega
    clear hg hn
    generalize b % 64 = k at *
    have HB := Lib.hid HG
    clear HG
    go_enter Tryz.func114, Tryz.ntmps114
    go_wp2_with fail
    refine (HB.out _).mono ?_
    rintro e w1 ⟨rfl, j, rfl⟩
    go_wp2_with fail
    obtain ⟨h1, h2⟩ := set3 w j 37 (.bool false) (.bool false) (.bool false) (.bool false) (.bool false) (.bool false)
    have H1 := Lib.hid h1
    have H2 := Lib.hid h2
    clear h1 h2
    generalize ((((w.alloc (.cells #[.bool false, .bool false, .bool false] 37)).drewN j).setCell ⟨w.heap.size, 0, none⟩ (.bool false)).setCell ⟨w.heap.size, 1, none⟩ (.bool false)).setCell ⟨w.heap.size, 2, none⟩ (.bool false) = wz at *
    exact bodyPost_ret (v := .tuple #[.agg #[.bool false, .bool false, .bool false], .iface 71 (.int .i64 3)]) (results_cell_row_tmp rfl _ _ _ w.heap.size _ rfl (run_loadVar_row wz w.heap.size 37 37 _ (0, 0) _ H1.out Tryz.underlying37 rfl (by kernel_rfl)) (.iface 71 (.int .i64 3)) rfl) rfl ⟨rfl, H2.out⟩
end Att
end Go.Proofs.YtpdlpmbjhopnnaaGreatDoor
/- slices.Clone of bytes. -/
namespace Go.Proofs.YtpdlpmbjhopnnaaGreatDoor
open Go.RowKit Sha Cut Err Six Apd
namespace Byt
theorem lt_heap {w : World} {b : Nat} {x : Obj} (h : w.heap[b]? = some x) : b < w.heap.size := by
  rcases Nat.lt_or_ge b w.heap.size with h0 | h0
  · exact h0
  · simp [Array.getElem?_eq_none h0] at h
theorem nil_eq (w : World) : (binOp BinOp.eql 27 (.slice none 0 0) (.slice none 0 0)).run Tryz.prog w = .ok (.bool true) w := by kernel_rfl
theorem nil_ne (a : Addr) (n c : Nat) (w : World) : (binOp BinOp.eql 27 (.slice (some a) n c) (.slice none 0 0)).run Tryz.prog w = .ok (.bool false) w := by kernel_rfl
set_option maxRecDepth 100000 in
set_option maxHeartbeats 1000000 in
theorem clone_any (ad : Option Addr) (len cap : Nat) (xs : List Nat) (w : World) (hB : BytesIn w (.slice ad len cap) xs) (hn : ad = none → len = 0 ∧ cap = 0) (hl : xs.length < 1000000000) :
    Calls Tryz.prog 76 #[.slice ad len cap] w fun e w' => ∃ v, e = .returned v ∧ w'.ownsRow w.heap.size 5 1 v xs.length (u8s xs) ∧ Below w.heap.size w w' := by
  have hx : len = xs.length := by
    obtain ⟨_, _, hv, _⟩ := hB
    injection hv
  subst hx
  cases ad with
  | none =>
    obtain ⟨h0, rfl⟩ := hn rfl
    have hx : xs = [] := List.eq_nil_of_length_eq_zero h0
    subst hx
    clear hB hn hl h0
    have e0 := nil_eq
    go_enter Tryz.func76, Tryz.ntmps76
    go_wp2
    go_ret
    exact ⟨_, rfl, World.ownsRow_nil _ _ _ _, Below.refl _ _⟩
  | some a =>
    have HS := Lib.hid (bytes_src (bytes_below hB ((Below.refl w.heap.size w).alloc (Nat.le_refl _) (.cells #[] 5))))
    have HO := Lib.hid (World.ownsRow_lit (e := 5) (size := 1) w #[] 0 (Nat.le_refl _) (Nat.zero_le _) rfl)
    have HL := Lib.hid hl
    have HB := Lib.hid ((Below.refl w.heap.size w).alloc (Nat.le_refl _) (.cells #[] 5))
    clear hB hn hl
    have e0 := nil_ne
    go_enter Tryz.func76, Tryz.ntmps76
    go_wp2_with (at_builtin; refine wpList_mark ?_)
    refine Lib.hid ?_
    refine append_own rfl (.tmp 5) (.tmp 6) rfl w.heap.size (.slice (some ⟨w.heap.size, 0, none⟩) 0 0) 0 [] rfl HO.out (some a) xs.length cap xs rfl rfl (fun h => by cases h) HS.out (by have := HL.out; omega) HB.out.size ?_
    intro v' w' hown hgr _
    have HR := Lib.hid (show w'.ownsRow w.heap.size 5 1 v' xs.length (u8s xs) from by simpa using hown)
    have HW := Lib.hid (HB.out.grown hgr HB.out.size (by intro k hk; simp [Value.ownBlock] at hk; omega))
    clear hown hgr HS HO HB HL
    obtain ⟨va, vc, rfl⟩ := own_form HR.out
    go_wp2_with fail
    go_ret
    exact ⟨_, rfl, HR.out, HW.out⟩
end Byt
end Go.Proofs.YtpdlpmbjhopnnaaGreatDoor
