/- GrdInts, EdtLow, EdtSui, EdtDen, EdtOn, EdtPut, EdtCode in one text (by tools/bundle.py). -/
import Derived.Test.YtpgbnnnfeaodmaaGreatDoorSBunGrd
import Derived.Deep.LoopGhost
import Derived.Deep.QuietTactic
import Derived.BigQuiet
import Derived.IntWalk
import Derived.Test.YtpgbnnnfeaodmaaGreatDoorSBunEdp
import Derived.Test.YtpgbnnnfeaodmaaGreatDoorSBunScr
import Derived.Test.YtpgbnnnfeaodmaaGreatDoorSBunSce
import Derived.Test.YtpgbnnnfeaodmaaGreatDoorSBunFlc
import Derived.Test.YtpgbnnnfeaodmaaGreatDoorSBunLow
import Derived.Deep.Cut
import Derived.Deep.RegionHeld3
import Derived.Test.YtpgbnnnfeaodmaaGreatDoorSBunErr
import Derived.StillTailTactics
/- A slice of numbers anywhere in memory: cut, compared, sought in. -/
namespace Go.Proofs.YtpgbnnnfeaodmaaGreatDoor
open Go.RowKit Sha Six Apd Cut Err Att
set_option linter.unusedVariables false
namespace Grd
def IntsIn (w : World) (v : Value) (xs : List Nat) : Prop :=
  ∃ ad cap, v = .slice ad xs.length cap ∧ xs.length ≤ cap ∧ (xs.length = 0 ∨ ∃ b o, ad = some ⟨b, o, none⟩ ∧ ∀ i, i < xs.length → w.cell? ⟨b, o + i, none⟩ = some (.int .i64 ((xs.getD i 0 : Nat) : Int)))
theorem IntsIn.below {w w' : World} {v : Value} {xs : List Nat} (h : IntsIn w v xs) (hb : Below w.heap.size w w') : IntsIn w' v xs := by
  obtain ⟨ad, cap, h1, h2, h3⟩ := h
  refine ⟨ad, cap, h1, h2, ?_⟩
  rcases h3 with h3 | ⟨b, o, h4, h5⟩
  · exact .inl h3
  · exact .inr ⟨b, o, h4, fun i hi => (hb.cell (p := ⟨b, o + i, none⟩) (cell_lt (h5 i hi))).trans (h5 i hi)⟩
theorem IntsIn.form {w : World} {v : Value} {xs : List Nat} (h : IntsIn w v xs) : ∃ ad c, v = .slice ad xs.length c := by
  obtain ⟨ad, cap, h1, _⟩ := h
  exact ⟨ad, cap, h1⟩
theorem IntsIn.cell {w : World} {n c : Nat} {ad : Option Addr} {xs : List Nat} (h : IntsIn w (.slice ad n c) xs) {i : Nat} (hi : i < xs.length) : ∃ b o, ad = some ⟨b, o, none⟩ ∧ w.cell? ⟨b, o + i, none⟩ = some (.int .i64 ((xs.getD i 0 : Nat) : Int)) := by
  obtain ⟨ad2, cap, hv, _, h3⟩ := h
  injection hv with e1 _ _
  subst e1
  rcases h3 with h3 | ⟨b, o, h4, h5⟩
  · omega
  · exact ⟨b, o, h4, h5 i hi⟩
theorem OwnInts.to {w : World} {base : Nat} {v : Value} {xs : List Nat} (h : OwnInts w base v xs) : IntsIn w v xs := by
  obtain ⟨ad, c, rfl⟩ := h.form
  by_cases h0 : xs.length = 0
  · refine ⟨ad, c, rfl, by omega, .inl h0⟩
  · obtain ⟨g, rfl, _, _, _⟩ := h.cell (i := 0) (by omega)
    refine ⟨_, c, rfl, ?_, .inr ⟨g, 0, rfl, fun i hi => ?_⟩⟩
    · rcases h.2 with ⟨e, _⟩ | ⟨_, _, _, e, _, _, hnc, _⟩
      · injection e with e; cases e
      · injection e with _ _ e; subst e; exact hnc
    · obtain ⟨g', e, _, _, d, _⟩ := h.cell hi
      injection e with e; injection e with e; subst e; exact d
def cutI (a : Option Addr) (k cap : Nat) : Option Addr := if cap = k then a else a.map (·.add k)
theorem run_lI (a : Option Addr) (len cap k : Nat) (hk : k ≤ len) (w : World) :
    (Instr.slice 75 (.slice a len cap) (some (.int .i64 (k : Int))) none none).run Tryz.prog w = .ok (.slice (cutI a k cap) (len - k) (cap - k)) w := by
  have hu : Tryz.prog.underlying 75 = some (.slice (Tryz.prog.elem 75)) := by kernel_rfl
  have hs : ((sizeOf (Tryz.prog.elem 75)).run Tryz.prog w) = .ok 1 w := by kernel_rfl
  rw [run_slice_l (P := Tryz.prog) w _ _ _ _ hu _ _ (by omega) (by omega), hs]
  simp [Result.andThen, sliced, cutI]
theorem run_hI (a : Option Addr) (len cap k : Nat) (hk : k ≤ cap) (w : World) :
    (Instr.slice 75 (.slice a len cap) none (some (.int .i64 (k : Int))) none).run Tryz.prog w = .ok (.slice a k cap) w := by
  have hu : Tryz.prog.underlying 75 = some (.slice (Tryz.prog.elem 75)) := by kernel_rfl
  have hs : ((sizeOf (Tryz.prog.elem 75)).run Tryz.prog w) = .ok 1 w := by kernel_rfl
  rw [run_slice_h (P := Tryz.prog) w _ _ _ _ hu _ _ (by omega) (by omega), hs]
  cases a with
  | none => simp [Result.andThen, sliced]
  | some x => simp [Result.andThen, sliced, show x.add 0 = x from rfl]
theorem ints_h {w : World} {len cap k : Nat} {a : Option Addr} {xs : List Nat} (h : IntsIn w (.slice a len cap) xs) (hk : k ≤ len) : IntsIn w (.slice a k cap) (xs.take k) := by
  obtain ⟨ad, c, hv, hcap, hc⟩ := h
  injection hv with e1 e2 e3
  subst e1 e2 e3
  have hl : (xs.take k).length = k := by rw [List.length_take]; omega
  refine ⟨_, _, by rw [hl], by omega, ?_⟩
  rcases hc with h0 | ⟨b, o, h1, h2⟩
  · exact .inl (by omega)
  · refine .inr ⟨b, o, h1, fun i hi => ?_⟩
    rw [hl] at hi
    have := h2 i (by omega)
    simpa [List.getD_eq_getElem?_getD, List.getElem?_take_of_lt hi] using this
theorem ints_l {w : World} {len cap k : Nat} {a : Option Addr} {xs : List Nat} (h : IntsIn w (.slice a len cap) xs) (hk : k ≤ len) : IntsIn w (.slice (cutI a k cap) (len - k) (cap - k)) (xs.drop k) := by
  obtain ⟨ad, c, hv, hcap, hc⟩ := h
  injection hv with e1 e2 e3
  subst e1 e2 e3
  have hl : (xs.drop k).length = xs.length - k := List.length_drop
  refine ⟨cutI a k cap, cap - k, by rw [hl], by omega, ?_⟩
  rcases hc with h0 | ⟨b, o, rfl, h3⟩
  · exact .inl (by rw [hl]; omega)
  · by_cases hke : k = xs.length
    · exact .inl (by rw [hl]; omega)
    · have hne : ¬ cap = k := by omega
      refine .inr ⟨b, o + k, by rw [cutI, if_neg hne, Option.map_some, Addr.add_mid], fun i hi => ?_⟩
      rw [hl] at hi
      have := h3 (k + i) (by omega)
      rw [show o + k + i = o + (k + i) by omega]
      simpa [List.getD_eq_getElem?_getD] using this
end Grd
end Go.Proofs.YtpgbnnnfeaodmaaGreatDoor
/- Package edit's leafs: Digit, suitsNumeric, Deny, Modify; the searches through a list of numbers. -/
namespace Go.Proofs.YtpgbnnnfeaodmaaGreatDoor
open Go.RowKit Sha Six Apd Cut Err Att Grd Fld Scr
set_option linter.unusedVariables false
namespace Edt
set_option maxRecDepth 100000 in
set_option maxHeartbeats 8000000 in
theorem index_any (v : Value) (xs : List Nat) (a j : Nat) (w : World) (h : IntsIn w v xs) (hl : xs.length < 100000000) (hj : j < xs.length) (hja : xs.getD j 0 = a) (hn : ∀ i, i < j → xs.getD i 0 ≠ a) :
    Calls Tryz.prog 88 #[v, .int .i64 (a : Int)] w fun e w' => e = .returned (.int .i64 (j : Int)) ∧ w = w' := by
  have H1 := Lib.hid h
  have HL := Lib.hid hl
  have HJ := Lib.hid hj
  have HA := Lib.hid hja
  have HN := Lib.hid hn
  obtain ⟨a1, k1, rfl⟩ := h.form
  clear h hl hj hja hn
  go_enter Tryz.func88, Tryz.ntmps88
  go_wp2_with fail
  go_loopg [8] (xs.length + 1) (fun m i wr => ∃ k : Nat, k ≤ j ∧ m = xs.length + 1 - k ∧ i = .int .i64 k ∧ w = wr)
  case atStart => exact ⟨0, Nat.zero_le _, rfl, rfl, rfl⟩
  case round =>
    obtain ⟨k, hk, rfl, rfl, rfl⟩ := hrel
    have hkl : k < xs.length := by have := HJ.out; omega
    have ew : IntKind.i64.wrap ((k : Int) + 1) = (k : Int) + 1 := by
      have := HL.out
      rw [IntWalk.i64_in] <;> omega
    have hlt : (k : Int) < (xs.length : Int) := by omega
    obtain ⟨g1, o1, rfl, d1⟩ := H1.out.cell hkl
    have hi0 : (0 : Int) ≤ (k : Int) := by omega
    by_cases he : k = j
    · have hx : ((a : Int) == ((xs.getD k 0 : Nat) : Int)) = true := by rw [he, HA.out]; simp
      generalize xs.getD k 0 = x at *
      replace he := Lib.hid he
      go_wp2_with fail
      go_ret
      exact ⟨by rw [← he.out]; rfl, rfl⟩
    · have hx : ((a : Int) == ((xs.getD k 0 : Nat) : Int)) = false := by have := HN.out k (by omega); rw [Bool.eq_false_iff]; intro h0; rw [beq_iff_eq] at h0; omega
      generalize xs.getD k 0 = x at *
      have hk1 := Lib.hid (show k + 1 ≤ j by omega)
      clear he hk
      go_wp2_with fail
      go_roundg (xs.length + 1 - (k + 1))
      case measure => omega
      case rel => exact ⟨k + 1, hk1.out, rfl, by first | rfl | go_num, rfl⟩
end Edt
end Go.Proofs.YtpgbnnnfeaodmaaGreatDoor
/- Digit and suitsNumeric of package edit (split off EdtLow). -/
namespace Go.Proofs.YtpgbnnnfeaodmaaGreatDoor
open Go.RowKit Sha Six Apd Cut Err Att Grd Fld Scr
set_option linter.unusedVariables false
namespace Edt
set_option maxRecDepth 100000 in
set_option maxHeartbeats 2000000 in
theorem digit_w (c : Nat) (w : World) (hc : c < 256) : Calls Tryz.prog 93 #[.int .u8 (c : Int)] w fun e w' => e = .returned (.bool (digit c)) ∧ w = w' := by
  unfold digit
  by_cases h1 : c = 96
  · subst h1
    go_enter Tryz.func93, Tryz.ntmps93
    go_wp2
    go_ret
    exact ⟨rfl, rfl⟩
  by_cases h2 : c = 75
  · subst h2
    go_enter Tryz.func93, Tryz.ntmps93
    go_wp2
    go_ret
    exact ⟨rfl, rfl⟩
  have k1 : ((c : Int) == 96) = false := by simp; omega
  have k2 : ((c : Int) == 75) = false := by simp; omega
  have hd : (c == 96 || c == 75) = false := by simp [h1, h2]
  rw [hd, Bool.or_false]
  clear hd h1 h2
  by_cases h3 : 240 ≤ c
  · by_cases h4 : c ≤ 249
    · go_enter Tryz.func93, Tryz.ntmps93
      go_wp2
      go_ret
      exact ⟨ret_bool (by simp), rfl⟩
    · go_enter Tryz.func93, Tryz.ntmps93
      go_wp2
      go_ret
      exact ⟨ret_bool (by simp [h4]; try omega), rfl⟩
  · go_enter Tryz.func93, Tryz.ntmps93
    go_wp2
    go_ret
    exact ⟨ret_bool (by simp), rfl⟩
set_option maxRecDepth 100000 in
set_option maxHeartbeats 2000000 in
theorem suits_w (c : Nat) (w : World) (hc : c < 256) : Calls Tryz.prog 68 #[.int .u8 (c : Int)] w fun e w' => e = .returned (.bool (suits c)) ∧ w = w' := by
  have HD := Lib.hid fun W => digit_w c W hc
  unfold suits
  have e1 : ((c : Int) == 28) = (c == 28) := by rw [Bool.eq_iff_iff]; simp; omega
  have e2 : ((c : Int) == 30) = (c == 30) := by rw [Bool.eq_iff_iff]; simp; omega
  generalize digit c = d at *
  generalize (c == 28) = x at *
  generalize (c == 30) = y at *
  cases d <;> cases x <;> cases y <;>
  · go_enter Tryz.func68, Tryz.ntmps68
    go_wp2_with fail
    refine (HD.out _).mono ?_
    rintro e w1 ⟨rfl, rfl⟩
    go_wp2_with fail
    go_ret
    exact ⟨rfl, rfl⟩
end Edt
end Go.Proofs.YtpgbnnnfeaodmaaGreatDoor
/- Deny, Modify, Line of package edit. -/
namespace Go.Proofs.YtpgbnnnfeaodmaaGreatDoor
open Go.RowKit Sha Six Apd Cut Err Att Grd Fld Scr
set_option linter.unusedVariables false
namespace Edt
set_option maxRecDepth 100000 in
set_option maxHeartbeats 8000000 in
theorem deny_any (s : S) (ad : Option Addr) (k : Nat) (code : Int) (w : World) (h : CelsIn w (.slice ad s.cs.length k) s.cs) (hl : s.cs.length < 10000) (hz : 0 < s.cs.length) (hc : code ≠ 0) :
    Calls Tryz.prog 63 #[.agg #[.int .i64 s.rows, .int .i64 s.cols, .slice ad s.cs.length k, .int .i64 s.cur, .bool s.lk, .bool s.ins], .iface 48 (.int .i64 code)] w fun e w' => GaveE w w' (deny s) code s.cur e := by
  obtain ⟨r, c, cs, cur, lk, ins⟩ := s
  simp only at *
  have HP := Lib.hid hz
  have HB := Lib.hid (kept_trans (al_any w (.cells #[.int .i64 r, .int .i64 c, .slice ad cs.length k, .int .i64 cur, .bool lk, .bool ins] 24)) (al_any _ (.cells #[.int .i64 0, .int .i64 0, .slice none 0 0, .int .i64 0, .bool false, .bool false] 24)))
  have HX := Lib.hid (heap_alloc2_old w (.cells #[.int .i64 r, .int .i64 c, .slice ad cs.length k, .int .i64 cur, .bool lk, .bool ins] 24) (.cells #[.int .i64 0, .int .i64 0, .slice none 0 0, .int .i64 0, .bool false, .bool false] 24))
  have HZ := Lib.hid (heap_alloc2_new w (.cells #[.int .i64 r, .int .i64 c, .slice ad cs.length k, .int .i64 cur, .bool lk, .bool ins] 24) (.cells #[.int .i64 0, .int .i64 0, .slice none 0 0, .int .i64 0, .bool false, .bool false] 24))
  have HI := Lib.hid (h.below HB.out)
  have HL := Lib.hid hl
  have HCC := Lib.hid hc
  have HC := Lib.hid fun W hb => copy_any ⟨r, c, cs, cur, lk, ins⟩ ad k W (HI.out.below hb) (by simp only; omega)
  simp only at HC
  clear h hl hz hc
  go_enter Tryz.func63, Tryz.ntmps63
  go_upto_region 1 with (fail)
  generalize (w.alloc _).alloc _ = w1 at *
  have hzx := there_lt HZ.out
  obtain ⟨c0, c1, c2, c3, c4, c5⟩ := cells6 HX.out
  go_wp2_with fail
  with_reducible refine (HC.out _ (Below.refl _ _)).mono ?_
  rintro e w2 ⟨va, vc, rfl, ho, hb⟩
  clear c0 c1 c2 c3 c4 c5
  have X2 := Lib.hid (blk HX.out hb)
  have Z2 := Lib.hid (blk HZ.out hb)
  obtain ⟨g, e1, hg1, B3⟩ := Box.over (w0 := w) X2.out ho (by simpa [] using HP.out) (show w.heap.size < w1.heap.size by omega) (Nat.le_refl _) (kept_trans HB.out hb)
  subst e1
  have H3 := Lib.hid B3
  have SF := over6 w2 w.heap.size _ _ _ _ _ _ _ (.int .i64 ((⟨r, c, cs, cur, lk, ins⟩ : S)).rows) (.int .i64 ((⟨r, c, cs, cur, lk, ins⟩ : S)).cols) (.slice (some ⟨g, 0, none⟩) ((⟨r, c, cs, cur, lk, ins⟩ : S)).cs.length vc) (.int .i64 ((⟨r, c, cs, cur, lk, ins⟩ : S)).cur) (.bool ((⟨r, c, cs, cur, lk, ins⟩ : S)).lk) (.bool ((⟨r, c, cs, cur, lk, ins⟩ : S)).ins) X2.out
  have Z3 := Lib.hid (blk_g Z2.out SF.2 (by intro e; injection e with e; omega))
  have HG := Lib.hid (show w.heap.size + 1 < g from by omega)
  simp only at H3
  clear hzx ho hb Z2 HX HZ HB HI HC SF B3
  obtain ⟨c0, c1, c2, c3, c4, c5⟩ := cells6 X2.out
  obtain ⟨f0, f1, f2, f3, f4, f5⟩ := free6 X2.out
  go_upto_region 2 with (fail)
  clear c0 c1 c2 c3 c4 c5 f0 f1 f2 f3 f4 f5 X2
  generalize (((((w2.setCell _ _).setCell _ _).setCell _ _).setCell _ _).setCell _ _).setCell _ _ = w3 at *
  obtain ⟨c0, c1, c2, c3, c4, c5⟩ := H3.out.cells
  obtain ⟨f0, f1, f2, f3, f4, f5⟩ := H3.out.free
  have H5 := Lib.hid (H3.out.lk true)
  have Z5 := Lib.hid (blk_g Z3.out (gsetCell w3 w.heap.size 4 (.bool true)) (by intro e; injection e with e; omega))
  go_upto_region 3 with (fail)
  clear c0 c1 c2 c3 c4 c5 f0 f1 f2 f3 f4 f5 H3 Z3
  generalize w3.setCell _ _ = w5 at *
  obtain ⟨c0, c1, c2, c3, c4, c5⟩ := H5.out.cells
  obtain ⟨z0, z1, z2, z3, z4, z5⟩ := cells6 Z5.out
  obtain ⟨f0, f1, f2, f3, f4, f5⟩ := free6 Z5.out
  have hzl := there_lt Z5.out
  have hxl : w.heap.size < w5.heap.size := by omega
  have SF := Lib.hid (H5.out.gave Z5.out (by have := HG.out; omega) (by omega))
  simp only at c0 c1 c2 c3 c4 c5 SF
  go_region
  all_goals
    clear c0 c1 c2 c3 c4 c5 z0 z1 z2 z3 z4 z5 f0 f1 f2 f3 f4 f5
    generalize hw9 : (((((w5.setCell _ _).setCell _ _).setCell _ _).setCell _ _).setCell _ _).setCell _ _ = w9 at *
    have hsz : w9.heap.size = w5.heap.size := by rw [← hw9]; simp
    have HN : ((w9.alloc (.cells #[.int .i64 cur, .iface 48 (.int .i64 code)] 62)).drew).heap[w5.heap.size]? = some (.cells #[.int .i64 cur, .iface 48 (.int .i64 code)] 62) := by rw [← hsz]; exact heap_alloc_new w9 _
    have HA := (al_any w9 (.cells #[.int .i64 cur, .iface 48 (.int .i64 code)] 62)).drew
    clear hw9
    have Z9 := Lib.hid (blk SF.out.1 HA)
    have O9 := Lib.hid (OwnCels.below SF.out.2.1 HA)
    have K9 := kept_hid (Lib.hid SF.out.2.2) HA
    have T9 := Lib.hid (show Err.Told _ (.iface 59 (.pointer (some ⟨w5.heap.size, 0, none⟩))) code cur from .inr (.inr ⟨0, w5.heap.size, rfl, cell_of_row _ _ 0 _ _ _ HN, w5.heap.size, cur, .iface 48 (.int .i64 code), rfl, cell_of_row _ _ 0 _ _ _ HN, cell_of_row _ _ 1 _ _ _ HN, rfl⟩))
    clear HN HA SF
    generalize (w9.alloc _).drew = wz at *
    go_wp2_with fail
    exact bodyPost_ret (v := .tuple #[.agg #[.int .i64 r, .int .i64 c, .slice (some ⟨g, 0, none⟩) cs.length vc, .int .i64 cur, .bool true, .bool ins], .iface 59 (.pointer (some ⟨w5.heap.size, 0, none⟩))]) (results_cell_row_tmp rfl _ _ _ (w.heap.size + 1) _ rfl (run_loadVar_row wz (w.heap.size + 1) 24 24 _ (0, 0) _ Z9.out Tryz.underlying24 rfl (by kernel_rfl)) _ rfl) rfl ⟨some ⟨g, 0, none⟩, vc, _, rfl, O9.out.to, T9.out, fun h0 => absurd h0 HCC.out, K9.out⟩
set_option maxRecDepth 100000 in
set_option maxHeartbeats 8000000 in
theorem modify_any (s : S) (ad : Option Addr) (k a : Nat) (w : World) (h : CelsIn w (.slice ad s.cs.length k) s.cs) (h8 : Sound s.cs) (hl : s.cs.length < 10000) (ha : a < s.cs.length) :
    Calls Tryz.prog 89 #[.agg #[.int .i64 s.rows, .int .i64 s.cols, .slice ad s.cs.length k, .int .i64 s.cur, .bool s.lk, .bool s.ins], .int .i64 (a : Int)] w fun e w' => GaveA w w' (modif s a) e := by
  obtain ⟨r, c, cs, cur, lk, ins⟩ := s
  simp only at *
  have HP := Lib.hid (show 0 < cs.length by omega)
  have HB := Lib.hid (kept_trans (al_any w (.cells #[.int .i64 r, .int .i64 c, .slice ad cs.length k, .int .i64 cur, .bool lk, .bool ins] 24)) (al_any _ (.cells #[.int .i64 0, .int .i64 0, .slice none 0 0, .int .i64 0, .bool false, .bool false] 24)))
  have HX := Lib.hid (heap_alloc2_old w (.cells #[.int .i64 r, .int .i64 c, .slice ad cs.length k, .int .i64 cur, .bool lk, .bool ins] 24) (.cells #[.int .i64 0, .int .i64 0, .slice none 0 0, .int .i64 0, .bool false, .bool false] 24))
  have HZ := Lib.hid (heap_alloc2_new w (.cells #[.int .i64 r, .int .i64 c, .slice ad cs.length k, .int .i64 cur, .bool lk, .bool ins] 24) (.cells #[.int .i64 0, .int .i64 0, .slice none 0 0, .int .i64 0, .bool false, .bool false] 24))
  have HI := Lib.hid (h.below HB.out)
  have HL := Lib.hid hl
  have HA := Lib.hid ha
  have H8 := Lib.hid h8
  have HC := Lib.hid fun W hb => copy_any ⟨r, c, cs, cur, lk, ins⟩ ad k W (HI.out.below hb) (by simp only; omega)
  simp only at HC
  clear h hl ha h8
  go_enter Tryz.func89, Tryz.ntmps89
  go_upto_region 1 with (fail)
  generalize (w.alloc _).alloc _ = w1 at *
  have hzx := there_lt HZ.out
  obtain ⟨c0, c1, c2, c3, c4, c5⟩ := cells6 HX.out
  go_wp2_with fail
  with_reducible refine (HC.out _ (Below.refl _ _)).mono ?_
  rintro e w2 ⟨va, vc, rfl, ho, hb⟩
  clear c0 c1 c2 c3 c4 c5
  have X2 := Lib.hid (blk HX.out hb)
  have Z2 := Lib.hid (blk HZ.out hb)
  obtain ⟨g, e1, hg1, B3⟩ := Box.over (w0 := w) X2.out ho (by simpa [] using HP.out) (show w.heap.size < w1.heap.size by omega) (Nat.le_refl _) (kept_trans HB.out hb)
  subst e1
  have H3 := Lib.hid B3
  have SF := over6 w2 w.heap.size _ _ _ _ _ _ _ (.int .i64 ((⟨r, c, cs, cur, lk, ins⟩ : S)).rows) (.int .i64 ((⟨r, c, cs, cur, lk, ins⟩ : S)).cols) (.slice (some ⟨g, 0, none⟩) ((⟨r, c, cs, cur, lk, ins⟩ : S)).cs.length vc) (.int .i64 ((⟨r, c, cs, cur, lk, ins⟩ : S)).cur) (.bool ((⟨r, c, cs, cur, lk, ins⟩ : S)).lk) (.bool ((⟨r, c, cs, cur, lk, ins⟩ : S)).ins) X2.out
  have Z3 := Lib.hid (blk_g Z2.out SF.2 (by intro e; injection e with e; omega))
  have HG := Lib.hid (show w.heap.size + 1 < g from by omega)
  simp only at H3
  clear hzx ho hb Z2 HX HZ HB HI HC SF B3
  obtain ⟨c0, c1, c2, c3, c4, c5⟩ := cells6 X2.out
  obtain ⟨f0, f1, f2, f3, f4, f5⟩ := free6 X2.out
  go_upto_region 2 with (fail)
  clear c0 c1 c2 c3 c4 c5 f0 f1 f2 f3 f4 f5 X2
  generalize (((((w2.setCell _ _).setCell _ _).setCell _ _).setCell _ _).setCell _ _).setCell _ _ = w3 at *
  have HF := Lib.hid (fbegin_any ⟨r, c, cs, cur, lk, ins⟩ (some ⟨g, 0, none⟩) vc a w3 H3.out.own.to H8.out HP.out HL.out HA.out)
  simp only at HF
  obtain ⟨c0, c1, c2, c3, c4, c5⟩ := H3.out.cells
  go_wp2_with fail
  with_reducible refine HF.out.mono ?_
  rintro e w4 ⟨rfl, hb⟩
  clear c0 c1 c2 c3 c4 c5 HF
  have H4 := Lib.hid (H3.out.below hb)
  have Z4 := Lib.hid (blk Z3.out hb)
  clear hb H3 Z3
  by_cases hb0 : begin_ cs a < 0
  · have HM := Lib.hid (show modif ⟨r, c, cs, cur, lk, ins⟩ a = ⟨r, c, cs, cur, lk, ins⟩ by unfold modif; rw [if_pos hb0])
    have hb1 : decide (0 ≤ begin_ cs a) = false := by simp; omega
    generalize begin_ cs a = bg at *
    clear hb0
    obtain ⟨c0, c1, c2, c3, c4, c5⟩ := H4.out.cells
    obtain ⟨z0, z1, z2, z3, z4, z5⟩ := cells6 Z4.out
    obtain ⟨f0, f1, f2, f3, f4, f5⟩ := free6 Z4.out
    have SF := Lib.hid (H4.out.gave Z4.out (by have := HG.out; omega) (by omega))
    simp only at c0 c1 c2 c3 c4 c5 SF
    go_wp2_with fail
    clear z0 z1 z2 z3 z4 z5 c0 c1 c2 c3 c4 c5 f0 f1 f2 f3 f4 f5
    generalize (((((w4.setCell _ _).setCell _ _).setCell _ _).setCell _ _).setCell _ _).setCell _ _ = w9 at *
    rw [HM.out]
    exact bodyPost_ret (v := .agg #[.int .i64 r, .int .i64 c, .slice (some ⟨g, 0, none⟩) cs.length vc, .int .i64 cur, .bool lk, .bool ins]) (results_cell_row rfl _ _ (w.heap.size + 1) 24 _ (0, 0) _ rfl SF.out.1 Tryz.underlying24 rfl (by kernel_rfl)) rfl ⟨some ⟨g, 0, none⟩, vc, rfl, SF.out.2.1, SF.out.2.2⟩
  · obtain ⟨b, hbe, hbl, _⟩ := begin_fat HA.out (show 0 ≤ begin_ cs a by omega)
    have HM := Lib.hid (show modif ⟨r, c, cs, cur, lk, ins⟩ a = ⟨r, c, cs.set b { cs.getD b noC with m := true }, cur, lk, ins⟩ by unfold modif; rw [if_neg hb0, hbe]; rfl)
    rw [hbe]
    clear hbe hb0
    obtain ⟨xf, xp, xn, xs, xm, xc, ex⟩ := c_eta (cs.getD b noC)
    obtain ⟨_, _, _, _, _, f4, _⟩ := H4.out.spot hbl ex
    have f4' : w4.frozen? ⟨g, b * 6 + 1 + 3, none⟩ = false := f4
    obtain ⟨⟨_, _, _, _, q4, _⟩, _⟩ := H4.out.spot hbl ex
    have q4' : w4.cell? ⟨g, b * 6 + 1 + 3, none⟩ = some (.bool xm) := q4
    have H5 := Lib.hid (show Box w (w4.setCell ⟨g, b * 6 + 1 + 3, none⟩ (.bool true)) w.heap.size g vc _ from H4.out.setm hbl true)
    have Z5 := Lib.hid (show (w4.setCell ⟨g, b * 6 + 1 + 3, none⟩ (.bool true)).heap[w.heap.size + 1]? = _ from blk_g Z4.out (gsetCell w4 g (b * 6 + 1 + 3) (.bool true)) (by intro e; injection e with e; have := HG.out; omega))
    have hi0 : (0 : Int) ≤ (b : Int) := by omega
    have hi1 : (b : Int) < (cs.length : Int) := by omega
    obtain ⟨c0, c1, c2, c3, c4, c5⟩ := H4.out.cells
    clear ex
    go_upto_region 5 with (fail)
    clear c0 c1 c2 c3 c4 c5 f4 f4' q4 q4' H4 Z4
    generalize w4.setCell _ _ = w5 at *
    obtain ⟨c0, c1, c2, c3, c4, c5⟩ := H5.out.cells
    obtain ⟨z0, z1, z2, z3, z4, z5⟩ := cells6 Z5.out
    obtain ⟨f0, f1, f2, f3, f4, f5⟩ := free6 Z5.out
    have SF := Lib.hid (H5.out.gave Z5.out (by have := HG.out; omega) (by omega))
    simp only [List.length_set] at c0 c1 c2 c3 c4 c5 SF
    go_wp2_with fail
    clear z0 z1 z2 z3 z4 z5 c0 c1 c2 c3 c4 c5 f0 f1 f2 f3 f4 f5
    generalize (((((w5.setCell _ _).setCell _ _).setCell _ _).setCell _ _).setCell _ _).setCell _ _ = w9 at *
    rw [HM.out]
    exact bodyPost_ret (v := .agg #[.int .i64 r, .int .i64 c, .slice (some ⟨g, 0, none⟩) cs.length vc, .int .i64 cur, .bool lk, .bool ins]) (results_cell_row rfl _ _ (w.heap.size + 1) 24 _ (0, 0) _ rfl (by simpa [six] using SF.out.1) Tryz.underlying24 rfl (by kernel_rfl)) rfl ⟨some ⟨g, 0, none⟩, vc, by simp, by simpa using SF.out.2.1, SF.out.2.2⟩
set_option maxRecDepth 100000 in
set_option maxHeartbeats 8000000 in
theorem line_any (s : S) (ad : Option Addr) (k a : Nat) (w : World) (h : CelsIn w (.slice ad s.cs.length k) s.cs) (h8 : Sound s.cs) (hl : s.cs.length < 10000) (ha : a < s.cs.length) :
    Calls Tryz.prog 62 #[.agg #[.int .i64 s.rows, .int .i64 s.cols, .slice ad s.cs.length k, .int .i64 s.cur, .bool s.lk, .bool s.ins], .int .i64 (a : Int)] w fun e w' => ∃ v, e = .returned v ∧ IntsIn w' v (line s.cs a) ∧ Below w.heap.size w w' := by
  have HB := Lib.hid (al_any w (.cells #[.int .i64 s.rows, .int .i64 s.cols, .slice ad s.cs.length k, .int .i64 s.cur, .bool s.lk, .bool s.ins] 24))
  have HX := Lib.hid (heap_alloc_new w (.cells #[.int .i64 s.rows, .int .i64 s.cols, .slice ad s.cs.length k, .int .i64 s.cur, .bool s.lk, .bool s.ins] 24))
  have HI := Lib.hid (h.below HB.out)
  have HP := Lib.hid (show 0 < s.cs.length by omega)
  have HR := Lib.hid fun W hb => fopen_any s ad k a W (HI.out.below hb) h8 HP.out hl ha
  have HC := Lib.hid fun W hb => fcells_any s ad k a W (HI.out.below hb) h8 HP.out hl ha
  have HCL := Lib.hid (cells_len s.cs a HP.out)
  have HL := Lib.hid hl
  have HA := Lib.hid ha
  clear h h8 hl ha
  go_enter Tryz.func62, Tryz.ntmps62
  go_upto_region 1 with (fail)
  generalize w.alloc _ = w1 at *
  obtain ⟨c0, c1, c2, c3, c4, c5⟩ := cells6 HX.out
  go_wp2_with fail
  with_reducible refine (HR.out _ (Below.refl _ _)).mono ?_
  rintro e w2 ⟨rfl, hb⟩
  have K2 := kept_hid HB hb
  have HC2 := Lib.hid (HC.out _ hb)
  have X2 := Lib.hid (blk HX.out hb)
  clear hb c0 c1 c2 c3 c4 c5 HC HR HX HI HB
  cases ho : open_ s.cs a with
  | false =>
    have HLN := Lib.hid (line_closed ho)
    clear ho
    go_wp2_with fail
    go_ret
    exact ⟨_, rfl, by rw [HLN.out]; exact ⟨none, 0, rfl, Nat.le_refl _, .inl rfl⟩, K2.out⟩
  | true =>
    obtain ⟨j, hj1, hj2, hj3, hj4⟩ := line_first HA.out ho
    clear ho
    have HJ1 := Lib.hid hj1
    have HJ2 := Lib.hid hj2
    have HJ3 := Lib.hid hj3
    have HJ4 := Lib.hid hj4
    clear hj1 hj2 hj3 hj4
    generalize cells s.cs a = xs at *
    obtain ⟨c0, c1, c2, c3, c4, c5⟩ := cells6 X2.out
    go_wp2_with fail
    with_reducible refine HC2.out.mono ?_
    rintro e w3 ⟨v, rfl, ho, hb⟩
    have K3 := kept_hid K2 hb
    have O3 := Lib.hid ho.to
    obtain ⟨va, vc, rfl⟩ := ho.form
    have HIX := Lib.hid (index_any _ xs a j w3 O3.out (by have := HCL.out; have := HL.out; omega) HJ1.out HJ2.out HJ3.out)
    clear hb ho c0 c1 c2 c3 c4 c5 HC2
    go_wp2_with fail
    with_reducible refine HIX.out.mono ?_
    rintro e w4 ⟨rfl, rfl⟩
    have hj0 : ¬ (j : Int) < 0 := by omega
    have hrun := run_lI va xs.length vc j (Nat.le_of_lt HJ1.out)
    go_wp2_with fail
    go_ret
    exact ⟨_, rfl, by rw [HJ4.out]; exact ints_l O3.out (Nat.le_of_lt HJ1.out), K3.out⟩
end Edt
end Go.Proofs.YtpgbnnnfeaodmaaGreatDoor
/- onward of package edit; the search for the first cell without a character. -/
namespace Go.Proofs.YtpgbnnnfeaodmaaGreatDoor
open Go.RowKit Sha Six Apd Cut Err Att Grd Fld Scr
set_option linter.unusedVariables false
namespace Edt
set_option maxRecDepth 100000 in
set_option maxHeartbeats 8000000 in
theorem onward_any (s : S) (ad : Option Addr) (k a : Nat) (w : World) (h : CelsIn w (.slice ad s.cs.length k) s.cs) (h8 : Sound s.cs) (hl : s.cs.length < 10000) (ha : a < s.cs.length) :
    Calls Tryz.prog 94 #[.agg #[.int .i64 s.rows, .int .i64 s.cols, .slice ad s.cs.length k, .int .i64 s.cur, .bool s.lk, .bool s.ins], .int .i64 (a : Int)] w fun e w' => e = .returned (.int .i64 ((goes s.cs a : Nat) : Int)) ∧ Below w.heap.size w w' := by
  have HB := Lib.hid (al_any w (.cells #[.int .i64 s.rows, .int .i64 s.cols, .slice ad s.cs.length k, .int .i64 s.cur, .bool s.lk, .bool s.ins] 24))
  have HX := Lib.hid (heap_alloc_new w (.cells #[.int .i64 s.rows, .int .i64 s.cols, .slice ad s.cs.length k, .int .i64 s.cur, .bool s.lk, .bool s.ins] 24))
  have HI := Lib.hid (h.below HB.out)
  have HP := Lib.hid (show 0 < s.cs.length by omega)
  have HL := Lib.hid hl
  have HO := Lib.hid fun (x : Nat) (hx : x < s.cs.length) W => on_any s.rows s.cols ad s.cs.length k s.cur s.lk s.ins (x : Int) 1 W HP.out (by have := HL.out; omega) (by have := HL.out; rw [IntKind.wrap_i64]; omega) (by decide)
  have HT := Lib.hid (on_lt HP.out (a : Int) 1)
  have HN := Lib.hid fun W hb => fnext_any s ad k (on s.cs.length (a : Int) 1) W (HI.out.below hb) h8 HP.out hl HT.out
  have HA := Lib.hid ha
  have HE := Lib.hid (show goes s.cs a = (if (s.cs.getD (on s.cs.length (a : Int) 1) noC).f then (if ((s.cs.getD (on s.cs.length (a : Int) 1) noC).p && (s.cs.getD (on s.cs.length (a : Int) 1) noC).n) && decide (0 ≤ next s.cs (on s.cs.length (a : Int) 1)) then (next s.cs (on s.cs.length (a : Int) 1)).toNat else on s.cs.length ((on s.cs.length (a : Int) 1 : Nat) : Int) 1) else on s.cs.length (a : Int) 1) from rfl)
  clear h h8 hl ha
  generalize goes s.cs a = res at *
  go_enter Tryz.func94, Tryz.ntmps94
  go_upto_region 1 with (fail)
  generalize w.alloc _ = w1 at *
  obtain ⟨c0, c1, c2, c3, c4, c5⟩ := cells6 HX.out
  go_wp2_with fail
  with_reducible refine (HO.out a HA.out _).mono ?_
  rintro e w2 ⟨rfl, hb⟩
  have K2 := kept_hid HB hb
  have HN2 := Lib.hid fun W hb2 => HN.out W (kept_trans hb hb2)
  have X2 := Lib.hid (blk HX.out hb)
  have I2 := Lib.hid (HI.out.below hb)
  clear hb c0 c1 c2 c3 c4 c5 HN HX HI HB
  generalize on s.cs.length (a : Int) 1 = t at *
  obtain ⟨xf, xp, xn, xs, xm, xc, ex⟩ := c_eta (s.cs.getD t noC)
  rw [ex] at HE
  obtain ⟨b1, o1, rfl, g0, g1, g2, g3, g4, g5⟩ := I2.out.cells HT.out ex
  have g2' : w2.cell? ⟨b1, o1 + t * 6 + 1 + 1, none⟩ = some (.bool xn) := g2
  have g3' : w2.cell? ⟨b1, o1 + t * 6 + 1 + 2, none⟩ = some (.int .i64 xs) := g3
  have g4' : w2.cell? ⟨b1, o1 + t * 6 + 1 + 3, none⟩ = some (.bool xm) := g4
  have hi0 : (0 : Int) ≤ (t : Int) := by omega
  have hi1 : (t : Int) < (s.cs.length : Int) := by have := HT.out; omega
  have HAL := al_any w2 (.cells #[.bool xf, .bool xp, .bool xn, .int .i64 xs, .bool xm, .int .u8 (xc : Int)] 42)
  have K3 := kept_hid K2 HAL
  have X3 := Lib.hid (blk X2.out HAL)
  have Y3 := Lib.hid (heap_alloc_new w2 (.cells #[.bool xf, .bool xp, .bool xn, .int .i64 xs, .bool xm, .int .u8 (xc : Int)] 42))
  have HN3 := Lib.hid fun W hb2 => HN2.out W (kept_trans HAL hb2)
  obtain ⟨c0, c1, c2, c3, c4, c5⟩ := cells6 X2.out
  clear HAL ex
  go_upto_region 3 with (fail)
  clear c0 c1 c2 c3 c4 c5 g0 g1 g2 g3 g4 g5 g2' g3' g4' I2 K2 X2 HN2
  generalize w2.alloc _ = w3 at *
  generalize w2.heap.size = Y at *
  obtain ⟨y0, y1, y2, y3, y4, y5⟩ := cells6 Y3.out
  obtain ⟨c0, c1, c2, c3, c4, c5⟩ := cells6 X3.out
  cases xf with
  | false =>
    go_wp2_with fail
    go_ret
    exact ⟨by rw [HE.out]; rfl, K3.out⟩
  | true =>
    have HO2 := Lib.hid (HO.out t HT.out)
    cases hpn : (xp && xn) with
    | false =>
      simp only [hpn, Bool.false_and, if_true, Bool.false_eq_true, if_false] at HE
      have hgo : (xp = true ∧ xn = false) ∨ xp = false := by cases xp <;> cases xn <;> simp_all
      clear hpn
      rcases hgo with ⟨rfl, rfl⟩ | rfl
      all_goals
        go_wp2_with fail
        with_reducible refine (HO2.out _).mono ?_
        rintro e w4 ⟨rfl, hb⟩
        have K4 := kept_hid K3 hb
        clear hb c0 c1 c2 c3 c4 c5
        go_wp2_with fail
        go_ret
        exact ⟨by rw [HE.out]; rfl, K4.out⟩
    | true =>
      simp only [hpn, Bool.true_and, if_true] at HE
      obtain ⟨rfl, rfl⟩ : xp = true ∧ xn = true := by cases xp <;> cases xn <;> simp_all
      clear hpn
      have HB3 := HN3.out w3 (Below.refl _ _)
      go_wp2_with fail
      with_reducible refine HB3.mono ?_
      rintro e w4 ⟨rfl, hb⟩
      have K4 := kept_hid K3 hb
      have X4 := Lib.hid (blk X3.out hb)
      clear hb c0 c1 c2 c3 c4 c5 HN3 y0 y1 y2 y3 y4 y5
      by_cases hn0 : 0 ≤ next s.cs t
      · rw [decide_eq_true hn0, if_pos rfl] at HE
        obtain ⟨nx, hnx⟩ : ∃ nx : Nat, next s.cs t = (nx : Int) := ⟨(next s.cs t).toNat, by omega⟩
        rw [hnx] at HE ⊢
        clear hnx hn0
        have h0 : (0 : Int) ≤ (nx : Int) := by omega
        go_wp2_with fail
        go_ret
        exact ⟨by rw [HE.out]; rfl, K4.out⟩
      · rw [decide_eq_false hn0, if_neg (by decide)] at HE
        have hd : decide (0 ≤ next s.cs t) = false := decide_eq_false hn0
        generalize next s.cs t = nx at *
        clear hn0
        obtain ⟨c0, c1, c2, c3, c4, c5⟩ := cells6 X4.out
        go_wp2_with fail
        with_reducible refine (HO2.out _).mono ?_
        rintro e w5 ⟨rfl, hb⟩
        have K5 := kept_hid K4 hb
        clear hb c0 c1 c2 c3 c4 c5
        go_wp2_with fail
        go_ret
        exact ⟨by rw [HE.out]; rfl, K5.out⟩
theorem empty_any (s : S) (ad : Option Addr) (k a X : Nat) (w : World) (h : CelsIn w (.slice ad s.cs.length k) s.cs) (hX : w.heap[X]? = some (.cells #[.int .i64 s.rows, .int .i64 s.cols, .slice ad s.cs.length k, .int .i64 s.cur, .bool s.lk, .bool s.ins] 24 (0, 0))) (ha : a < s.cs.length) :
    Calls Tryz.prog 70 #[.int .i64 (a : Int), .pointer (some ⟨X, 0, none⟩)] w fun e w' => e = .returned (.bool ((s.cs.getD a noC).c == 0)) ∧ w = w' := by
  obtain ⟨c0, c1, c2, c3, c4, c5⟩ := cells6 hX
  obtain ⟨xf, xp, xn, xs, xm, xc, ex⟩ := c_eta (s.cs.getD a noC)
  obtain ⟨b1, o1, rfl, g0, g1, g2, g3, g4, g5⟩ := h.cells ha ex
  have hi0 : (0 : Int) ≤ (a : Int) := by omega
  have hi1 : (a : Int) < (s.cs.length : Int) := by omega
  rw [ex]
  have e0 : ((xc : Int) == 0) = (xc == 0) := by rw [Bool.eq_iff_iff]; simp
  clear ex h hX ha
  go_enter Tryz.func70, Tryz.ntmps70
  go_wp2_with fail
  go_ret
  exact ⟨rfl, rfl⟩
set_option maxRecDepth 100000 in
set_option maxHeartbeats 8000000 in
theorem indexF_any (s : S) (ad : Option Addr) (k X : Nat) (v : Value) (xs : List Nat) (w : World) (h : CelsIn w (.slice ad s.cs.length k) s.cs) (hX : w.heap[X]? = some (.cells #[.int .i64 s.rows, .int .i64 s.cols, .slice ad s.cs.length k, .int .i64 s.cur, .bool s.lk, .bool s.ins] 24 (0, 0))) (hv : IntsIn w v xs) (hx : ∀ x ∈ xs, x < s.cs.length) (hl : xs.length < 100000000) :
    Calls Tryz.prog 69 #[v, .func (.func 70) #[] #[.pointer (some ⟨X, 0, none⟩)]] w fun e w' => (∃ j : Int, e = .returned (.int .i64 j) ∧ ((∃ q : Nat, free s.cs xs = some q ∧ j = q) ∨ (free s.cs xs = none ∧ j = -1))) ∧ w = w' := by
  have H1 := Lib.hid hv
  have HL := Lib.hid hl
  have HXX := Lib.hid hx
  have HE := Lib.hid fun a (ha : a < s.cs.length) => empty_any s ad k a X w h hX ha
  obtain ⟨a1, k1, rfl⟩ := hv.form
  clear h hX hv hx hl
  go_enter Tryz.func69, Tryz.ntmps69
  go_wp2_with fail
  go_loopg [8] (xs.length + 1) (fun m i wr => ∃ q : Nat, q ≤ xs.length ∧ m = xs.length + 1 - q ∧ i = .int .i64 q ∧ Hid (∀ i, i < q → (s.cs.getD (xs.getD i 0) noC).c ≠ 0) ∧ w = wr)
  case atStart => exact ⟨0, Nat.zero_le _, rfl, rfl, Lib.hid (fun i hi => absurd hi (Nat.not_lt_zero _)), rfl⟩
  case round =>
    obtain ⟨q, hq, rfl, rfl, HN, rfl⟩ := hrel
    have ew : IntKind.i64.wrap ((q : Int) + 1) = (q : Int) + 1 := by
      have := HL.out
      rw [IntWalk.i64_in] <;> omega
    by_cases hlt : q < xs.length
    · obtain ⟨g1, o1, rfl, d1⟩ := H1.out.cell hlt
      have hxl : xs.getD q 0 < s.cs.length := HXX.out _ (by rw [List.getD_eq_getElem?_getD, List.getElem?_eq_getElem hlt]; exact List.getElem_mem hlt)
      have HC := Lib.hid (HE.out _ hxl)
      have hi0 : (0 : Int) ≤ (q : Int) := by omega
      have hi1 : (q : Int) < (xs.length : Int) := by omega
      have HQ := Lib.hid hlt
      cases hz : ((s.cs.getD (xs.getD q 0) noC).c == 0) with
      | true =>
        have HF := Lib.hid (show free s.cs xs = some q from firstK_is (Nat.zero_le _) (by omega) hz (fun i _ hi => by have := HN.out i hi; simpa using this))
        rw [hz] at HC
        generalize xs.getD q 0 = x at *
        clear hz hlt hxl
        go_wp2_with fail
        with_reducible refine HC.out.mono ?_
        rintro e wx ⟨rfl, rfl⟩
        go_wp2_with fail
        go_ret
        exact ⟨⟨(q : Int), rfl, .inl ⟨q, HF.out, rfl⟩⟩, rfl⟩
      | false =>
        have HN' := Lib.hid (show ∀ i, i < q + 1 → (s.cs.getD (xs.getD i 0) noC).c ≠ 0 from fun i hi => by
          rcases Nat.lt_succ_iff_lt_or_eq.1 hi with h | rfl
          · exact HN.out i h
          · simpa using hz)
        rw [hz] at HC
        generalize xs.getD q 0 = x at *
        clear hz hlt hxl
        go_wp2_with fail
        with_reducible refine HC.out.mono ?_
        rintro e wx ⟨rfl, rfl⟩
        go_wp2_with fail
        go_roundg (xs.length + 1 - (q + 1))
        case measure => omega
        case rel => exact ⟨q + 1, HQ.out, rfl, by first | rfl | go_num, HN', rfl⟩
    · have hn0 : ¬ (q : Int) < (xs.length : Int) := by omega
      have HF := Lib.hid (show free s.cs xs = none from firstK_no (fun i _ hi => by have := HN.out i (by omega); simpa using this))
      clear hlt
      go_wp2_with fail
      go_ret
      exact ⟨⟨-1, rfl, .inr ⟨HF.out, rfl⟩⟩, rfl⟩
end Edt
end Go.Proofs.YtpgbnnnfeaodmaaGreatDoor
/- put of package edit: a letter into a line's cells. -/
namespace Go.Proofs.YtpgbnnnfeaodmaaGreatDoor
open Go.RowKit Sha Six Apd Cut Err Att Grd Fld Scr
set_option linter.unusedVariables false
namespace Edt
set_option maxRecDepth 100000 in
set_option maxHeartbeats 8000000 in
theorem put_any (s : S) (ad : Option Addr) (k kk ch : Nat) (v : Value) (w : World) (h : CelsIn w (.slice ad s.cs.length k) s.cs) (hr : sright s = true) (hl : s.cs.length < 10000) (hcur : s.cur = (kk : Int)) (hk : kk < s.cs.length) (ho : open_ s.cs kk = true) (hc : Att.char ch = true) (hc8 : ch < 256) (hv : IntsIn w v (lineTo s kk)) :
    Calls Tryz.prog 71 #[.agg #[.int .i64 s.rows, .int .i64 s.cols, .slice ad s.cs.length k, .int .i64 s.cur, .bool s.lk, .bool s.ins], .int .u8 (ch : Int), v] w fun e w' => GaveA w w' (typed s kk ch) e := by
  have HP := Lib.hid (show 0 < s.cs.length by omega)
  have HB := Lib.hid (kept_trans (al_any w (.cells #[.int .i64 s.rows, .int .i64 s.cols, .slice ad s.cs.length k, .int .i64 s.cur, .bool s.lk, .bool s.ins] 24)) (al_any _ (.cells #[.int .i64 0, .int .i64 0, .slice none 0 0, .int .i64 0, .bool false, .bool false] 24)))
  have HX := Lib.hid (heap_alloc2_old w (.cells #[.int .i64 s.rows, .int .i64 s.cols, .slice ad s.cs.length k, .int .i64 s.cur, .bool s.lk, .bool s.ins] 24) (.cells #[.int .i64 0, .int .i64 0, .slice none 0 0, .int .i64 0, .bool false, .bool false] 24))
  have HZ := Lib.hid (heap_alloc2_new w (.cells #[.int .i64 s.rows, .int .i64 s.cols, .slice ad s.cs.length k, .int .i64 s.cur, .bool s.lk, .bool s.ins] 24) (.cells #[.int .i64 0, .int .i64 0, .slice none 0 0, .int .i64 0, .bool false, .bool false] 24))
  have HI := Lib.hid (h.below HB.out)
  have HV := Lib.hid hv
  have HL := Lib.hid hl
  have HK := Lib.hid hk
  have HLL := Lib.hid (show (lineTo s kk).length = far s kk + 1 from lineTo_length hk ho)
  have HFL := Lib.hid (show far s kk + 1 ≤ s.cs.length from by have := far_lt hk ho; have := lineLen_le hk; omega)
  have Hhl := Lib.hid (lineTo_hl hk ho)
  have Hhd := Lib.hid (lineTo_hd hk ho)
  have HPL := Lib.hid (putq_laid (c := ch) hk ho)
  have HML := Lib.hid (modif_length s kk)
  have HSL := Lib.hid (right_sound (typed_right hr hk ho hc))
  have HM := Lib.hid fun W hb => modify_any s ad k kk W (HI.out.below hb) (right_sound hr) hl hk
  have HMR := Lib.hid (modif_rest s kk)
  have HT := Lib.hid (show typed s kk ch = ⟨s.rows, s.cols, laid s kk ch, (goes (laid s kk ch) kk : Nat), s.lk, s.ins⟩ from rfl)
  have HLLE := Lib.hid (laid_length s kk ch)
  have HSL2 := Lib.hid (show Sound (laid s kk ch) from HSL.out)
  clear h hv hr hl hk hc HSL
  rw [hcur] at HB HX HZ HI HM ⊢
  have HCU := Lib.hid hcur
  clear hcur
  obtain ⟨la, lc, rfl⟩ := HV.out.form
  go_enter Tryz.func71, Tryz.ntmps71
  go_upto_region 1 with (fail)
  generalize (w.alloc _).alloc _ = w1 at *
  have hzx := there_lt HZ.out
  obtain ⟨c0, c1, c2, c3, c4, c5⟩ := cells6 HX.out
  go_wp2_with fail
  with_reducible refine (HM.out _ (Below.refl _ _)).mono ?_
  rintro e w2 ⟨va, vc, rfl, ho2, hb⟩
  clear c0 c1 c2 c3 c4 c5
  rw [HMR.out.1, HMR.out.2.1, HMR.out.2.2.1, HMR.out.2.2.2.1, HMR.out.2.2.2.2, HCU.out] at *
  generalize hmc : (modif s kk).cs = mc at *
  generalize hlt : lineTo s kk = L at *
  have HEC := Lib.hid (show ∀ q, (putq L mc ch q).length = mc.length from putq_length L mc ch)
  clear hmc hlt
  have X2 := Lib.hid (blk HX.out hb)
  have Z2 := Lib.hid (blk HZ.out hb)
  obtain ⟨g, e1, hg1, B3⟩ := Box.over (w0 := w) (t := ⟨s.rows, s.cols, mc, (kk : Int), s.lk, s.ins⟩) X2.out ho2 (by simp only; rw [HML.out]; exact HP.out) (show w.heap.size < w1.heap.size by omega) (Nat.le_refl _) (kept_trans HB.out hb)
  subst e1
  have H3 := Lib.hid B3
  have SF := over6 w2 w.heap.size _ _ _ _ _ _ _ (.int .i64 s.rows) (.int .i64 s.cols) (.slice (some ⟨g, 0, none⟩) mc.length vc) (.int .i64 (kk : Int)) (.bool s.lk) (.bool s.ins) X2.out
  have Z3 := Lib.hid (blk_g Z2.out SF.2 (by intro e; injection e with e; omega))
  have HG := Lib.hid (show w.heap.size + 1 < g from by omega)
  simp only at H3
  clear hzx ho2 hb Z2 HX HZ HB HI HM SF B3
  obtain ⟨c0, c1, c2, c3, c4, c5⟩ := cells6 X2.out
  obtain ⟨f0, f1, f2, f3, f4, f5⟩ := free6 X2.out
  go_upto_region 2 with (fail)
  clear c0 c1 c2 c3 c4 c5 f0 f1 f2 f3 f4 f5 X2
  generalize (((((w2.setCell _ _).setCell _ _).setCell _ _).setCell _ _).setCell _ _).setCell _ _ = w3 at *
  have HLQ := Lib.hid (show L.length < 100000 by have := HL.out; have := HFL.out; have := HLL.out; omega)
  go_wp2_with fail
  go_loopg [1, 15] (L.length + 1) (fun mm cc ii wr => ∃ q : Nat, q ≤ L.length ∧ mm = L.length + 1 - q ∧ ii = .int .i64 q ∧ cc = .int .u8 ((chr mc L ch q : Nat) : Int) ∧ Hid (Box w wr w.heap.size g vc ⟨s.rows, s.cols, putq L mc ch q, (kk : Int), s.lk, s.ins⟩) ∧ Hid (wr.heap[w.heap.size + 1]? = some (.cells #[.int .i64 0, .int .i64 0, .slice none 0 0, .int .i64 0, .bool false, .bool false] 24 (0, 0))))
  case atStart => exact ⟨0, Nat.zero_le _, rfl, rfl, rfl, H3, Z3⟩
  case round =>
    obtain ⟨q, hq, rfl, rfl, rfl, H4, Z4⟩ := hrel
    clear H3 Z3
    have ew : IntKind.i64.wrap ((q : Int) + 1) = (q : Int) + 1 := by
      have := HLQ.out
      rw [IntWalk.i64_in] <;> omega
    by_cases hlt : q < L.length
    · have V4 := HV.out.below H4.out.kept
      obtain ⟨lb, lo, rfl, d1⟩ := V4.cell hlt
      have HXL := Lib.hid (show L.getD q 0 < (putq L mc ch q).length by rw [HEC.out]; exact Hhl.out q hlt)
      obtain ⟨hch1, hch2⟩ := putq_chr (c := ch) Hhl.out Hhd.out hlt
      have HQ := Lib.hid hlt
      have hi0 : (0 : Int) ≤ (q : Int) := by omega
      have hi1 : (q : Int) < (L.length : Int) := by omega
      obtain ⟨xf, xp, xn, xs, xm, xc, ex⟩ := c_eta ((putq L mc ch q).getD (L.getD q 0) noC)
      obtain ⟨⟨p0, p1, p2, p3, p4, p5⟩, _, _, _, _, _, z5⟩ := H4.out.spot HXL.out ex
      have HS := Lib.hid (show putq L mc ch (q + 1) = (putq L mc ch q).set (L.getD q 0) { (putq L mc ch q).getD (L.getD q 0) noC with c := chr mc L ch q } from rfl)
      have H5 := H4.out.setc HXL.out (chr mc L ch q)
      simp only at H5
      rw [← HS.out] at H5
      replace H5 := Lib.hid H5
      have Z5 := Lib.hid (blk_g Z4.out (gsetCell wr g (L.getD q 0 * 6 + 5) (.int .u8 ((chr mc L ch q : Nat) : Int))) (by intro e; injection e with e; have := HG.out; omega))
      rw [ex] at hch2
      simp only at hch2
      obtain ⟨c0, c1, c2, c3, c4, c5⟩ := H4.out.cells
      simp only [HEC.out] at c2
      rw [hch2] at p5
      have HXB := HXL.out
      rw [HEC.out] at HXB
      clear hlt V4 ex hch1 hch2 HS H4 Z4
      generalize chr mc L ch q = y at *
      generalize hy2 : chr mc L ch (q + 1) = y2 at *
      replace hy2 := Lib.hid hy2
      generalize L.getD q 0 = x at *
      have hx0 : (0 : Int) ≤ (x : Int) := by omega
      have hx1 : (x : Int) < (mc.length : Int) := by omega
      clear HXL HXB
      go_upto_region 5 with (fail)
      go_region
      all_goals
        have H6 := Lib.hid (H5.out.below (Below.refl _ _).drew)
        have Z6 := Lib.hid (blk Z5.out (Below.refl _ _).drew)
        clear c0 c1 c2 c3 c4 c5 p0 p1 p2 p3 p4 p5 z5 d1 H5 Z5
        generalize (wr.setCell _ _).drew = w6 at *
        go_wp2_with fail
        go_roundg (L.length + 1 - (q + 1))
        case measure => omega
        case rel => exact ⟨q + 1, HQ.out, rfl, by first | rfl | go_num, by rw [hy2.out], H6, Z6⟩
    · have hq2 : q = far s kk + 1 := by have := HLL.out; omega
      have hn0 : ¬ (q : Int) < (L.length : Int) := by omega
      rw [hq2, HPL.out] at H4
      clear hlt hq2
      generalize hld : laid s kk ch = ld at *
      replace hld := Lib.hid hld
      have HO := Lib.hid fun W hb => onward_any ⟨s.rows, s.cols, ld, (kk : Int), s.lk, s.ins⟩ (some ⟨g, 0, none⟩) vc kk W (H4.out.own.below hb).to HSL2.out (by simp only; rw [HLLE.out]; exact HL.out) (by simp only; rw [HLLE.out]; exact HK.out)
      simp only at HO
      obtain ⟨c0, c1, c2, c3, c4, c5⟩ := H4.out.cells
      simp only [HLLE.out] at HO c2
      rw [← HML.out] at HO c2
      go_wp2_with fail
      with_reducible refine (HO.out _ (Below.refl _ _)).mono ?_
      rintro e w5 ⟨rfl, hb⟩
      clear c0 c1 c2 c3 c4 c5 HO
      have H5 := Lib.hid (H4.out.below hb)
      have Z5 := Lib.hid (blk Z4.out hb)
      clear hb H4 Z4
      generalize goes ld kk = go at *
      obtain ⟨f0, f1, f2, f3, f4, f5⟩ := H5.out.free
      obtain ⟨c0, c1, c2, c3, c4, c5⟩ := H5.out.cells
      have H6 := Lib.hid (H5.out.cur (go : Int))
      have Z6 := Lib.hid (blk_g Z5.out (gsetCell w5 w.heap.size 3 (.int .i64 (go : Int))) (by intro e; injection e with e; omega))
      go_upto_region 8 with (fail)
      clear c0 c1 c2 c3 c4 c5 f0 f1 f2 f3 f4 f5 H5 Z5
      generalize w5.setCell _ _ = w6 at *
      obtain ⟨c0, c1, c2, c3, c4, c5⟩ := H6.out.cells
      obtain ⟨z0, z1, z2, z3, z4, z5⟩ := cells6 Z6.out
      obtain ⟨f0, f1, f2, f3, f4, f5⟩ := free6 Z6.out
      have SF := Lib.hid (H6.out.gave Z6.out (by have := HG.out; omega) (by omega))
      simp only at c0 c1 c2 c3 c4 c5 SF
      go_wp2_with fail
      clear z0 z1 z2 z3 z4 z5 c0 c1 c2 c3 c4 c5 f0 f1 f2 f3 f4 f5
      generalize (((((w6.setCell _ _).setCell _ _).setCell _ _).setCell _ _).setCell _ _).setCell _ _ = w9 at *
      rw [HT.out]
      exact bodyPost_ret (v := .agg #[.int .i64 s.rows, .int .i64 s.cols, .slice (some ⟨g, 0, none⟩) ld.length vc, .int .i64 (go : Int), .bool s.lk, .bool s.ins]) (results_cell_row rfl _ _ (w.heap.size + 1) 24 _ (0, 0) _ rfl SF.out.1 Tryz.underlying24 rfl (by kernel_rfl)) rfl ⟨some ⟨g, 0, none⟩, vc, rfl, SF.out.2.1, SF.out.2.2⟩
end Edt
end Go.Proofs.YtpgbnnnfeaodmaaGreatDoor
/- Package edit's calls: Type. (Written by tools/gen_edt_code.py.) -/
namespace Go.Proofs.YtpgbnnnfeaodmaaGreatDoor
open Go.RowKit Sha Six Apd Cut Err Att Grd Fld Scr
set_option linter.unusedVariables false
namespace Edt
theorem run_num (p n : Bool) (s : Int) (m : Bool) (w : World) : (Instr.field 40 (.agg #[.bool p, .bool n, .int .i64 s, .bool m]) 1).run Tryz.prog w = .ok (.bool n) w := by kernel_rfl
theorem typ_1 {s : S} {c : Nat} (h : ltr c = false) : typ s c = (s, 3, -1) := by unfold typ; rw [if_pos h]
theorem typ_2 {s : S} {c : Nat} (h : ltr c = true) (h2 : s.lk = true) : typ s c = (s, 7, -1) := by unfold typ; rw [if_neg (by rw [h]; decide), if_pos h2]
theorem typ_3 {s : S} {c : Nat} (h : ltr c = true) (h2 : s.lk = false) (h3 : open_ s.cs s.cur.toNat = false) : typ s c = (deny s, 8, s.cur) := by unfold typ; rw [if_neg (by rw [h]; decide), if_neg (by rw [h2]; decide), if_pos h3]
theorem typ_4 {s : S} {c : Nat} (h : ltr c = true) (h2 : s.lk = false) (h3 : open_ s.cs s.cur.toNat = true) (h4 : ((attrOf s.cs s.cur.toNat).n && !suits c) = true) : typ s c = (deny s, 9, s.cur) := by unfold typ; rw [if_neg (by rw [h]; decide), if_neg (by rw [h2]; decide), if_neg (by rw [h3]; decide), if_pos (by rw [suits_not]; exact h4)]
theorem typ_5 {s : S} {c : Nat} (h : ltr c = true) (h2 : s.lk = false) (h3 : open_ s.cs s.cur.toNat = true) (h4 : ((attrOf s.cs s.cur.toNat).n && !suits c) = false) (h5 : s.ins = true) (h6 : free s.cs (line s.cs s.cur.toNat) = none) : typ s c = (deny s, 10, s.cur) := by unfold typ; rw [if_neg (by rw [h]; decide), if_neg (by rw [h2]; decide), if_neg (by rw [h3]; decide), if_neg (by rw [suits_not, h4]; decide), if_pos (by rw [h5, h6]; rfl)]
theorem typ_6 {s : S} {c : Nat} (h : ltr c = true) (h2 : s.lk = false) (h3 : open_ s.cs s.cur.toNat = true) (h4 : ((attrOf s.cs s.cur.toNat).n && !suits c) = false) (h5 : (s.ins && (free s.cs (line s.cs s.cur.toNat)).isNone) = false) : typ s c = (typed s s.cur.toNat c, 0, -1) := by unfold typ; rw [if_neg (by rw [h]; decide), if_neg (by rw [h2]; decide), if_neg (by rw [h3]; decide), if_neg (by rw [suits_not, h4]; decide), if_neg (by rw [h5]; decide)]
set_option maxRecDepth 100000 in
set_option maxHeartbeats 8000000 in
theorem type_any (s : S) (ad : Option Addr) (k c : Nat) (w : World) (h : CelsIn w (.slice ad s.cs.length k) s.cs) (hr : sright s = true) (h8 : Sound s.cs) (hl : s.cs.length < 10000) (hc : c < 256) :
    Calls Tryz.prog 41 #[.agg #[.int .i64 s.rows, .int .i64 s.cols, .slice ad s.cs.length k, .int .i64 s.cur, .bool s.lk, .bool s.ins], .int .u8 (c : Int)] w fun e w' => GaveE w w' (typ s c).1 ((typ s c).2.1 : Nat) (typ s c).2.2 e := by
  obtain ⟨kk, hk1, _, hk3⟩ := cur_nat hr
  obtain ⟨r, cc, cs, cur, lk, ins⟩ := s
  simp only at *
  subst hk1
  have HP := Lib.hid (show 0 < cs.length by omega)
  have HB := Lib.hid (kept_trans (al_any w (.cells #[.int .i64 r, .int .i64 cc, .slice ad cs.length k, .int .i64 (kk : Int), .bool lk, .bool ins] 24)) (al_any _ (.cells #[.int .i64 0, .int .i64 0, .slice none 0 0, .int .i64 0, .bool false, .bool false] 24)))
  have HX := Lib.hid (heap_alloc2_old w (.cells #[.int .i64 r, .int .i64 cc, .slice ad cs.length k, .int .i64 (kk : Int), .bool lk, .bool ins] 24) (.cells #[.int .i64 0, .int .i64 0, .slice none 0 0, .int .i64 0, .bool false, .bool false] 24))
  have HZ := Lib.hid (heap_alloc2_new w (.cells #[.int .i64 r, .int .i64 cc, .slice ad cs.length k, .int .i64 (kk : Int), .bool lk, .bool ins] 24) (.cells #[.int .i64 0, .int .i64 0, .slice none 0 0, .int .i64 0, .bool false, .bool false] 24))
  have HI := Lib.hid (h.below HB.out)
  have HR := Lib.hid hr
  have H8 := Lib.hid h8
  have HL := Lib.hid hl
  have HC := Lib.hid hc
  have HK := Lib.hid hk3
  have HLN := Lib.hid fun W hb => line_any ⟨r, cc, cs, (kk : Int), lk, ins⟩ ad k kk W (HI.out.below hb) h8 hl hk3
  have HCH := Lib.hid fun W => char_any c W hc
  have HLE := Lib.hid (show (line cs kk).length ≤ cs.length by rw [line_length]; exact lineLen_le hk3)
  have e0 : ((c : Int) == 0) = (c == 0) := by rw [Bool.eq_iff_iff]; simp
  simp only at HLN
  clear h hr h8 hl hc hk3
  go_enter Tryz.func41, Tryz.ntmps41
  go_upto_region 1 with (fail)
  generalize (w.alloc _).alloc _ = w1 at *
  have hzx := Lib.hid (there_lt HZ.out)
  obtain ⟨c0, c1, c2, c3, c4, c5⟩ := cells6 HX.out
  go_wp2_with fail
  with_reducible refine (HLN.out _ (Below.refl _ _)).mono ?_
  rintro e w2 ⟨v, rfl, hv, hb⟩
  clear c0 c1 c2 c3 c4 c5
  have X2 := Lib.hid (blk HX.out hb)
  have Z2 := Lib.hid (blk HZ.out hb)
  have I2 := Lib.hid (HI.out.below hb)
  have K2 := Lib.hid (kept_trans HB.out hb)
  have HV := Lib.hid hv
  obtain ⟨va, vc, rfl⟩ := hv.form
  clear hv hb HX HZ HI HB HLN
  by_cases h1 : c = 0
  · subst h1
    have HT := Lib.hid (show typ ⟨r, cc, cs, (kk : Int), lk, ins⟩ 0 = (⟨r, cc, cs, (kk : Int), lk, ins⟩, 3, -1) from rfl)
    obtain ⟨c0, c1, c2, c3, c4, c5⟩ := cells6 X2.out
    have SF := Lib.hid (lay_E (t := (⟨r, cc, cs, (kk : Int), lk, ins⟩ : S)) Z2.out I2.out (show Err.Told w2 (.iface 48 (.int .i64 3)) 3 (-1) from .inr (.inl ⟨rfl, rfl⟩)) K2.out (show w.heap.size ≤ w.heap.size + 1 by omega) HP.out)
    obtain ⟨f0, f1, f2, f3, f4, f5⟩ := free6 Z2.out
    obtain ⟨z0, z1, z2, z3, z4, z5⟩ := cells6 Z2.out
    go_wp2_with fail
    clear c0 c1 c2 c3 c4 c5
    clear z0 z1 z2 z3 z4 z5 f0 f1 f2 f3 f4 f5
    generalize (((((w2.setCell _ _).setCell _ _).setCell _ _).setCell _ _).setCell _ _).setCell _ _ = w9 at *
    rw [HT.out]
    exact bodyPost_ret (v := .tuple #[.agg (six ad k (⟨r, cc, cs, (kk : Int), lk, ins⟩ : S)), .iface 48 (.int .i64 3)]) (results_cell_row_tmp rfl _ _ _ (w.heap.size + 1) _ rfl (run_loadVar_row w9 (w.heap.size + 1) 24 24 _ (0, 0) _ SF.out.1 Tryz.underlying24 rfl (by kernel_rfl)) _ rfl) rfl ⟨ad, k, _, rfl, SF.out.2.1, SF.out.2.2.1, fun h0 => absurd h0 (show ((3 : Nat) : Int) ≠ 0 by decide), SF.out.2.2.2⟩
  have e1 : (c == 0) = false := by simpa using h1
  rw [e1] at e0
  have HC0 := Lib.hid h1
  clear h1 e1
  cases hch : Att.char c with
  | false =>
    have HT := Lib.hid (show typ ⟨r, cc, cs, (kk : Int), lk, ins⟩ c = (⟨r, cc, cs, (kk : Int), lk, ins⟩, 3, -1) from typ_1 (by unfold ltr; rw [hch]; simp))
    rw [hch] at HCH
    clear hch
    obtain ⟨c0, c1, c2, c3, c4, c5⟩ := cells6 X2.out
    have SF := Lib.hid (lay_E (t := (⟨r, cc, cs, (kk : Int), lk, ins⟩ : S)) Z2.out I2.out (show Err.Told w2 (.iface 48 (.int .i64 3)) 3 (-1) from .inr (.inl ⟨rfl, rfl⟩)) K2.out (show w.heap.size ≤ w.heap.size + 1 by omega) HP.out)
    obtain ⟨f0, f1, f2, f3, f4, f5⟩ := free6 Z2.out
    obtain ⟨z0, z1, z2, z3, z4, z5⟩ := cells6 Z2.out
    go_wp2_with fail
    with_reducible refine (HCH.out _).mono ?_
    rintro e w3 ⟨rfl, rfl⟩
    go_wp2_with fail
    clear c0 c1 c2 c3 c4 c5
    clear z0 z1 z2 z3 z4 z5 f0 f1 f2 f3 f4 f5
    generalize (((((w2.setCell _ _).setCell _ _).setCell _ _).setCell _ _).setCell _ _).setCell _ _ = w9 at *
    rw [HT.out]
    exact bodyPost_ret (v := .tuple #[.agg (six ad k (⟨r, cc, cs, (kk : Int), lk, ins⟩ : S)), .iface 48 (.int .i64 3)]) (results_cell_row_tmp rfl _ _ _ (w.heap.size + 1) _ rfl (run_loadVar_row w9 (w.heap.size + 1) 24 24 _ (0, 0) _ SF.out.1 Tryz.underlying24 rfl (by kernel_rfl)) _ rfl) rfl ⟨ad, k, _, rfl, SF.out.2.1, SF.out.2.2.1, fun h0 => absurd h0 (show ((3 : Nat) : Int) ≠ 0 by decide), SF.out.2.2.2⟩
  | true =>
    rw [hch] at HCH
    have HLT := Lib.hid (show ltr c = true by unfold ltr; rw [hch]; simpa using HC0.out)
    have HCHR := Lib.hid hch
    clear hch
    cases lk with
    | true =>
      have HT := Lib.hid (show typ ⟨r, cc, cs, (kk : Int), true, ins⟩ c = (⟨r, cc, cs, (kk : Int), true, ins⟩, 7, -1) from typ_2 HLT.out rfl)
      obtain ⟨c0, c1, c2, c3, c4, c5⟩ := cells6 X2.out
      have SF := Lib.hid (lay_E (t := (⟨r, cc, cs, (kk : Int), true, ins⟩ : S)) Z2.out I2.out (show Err.Told w2 (.iface 48 (.int .i64 7)) 7 (-1) from .inr (.inl ⟨rfl, rfl⟩)) K2.out (show w.heap.size ≤ w.heap.size + 1 by omega) HP.out)
      obtain ⟨f0, f1, f2, f3, f4, f5⟩ := free6 Z2.out
      obtain ⟨z0, z1, z2, z3, z4, z5⟩ := cells6 Z2.out
      go_wp2_with fail
      with_reducible refine (HCH.out _).mono ?_
      rintro e w3 ⟨rfl, rfl⟩
      go_wp2_with fail
      clear c0 c1 c2 c3 c4 c5
      clear z0 z1 z2 z3 z4 z5 f0 f1 f2 f3 f4 f5
      generalize (((((w2.setCell _ _).setCell _ _).setCell _ _).setCell _ _).setCell _ _).setCell _ _ = w9 at *
      rw [HT.out]
      exact bodyPost_ret (v := .tuple #[.agg (six ad k (⟨r, cc, cs, (kk : Int), true, ins⟩ : S)), .iface 48 (.int .i64 7)]) (results_cell_row_tmp rfl _ _ _ (w.heap.size + 1) _ rfl (run_loadVar_row w9 (w.heap.size + 1) 24 24 _ (0, 0) _ SF.out.1 Tryz.underlying24 rfl (by kernel_rfl)) _ rfl) rfl ⟨ad, k, _, rfl, SF.out.2.1, SF.out.2.2.1, fun h0 => absurd h0 (show ((7 : Nat) : Int) ≠ 0 by decide), SF.out.2.2.2⟩
    | false =>
      cases ho : open_ cs kk with
      | false =>
        have HT := Lib.hid (show typ ⟨r, cc, cs, (kk : Int), false, ins⟩ c = (⟨r, cc, cs, (kk : Int), true, ins⟩, 8, (kk : Int)) from typ_3 (s := ⟨r, cc, cs, (kk : Int), false, ins⟩) HLT.out rfl ho)
        have HL0 : (line cs kk).length = 0 := by rw [line_closed ho]; rfl
        rw [HL0] at HV ⊢
        clear ho HL0
        have HD := Lib.hid (deny_any ⟨r, cc, cs, (kk : Int), false, ins⟩ ad k 8 w2 I2.out HL.out HP.out (by decide))
        simp only [GaveE, deny] at HD
        obtain ⟨c0, c1, c2, c3, c4, c5⟩ := cells6 X2.out
        go_wp2_with fail
        with_reducible refine (HCH.out _).mono ?_
        rintro e w3 ⟨rfl, rfl⟩
        go_wp2_with fail
        with_reducible refine HD.out.mono ?_
        rintro e wd ⟨da, dc, dv, rfl, hcd, htd, _, hb⟩
        have Z3 := Lib.hid (blk Z2.out hb)
        have K3 := kept_hid K2 hb
        clear c0 c1 c2 c3 c4 c5 hb HD
        have SF := Lib.hid (lay_E (t := (⟨r, cc, cs, (kk : Int), true, ins⟩ : S)) Z3.out hcd htd K3.out (show w.heap.size ≤ w.heap.size + 1 by omega) HP.out)
        obtain ⟨f0, f1, f2, f3, f4, f5⟩ := free6 Z3.out
        obtain ⟨z0, z1, z2, z3, z4, z5⟩ := cells6 Z3.out
        go_wp2_with fail
        clear z0 z1 z2 z3 z4 z5 f0 f1 f2 f3 f4 f5
        generalize (((((wd.setCell _ _).setCell _ _).setCell _ _).setCell _ _).setCell _ _).setCell _ _ = w9 at *
        rw [HT.out]
        exact bodyPost_ret (v := .tuple #[.agg (six da dc (⟨r, cc, cs, (kk : Int), true, ins⟩ : S)), dv]) (results_cell_row_tmp rfl _ _ _ (w.heap.size + 1) _ rfl (run_loadVar_row w9 (w.heap.size + 1) 24 24 _ (0, 0) _ SF.out.1 Tryz.underlying24 rfl (by kernel_rfl)) _ rfl) rfl ⟨da, dc, _, rfl, SF.out.2.1, SF.out.2.2.1, fun h0 => absurd h0 (show ((8 : Nat) : Int) ≠ 0 by decide), SF.out.2.2.2⟩
      | true =>
        have HO := Lib.hid ho
        have HLP : ¬ (line cs kk) = [] := by
          have := (lineLen_pos HK.out ho).1
          intro h
          rw [← line_length, h] at this
          exact Nat.lt_irrefl _ this
        have hl0 : (((line cs kk).length : Int) == 0) = false := by
          have := (lineLen_pos HK.out ho).1
          rw [← line_length] at this
          rw [Bool.eq_false_iff]; intro h; rw [beq_iff_eq] at h; omega
        clear ho HLP
        have HOF := Lib.hid (fof_any ⟨r, cc, cs, (kk : Int), false, ins⟩ ad k kk w2 I2.out H8.out HP.out HL.out HK.out)
        have HSU := Lib.hid fun W => suits_w c W HC.out
        have HNM := Lib.hid (suits_not c (attrOf cs kk).n)
        simp only at HOF
        generalize hat : attrOf cs kk = at_ at *
        replace hat := Lib.hid hat
        obtain ⟨tf, tp, tn, ts, tm, tc⟩ := at_
        simp only at HOF HNM
        have hfld := run_num tp tn ts tm
        obtain ⟨c0, c1, c2, c3, c4, c5⟩ := cells6 X2.out
        go_upto_region 8 with (with_reducible refine (HCH.out _).mono ?_; rintro e w3 ⟨rfl, rfl⟩)
        go_wp2_with fail
        with_reducible refine HOF.out.mono ?_
        rintro e w4 ⟨rfl, hb⟩
        have X3 := Lib.hid (blk X2.out hb)
        have Z3 := Lib.hid (blk Z2.out hb)
        have I3 := Lib.hid (I2.out.below hb)
        have V3 := Lib.hid (HV.out.below hb)
        have K3 := kept_hid K2 hb
        clear hb c0 c1 c2 c3 c4 c5 HOF X2 Z2 I2 K2 HV
        cases hns : (tn && !suits c) with
        | true =>
          have HT := Lib.hid (show typ ⟨r, cc, cs, (kk : Int), false, ins⟩ c = (⟨r, cc, cs, (kk : Int), true, ins⟩, 9, (kk : Int)) from typ_4 (s := ⟨r, cc, cs, (kk : Int), false, ins⟩) HLT.out rfl HO.out (by show ((attrOf cs kk).n && !suits c) = true; rw [hat.out]; exact hns))
          obtain ⟨rfl, hsu⟩ : tn = true ∧ suits c = false := by simpa using hns
          rw [hsu] at HSU
          clear hns hsu
          have HD := Lib.hid (deny_any ⟨r, cc, cs, (kk : Int), false, ins⟩ ad k 9 w4 I3.out HL.out HP.out (by decide))
          simp only [GaveE, deny] at HD
          obtain ⟨c0, c1, c2, c3, c4, c5⟩ := cells6 X3.out
          go_wp2_with fail
          with_reducible refine (HSU.out _).mono ?_
          rintro e w5 ⟨rfl, rfl⟩
          go_wp2_with fail
          with_reducible refine HD.out.mono ?_
          rintro e wd ⟨da, dc, dv, rfl, hcd, htd, _, hb⟩
          have Z4 := Lib.hid (blk Z3.out hb)
          have K4 := kept_hid K3 hb
          clear c0 c1 c2 c3 c4 c5 hb HD
          have SF := Lib.hid (lay_E (t := (⟨r, cc, cs, (kk : Int), true, ins⟩ : S)) Z4.out hcd htd K4.out (show w.heap.size ≤ w.heap.size + 1 by omega) HP.out)
          obtain ⟨f0, f1, f2, f3, f4, f5⟩ := free6 Z4.out
          obtain ⟨z0, z1, z2, z3, z4, z5⟩ := cells6 Z4.out
          go_wp2_with fail
          clear z0 z1 z2 z3 z4 z5 f0 f1 f2 f3 f4 f5
          generalize (((((wd.setCell _ _).setCell _ _).setCell _ _).setCell _ _).setCell _ _).setCell _ _ = w9 at *
          rw [HT.out]
          exact bodyPost_ret (v := .tuple #[.agg (six da dc (⟨r, cc, cs, (kk : Int), true, ins⟩ : S)), dv]) (results_cell_row_tmp rfl _ _ _ (w.heap.size + 1) _ rfl (run_loadVar_row w9 (w.heap.size + 1) 24 24 _ (0, 0) _ SF.out.1 Tryz.underlying24 rfl (by kernel_rfl)) _ rfl) rfl ⟨da, dc, _, rfl, SF.out.2.1, SF.out.2.2.1, fun h0 => absurd h0 (show ((9 : Nat) : Int) ≠ 0 by decide), SF.out.2.2.2⟩
        | false =>
          have HNS := Lib.hid (show ((attrOf cs kk).n && !suits c) = false by rw [hat.out]; exact hns)
          have hsplit : (tn = true ∧ suits c = true) ∨ tn = false := by cases tn <;> simp_all
          clear hns
          have HPT := Lib.hid fun W (hb : Below w4.heap.size w4 W) (u : Value) (hu : IntsIn W u (lineTo ⟨r, cc, cs, (kk : Int), false, ins⟩ kk)) => put_any ⟨r, cc, cs, (kk : Int), false, ins⟩ ad k kk c u W (I3.out.below hb) HR.out HL.out rfl HK.out HO.out HCHR.out HC.out hu
          simp only [GaveA] at HPT
          have HLP := Lib.hid (show 1 ≤ (line cs kk).length from by rw [line_length]; exact (lineLen_pos HK.out HO.out).1)
          have HCAP := Lib.hid (show (line cs kk).length ≤ vc from by obtain ⟨_, _, e, h, _⟩ := V3.out; injection e with _ _ e; omega)
          rcases hsplit with ⟨rfl, hsu⟩ | rfl
          · rw [hsu] at HSU
            clear hsu
            have hq := hat
            clear hq
            obtain ⟨c0, c1, c2, c3, c4, c5⟩ := cells6 X3.out
            go_upto_region 10 with (with_reducible refine (HSU.out _).mono ?_; rintro e w5 ⟨rfl, rfl⟩)
            clear c0 c1 c2 c3 c4 c5
            cases ins with
            | false =>
              have HT := Lib.hid (show typ ⟨r, cc, cs, (kk : Int), false, false⟩ c = (typed ⟨r, cc, cs, (kk : Int), false, false⟩ kk c, 0, -1) from typ_6 (s := ⟨r, cc, cs, (kk : Int), false, false⟩) HLT.out rfl HO.out HNS.out rfl)
              have HFAR := Lib.hid (show far ⟨r, cc, cs, (kk : Int), false, false⟩ kk = 0 from rfl)
              have ew : IntKind.i64.wrap 1 = 1 := by decide
              have ew2 : IntKind.i64.wrap (0 + 1) = 1 := by decide
              have HQL := Lib.hid (show 1 ≤ (line cs kk).length from HLP.out)
              have HU := Lib.hid fun W (hb : Below w4.heap.size w4 W) => HPT.out W hb (.slice va 1 vc) (by have := ints_h (k := 1) (V3.out.below hb) HQL.out; unfold lineTo; rw [HFAR.out]; exact this)
              have hrun : ∀ W, (Instr.slice 75 (.slice va (line cs kk).length vc) none (some (.int .i64 1)) none).run Tryz.prog W = .ok (.slice va 1 vc) W := fun W => run_hI va _ vc 1 (by have := HCAP.out; have := HQL.out; omega) W
              clear HPT
              generalize htd : typed ⟨r, cc, cs, (kk : Int), false, false⟩ kk c = td at *
              clear htd
              obtain ⟨c0, c1, c2, c3, c4, c5⟩ := cells6 X3.out
              go_upto_region 15 with (fail)
              go_still_tail 6, (by kernel_rfl)
              change wpList _ _ _ _ _ w4.drew
              go_wp2_with fail
              with_reducible refine (HU.out _ (Below.refl _ _).drew).mono ?_
              rintro e wb ⟨pa, pc, rfl, hop, hb⟩
              replace hb := kept_trans ((Below.refl w4.heap.size w4).drew) hb
              have ZB := Lib.hid (blk Z3.out hb)
              have hz3 := there_lt Z3.out
              have KB := kept_hid K3 hb
              have SF := over6 wb (w.heap.size + 1) 24 _ _ _ _ _ _ (.int .i64 td.rows) (.int .i64 td.cols) (.slice pa td.cs.length pc) (.int .i64 td.cur) (.bool td.lk) (.bool td.ins) ZB.out
              have O9 := hop.away SF.2 (by intro e; have := own_ge hop _ e; have h4 : w4.drew.heap.size = w4.heap.size := rfl; omega)
              have O9 := Lib.hid (OwnCels.mono (b := w.heap.size) O9 (by have h4 : w4.drew.heap.size = w4.heap.size := rfl; omega))
              have K9 := Lib.hid (below_grown KB.out SF.2 (show w.heap.size ≤ w.heap.size + 1 by omega))
              have Z9 := Lib.hid SF.1
              obtain ⟨f0, f1, f2, f3, f4, f5⟩ := free6 ZB.out
              obtain ⟨z0, z1, z2, z3, z4, z5⟩ := cells6 ZB.out
              clear SF hop hb hz3 c0 c1 c2 c3 c4 c5 HU hrun
              go_wp2_with fail
              clear ZB f0 f1 f2 f3 f4 f5 z0 z1 z2 z3 z4 z5
              generalize (((((wb.setCell _ _).setCell _ _).setCell _ _).setCell _ _).setCell _ _).setCell _ _ = w9 at *
              rw [HT.out]
              exact bodyPost_ret (v := .tuple #[.agg (six pa pc td), .nilIface]) (results_cell_row_tmp rfl _ _ _ (w.heap.size + 1) _ rfl (run_loadVar_row w9 (w.heap.size + 1) 24 24 _ (0, 0) _ Z9.out Tryz.underlying24 rfl (by kernel_rfl)) _ rfl) rfl ⟨pa, pc, .nilIface, rfl, O9.out.to, .inl ⟨rfl, rfl, rfl⟩, fun _ => ⟨rfl, O9.out⟩, K9.out⟩
            | true =>
              have HIX := Lib.hid (indexF_any ⟨r, cc, cs, (kk : Int), false, true⟩ ad k w.heap.size _ (line cs kk) w4 I3.out X3.out V3.out (fun x hx => line_lt HP.out hx) (by have := HLE.out; have := HL.out; omega))
              simp only at HIX
              obtain ⟨c0, c1, c2, c3, c4, c5⟩ := cells6 X3.out
              go_wp2_with fail
              with_reducible refine HIX.out.mono ?_
              rintro e w5 ⟨⟨j, rfl, hj⟩, rfl⟩
              clear c0 c1 c2 c3 c4 c5 HIX
              rcases hj with ⟨q, hf, rfl⟩ | ⟨hf, rfl⟩
              · have HT := Lib.hid (show typ ⟨r, cc, cs, (kk : Int), false, true⟩ c = (typed ⟨r, cc, cs, (kk : Int), false, true⟩ kk c, 0, -1) from typ_6 (s := ⟨r, cc, cs, (kk : Int), false, true⟩) HLT.out rfl HO.out HNS.out (by show (true && (free cs (line cs kk)).isNone) = false; rw [hf]; rfl))
                have HFAR := Lib.hid (show far ⟨r, cc, cs, (kk : Int), false, true⟩ kk = q from by show (if true = true then (free cs (line cs kk)).getD 0 else 0) = q; rw [hf]; rfl)
                have HQL := Lib.hid (show q + 1 ≤ (line cs kk).length from (free_some hf).1)
                have hq0 : decide ((q : Int) < 0) = false := by simp
                have ew : IntKind.i64.wrap ((q : Int) + 1) = (q : Int) + 1 := by
                  have := HQL.out; have := HLE.out; have := HL.out
                  rw [IntWalk.i64_in] <;> omega
                clear hf
                have HU := Lib.hid fun W (hb : Below w4.heap.size w4 W) => HPT.out W hb (.slice va (q + 1) vc) (by have := ints_h (k := (q + 1)) (V3.out.below hb) HQL.out; unfold lineTo; rw [HFAR.out]; exact this)
                have hrun : ∀ W, (Instr.slice 75 (.slice va (line cs kk).length vc) none (some (.int .i64 ((q : Int) + 1))) none).run Tryz.prog W = .ok (.slice va (q + 1) vc) W := fun W => run_hI va _ vc (q + 1) (by have := HCAP.out; have := HQL.out; omega) W
                clear HPT
                generalize htd : typed ⟨r, cc, cs, (kk : Int), false, true⟩ kk c = td at *
                clear htd
                obtain ⟨c0, c1, c2, c3, c4, c5⟩ := cells6 X3.out
                go_upto_region 15 with (fail)
                go_still_tail 6, (by kernel_rfl)
                change wpList _ _ _ _ _ w4.drew
                go_wp2_with fail
                with_reducible refine (HU.out _ (Below.refl _ _).drew).mono ?_
                rintro e wb ⟨pa, pc, rfl, hop, hb⟩
                replace hb := kept_trans ((Below.refl w4.heap.size w4).drew) hb
                have ZB := Lib.hid (blk Z3.out hb)
                have hz3 := there_lt Z3.out
                have KB := kept_hid K3 hb
                have SF := over6 wb (w.heap.size + 1) 24 _ _ _ _ _ _ (.int .i64 td.rows) (.int .i64 td.cols) (.slice pa td.cs.length pc) (.int .i64 td.cur) (.bool td.lk) (.bool td.ins) ZB.out
                have O9 := hop.away SF.2 (by intro e; have := own_ge hop _ e; have h4 : w4.drew.heap.size = w4.heap.size := rfl; omega)
                have O9 := Lib.hid (OwnCels.mono (b := w.heap.size) O9 (by have h4 : w4.drew.heap.size = w4.heap.size := rfl; omega))
                have K9 := Lib.hid (below_grown KB.out SF.2 (show w.heap.size ≤ w.heap.size + 1 by omega))
                have Z9 := Lib.hid SF.1
                obtain ⟨f0, f1, f2, f3, f4, f5⟩ := free6 ZB.out
                obtain ⟨z0, z1, z2, z3, z4, z5⟩ := cells6 ZB.out
                clear SF hop hb hz3 c0 c1 c2 c3 c4 c5 HU hrun
                go_wp2_with fail
                clear ZB f0 f1 f2 f3 f4 f5 z0 z1 z2 z3 z4 z5
                generalize (((((wb.setCell _ _).setCell _ _).setCell _ _).setCell _ _).setCell _ _).setCell _ _ = w9 at *
                rw [HT.out]
                exact bodyPost_ret (v := .tuple #[.agg (six pa pc td), .nilIface]) (results_cell_row_tmp rfl _ _ _ (w.heap.size + 1) _ rfl (run_loadVar_row w9 (w.heap.size + 1) 24 24 _ (0, 0) _ Z9.out Tryz.underlying24 rfl (by kernel_rfl)) _ rfl) rfl ⟨pa, pc, .nilIface, rfl, O9.out.to, .inl ⟨rfl, rfl, rfl⟩, fun _ => ⟨rfl, O9.out⟩, K9.out⟩
              · have HT := Lib.hid (show typ ⟨r, cc, cs, (kk : Int), false, true⟩ c = (⟨r, cc, cs, (kk : Int), true, true⟩, 10, (kk : Int)) from typ_5 (s := ⟨r, cc, cs, (kk : Int), false, true⟩) HLT.out rfl HO.out HNS.out rfl hf)
                clear hf
                have HD := Lib.hid (deny_any ⟨r, cc, cs, (kk : Int), false, true⟩ ad k 10 w4 I3.out HL.out HP.out (by decide))
                simp only [GaveE, deny] at HD
                obtain ⟨c0, c1, c2, c3, c4, c5⟩ := cells6 X3.out
                go_wp2_with fail
                with_reducible refine HD.out.mono ?_
                rintro e wd ⟨da, dc, dv, rfl, hcd, htd, _, hb⟩
                have Z4 := Lib.hid (blk Z3.out hb)
                have K4 := kept_hid K3 hb
                clear c0 c1 c2 c3 c4 c5 hb HD
                have SF := Lib.hid (lay_E (t := (⟨r, cc, cs, (kk : Int), true, true⟩ : S)) Z4.out hcd htd K4.out (show w.heap.size ≤ w.heap.size + 1 by omega) HP.out)
                obtain ⟨f0, f1, f2, f3, f4, f5⟩ := free6 Z4.out
                obtain ⟨z0, z1, z2, z3, z4, z5⟩ := cells6 Z4.out
                go_wp2_with fail
                clear z0 z1 z2 z3 z4 z5 f0 f1 f2 f3 f4 f5
                generalize (((((wd.setCell _ _).setCell _ _).setCell _ _).setCell _ _).setCell _ _).setCell _ _ = w9 at *
                rw [HT.out]
                exact bodyPost_ret (v := .tuple #[.agg (six da dc (⟨r, cc, cs, (kk : Int), true, true⟩ : S)), dv]) (results_cell_row_tmp rfl _ _ _ (w.heap.size + 1) _ rfl (run_loadVar_row w9 (w.heap.size + 1) 24 24 _ (0, 0) _ SF.out.1 Tryz.underlying24 rfl (by kernel_rfl)) _ rfl) rfl ⟨da, dc, _, rfl, SF.out.2.1, SF.out.2.2.1, fun h0 => absurd h0 (show ((10 : Nat) : Int) ≠ 0 by decide), SF.out.2.2.2⟩

          · have hq := hat
            clear hq
            obtain ⟨c0, c1, c2, c3, c4, c5⟩ := cells6 X3.out
            go_upto_region 10 with (fail)
            clear c0 c1 c2 c3 c4 c5
            cases ins with
            | false =>
              have HT := Lib.hid (show typ ⟨r, cc, cs, (kk : Int), false, false⟩ c = (typed ⟨r, cc, cs, (kk : Int), false, false⟩ kk c, 0, -1) from typ_6 (s := ⟨r, cc, cs, (kk : Int), false, false⟩) HLT.out rfl HO.out HNS.out rfl)
              have HFAR := Lib.hid (show far ⟨r, cc, cs, (kk : Int), false, false⟩ kk = 0 from rfl)
              have ew : IntKind.i64.wrap 1 = 1 := by decide
              have ew2 : IntKind.i64.wrap (0 + 1) = 1 := by decide
              have HQL := Lib.hid (show 1 ≤ (line cs kk).length from HLP.out)
              have HU := Lib.hid fun W (hb : Below w4.heap.size w4 W) => HPT.out W hb (.slice va 1 vc) (by have := ints_h (k := 1) (V3.out.below hb) HQL.out; unfold lineTo; rw [HFAR.out]; exact this)
              have hrun : ∀ W, (Instr.slice 75 (.slice va (line cs kk).length vc) none (some (.int .i64 1)) none).run Tryz.prog W = .ok (.slice va 1 vc) W := fun W => run_hI va _ vc 1 (by have := HCAP.out; have := HQL.out; omega) W
              clear HPT
              generalize htd : typed ⟨r, cc, cs, (kk : Int), false, false⟩ kk c = td at *
              clear htd
              obtain ⟨c0, c1, c2, c3, c4, c5⟩ := cells6 X3.out
              go_upto_region 15 with (fail)
              go_still_tail 6, (by kernel_rfl)
              change wpList _ _ _ _ _ w4.drew
              go_wp2_with fail
              with_reducible refine (HU.out _ (Below.refl _ _).drew).mono ?_
              rintro e wb ⟨pa, pc, rfl, hop, hb⟩
              replace hb := kept_trans ((Below.refl w4.heap.size w4).drew) hb
              have ZB := Lib.hid (blk Z3.out hb)
              have hz3 := there_lt Z3.out
              have KB := kept_hid K3 hb
              have SF := over6 wb (w.heap.size + 1) 24 _ _ _ _ _ _ (.int .i64 td.rows) (.int .i64 td.cols) (.slice pa td.cs.length pc) (.int .i64 td.cur) (.bool td.lk) (.bool td.ins) ZB.out
              have O9 := hop.away SF.2 (by intro e; have := own_ge hop _ e; have h4 : w4.drew.heap.size = w4.heap.size := rfl; omega)
              have O9 := Lib.hid (OwnCels.mono (b := w.heap.size) O9 (by have h4 : w4.drew.heap.size = w4.heap.size := rfl; omega))
              have K9 := Lib.hid (below_grown KB.out SF.2 (show w.heap.size ≤ w.heap.size + 1 by omega))
              have Z9 := Lib.hid SF.1
              obtain ⟨f0, f1, f2, f3, f4, f5⟩ := free6 ZB.out
              obtain ⟨z0, z1, z2, z3, z4, z5⟩ := cells6 ZB.out
              clear SF hop hb hz3 c0 c1 c2 c3 c4 c5 HU hrun
              go_wp2_with fail
              clear ZB f0 f1 f2 f3 f4 f5 z0 z1 z2 z3 z4 z5
              generalize (((((wb.setCell _ _).setCell _ _).setCell _ _).setCell _ _).setCell _ _).setCell _ _ = w9 at *
              rw [HT.out]
              exact bodyPost_ret (v := .tuple #[.agg (six pa pc td), .nilIface]) (results_cell_row_tmp rfl _ _ _ (w.heap.size + 1) _ rfl (run_loadVar_row w9 (w.heap.size + 1) 24 24 _ (0, 0) _ Z9.out Tryz.underlying24 rfl (by kernel_rfl)) _ rfl) rfl ⟨pa, pc, .nilIface, rfl, O9.out.to, .inl ⟨rfl, rfl, rfl⟩, fun _ => ⟨rfl, O9.out⟩, K9.out⟩
            | true =>
              have HIX := Lib.hid (indexF_any ⟨r, cc, cs, (kk : Int), false, true⟩ ad k w.heap.size _ (line cs kk) w4 I3.out X3.out V3.out (fun x hx => line_lt HP.out hx) (by have := HLE.out; have := HL.out; omega))
              simp only at HIX
              obtain ⟨c0, c1, c2, c3, c4, c5⟩ := cells6 X3.out
              go_wp2_with fail
              with_reducible refine HIX.out.mono ?_
              rintro e w5 ⟨⟨j, rfl, hj⟩, rfl⟩
              clear c0 c1 c2 c3 c4 c5 HIX
              rcases hj with ⟨q, hf, rfl⟩ | ⟨hf, rfl⟩
              · have HT := Lib.hid (show typ ⟨r, cc, cs, (kk : Int), false, true⟩ c = (typed ⟨r, cc, cs, (kk : Int), false, true⟩ kk c, 0, -1) from typ_6 (s := ⟨r, cc, cs, (kk : Int), false, true⟩) HLT.out rfl HO.out HNS.out (by show (true && (free cs (line cs kk)).isNone) = false; rw [hf]; rfl))
                have HFAR := Lib.hid (show far ⟨r, cc, cs, (kk : Int), false, true⟩ kk = q from by show (if true = true then (free cs (line cs kk)).getD 0 else 0) = q; rw [hf]; rfl)
                have HQL := Lib.hid (show q + 1 ≤ (line cs kk).length from (free_some hf).1)
                have hq0 : decide ((q : Int) < 0) = false := by simp
                have ew : IntKind.i64.wrap ((q : Int) + 1) = (q : Int) + 1 := by
                  have := HQL.out; have := HLE.out; have := HL.out
                  rw [IntWalk.i64_in] <;> omega
                clear hf
                have HU := Lib.hid fun W (hb : Below w4.heap.size w4 W) => HPT.out W hb (.slice va (q + 1) vc) (by have := ints_h (k := (q + 1)) (V3.out.below hb) HQL.out; unfold lineTo; rw [HFAR.out]; exact this)
                have hrun : ∀ W, (Instr.slice 75 (.slice va (line cs kk).length vc) none (some (.int .i64 ((q : Int) + 1))) none).run Tryz.prog W = .ok (.slice va (q + 1) vc) W := fun W => run_hI va _ vc (q + 1) (by have := HCAP.out; have := HQL.out; omega) W
                clear HPT
                generalize htd : typed ⟨r, cc, cs, (kk : Int), false, true⟩ kk c = td at *
                clear htd
                obtain ⟨c0, c1, c2, c3, c4, c5⟩ := cells6 X3.out
                go_upto_region 15 with (fail)
                go_still_tail 6, (by kernel_rfl)
                change wpList _ _ _ _ _ w4.drew
                go_wp2_with fail
                with_reducible refine (HU.out _ (Below.refl _ _).drew).mono ?_
                rintro e wb ⟨pa, pc, rfl, hop, hb⟩
                replace hb := kept_trans ((Below.refl w4.heap.size w4).drew) hb
                have ZB := Lib.hid (blk Z3.out hb)
                have hz3 := there_lt Z3.out
                have KB := kept_hid K3 hb
                have SF := over6 wb (w.heap.size + 1) 24 _ _ _ _ _ _ (.int .i64 td.rows) (.int .i64 td.cols) (.slice pa td.cs.length pc) (.int .i64 td.cur) (.bool td.lk) (.bool td.ins) ZB.out
                have O9 := hop.away SF.2 (by intro e; have := own_ge hop _ e; have h4 : w4.drew.heap.size = w4.heap.size := rfl; omega)
                have O9 := Lib.hid (OwnCels.mono (b := w.heap.size) O9 (by have h4 : w4.drew.heap.size = w4.heap.size := rfl; omega))
                have K9 := Lib.hid (below_grown KB.out SF.2 (show w.heap.size ≤ w.heap.size + 1 by omega))
                have Z9 := Lib.hid SF.1
                obtain ⟨f0, f1, f2, f3, f4, f5⟩ := free6 ZB.out
                obtain ⟨z0, z1, z2, z3, z4, z5⟩ := cells6 ZB.out
                clear SF hop hb hz3 c0 c1 c2 c3 c4 c5 HU hrun
                go_wp2_with fail
                clear ZB f0 f1 f2 f3 f4 f5 z0 z1 z2 z3 z4 z5
                generalize (((((wb.setCell _ _).setCell _ _).setCell _ _).setCell _ _).setCell _ _).setCell _ _ = w9 at *
                rw [HT.out]
                exact bodyPost_ret (v := .tuple #[.agg (six pa pc td), .nilIface]) (results_cell_row_tmp rfl _ _ _ (w.heap.size + 1) _ rfl (run_loadVar_row w9 (w.heap.size + 1) 24 24 _ (0, 0) _ Z9.out Tryz.underlying24 rfl (by kernel_rfl)) _ rfl) rfl ⟨pa, pc, .nilIface, rfl, O9.out.to, .inl ⟨rfl, rfl, rfl⟩, fun _ => ⟨rfl, O9.out⟩, K9.out⟩
              · have HT := Lib.hid (show typ ⟨r, cc, cs, (kk : Int), false, true⟩ c = (⟨r, cc, cs, (kk : Int), true, true⟩, 10, (kk : Int)) from typ_5 (s := ⟨r, cc, cs, (kk : Int), false, true⟩) HLT.out rfl HO.out HNS.out rfl hf)
                clear hf
                have HD := Lib.hid (deny_any ⟨r, cc, cs, (kk : Int), false, true⟩ ad k 10 w4 I3.out HL.out HP.out (by decide))
                simp only [GaveE, deny] at HD
                obtain ⟨c0, c1, c2, c3, c4, c5⟩ := cells6 X3.out
                go_wp2_with fail
                with_reducible refine HD.out.mono ?_
                rintro e wd ⟨da, dc, dv, rfl, hcd, htd, _, hb⟩
                have Z4 := Lib.hid (blk Z3.out hb)
                have K4 := kept_hid K3 hb
                clear c0 c1 c2 c3 c4 c5 hb HD
                have SF := Lib.hid (lay_E (t := (⟨r, cc, cs, (kk : Int), true, true⟩ : S)) Z4.out hcd htd K4.out (show w.heap.size ≤ w.heap.size + 1 by omega) HP.out)
                obtain ⟨f0, f1, f2, f3, f4, f5⟩ := free6 Z4.out
                obtain ⟨z0, z1, z2, z3, z4, z5⟩ := cells6 Z4.out
                go_wp2_with fail
                clear z0 z1 z2 z3 z4 z5 f0 f1 f2 f3 f4 f5
                generalize (((((wd.setCell _ _).setCell _ _).setCell _ _).setCell _ _).setCell _ _).setCell _ _ = w9 at *
                rw [HT.out]
                exact bodyPost_ret (v := .tuple #[.agg (six da dc (⟨r, cc, cs, (kk : Int), true, true⟩ : S)), dv]) (results_cell_row_tmp rfl _ _ _ (w.heap.size + 1) _ rfl (run_loadVar_row w9 (w.heap.size + 1) 24 24 _ (0, 0) _ SF.out.1 Tryz.underlying24 rfl (by kernel_rfl)) _ rfl) rfl ⟨da, dc, _, rfl, SF.out.2.1, SF.out.2.2.1, fun h0 => absurd h0 (show ((10 : Nat) : Int) ≠ 0 by decide), SF.out.2.2.2⟩
end Edt
end Go.Proofs.YtpgbnnnfeaodmaaGreatDoor
