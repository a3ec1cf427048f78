/- Letters of a field, by the code. Written by tools/gen_red_landed.py. -/
import Derived.Test.YtpdlpmbjhopnnaaDoorRedInp
import Derived.Test.YtpdlpmbjhopnnaaDoorRedLay
import Derived.Test.YtpdlpmbjhopnnaaDoorBunFlc
import Derived.Test.YtpdlpmbjhopnnaaDoorBunScr
import Derived.Deep.Cut
import Derived.Deep.LoopGhost
import Derived.Deep.RegionLaw
import Derived.Deep.RegionHeld3
import Derived.IntWalk
namespace Go.Proofs.YtpdlpmbjhopnnaaDoor
open Go.RowKit Sha Six Apd Cut Err Att Grd Fld
set_option linter.unusedVariables false
namespace Red
theorem cells_lt {cs : List C} (hz : 0 < cs.length) {a x : Nat} (hx : x ∈ cells cs a) : x < cs.length := by
  unfold cells cellsAt at hx
  obtain ⟨i, _, rfl⟩ := List.mem_map.1 hx
  exact on_lt hz _ _
theorem clen_le (cs : List C) (b : Int) : clen cs b ≤ cs.length := by
  unfold clen
  split
  · rename_i k h
    obtain ⟨_, h2, _⟩ := firstK_some h
    omega
  · exact Nat.le_refl _
theorem cells_few (cs : List C) (a : Nat) : (cells cs a).length ≤ cs.length := by
  unfold cells cellsAt
  rw [List.length_map, List.length_range]
  exact clen_le _ _
/-- Bytes that are new memory. -/
def GaveT (w w' : World) (ts : List Nat) (e : Ending) : Prop := ∃ va vc, e = .returned (.slice va ts.length vc) ∧ w'.ownsRow w.heap.size 5 1 (.slice va ts.length vc) ts.length (u8s ts) ∧ Below w.heap.size w w'
set_option maxRecDepth 100000 in
set_option maxHeartbeats 8000000 in
theorem letters_any (s : S) (ad : Option Addr) (k a : Nat) (w : World) (h : CelsIn w (.slice ad s.cs.length k) s.cs) (h8 : Sound s.cs) (hz : 0 < s.cs.length) (hl : s.cs.length < 10000) (ha : a < s.cs.length) :
    Calls Tryd.prog 43 #[.agg #[.int .i64 s.rows, .int .i64 s.cols, .slice ad s.cs.length k, .int .i64 s.cur, .bool s.lk, .bool s.ins], .int .i64 (a : Int)] w fun e w' => GaveT w w' (chars s.cs (cells s.cs a)) e := by
  have HL := Lib.hid hl
  have HC := Lib.hid fun W (hb : Below w.heap.size w W) => fcells_any s ad k a W (h.below hb) h8 hz hl ha
  have HM := Lib.hid fun x (hx : x ∈ cells s.cs a) => cells_lt hz hx
  have HLN := Lib.hid (cells_few s.cs a)
  have HB := Lib.hid (al_any w (.cells #[.int .i64 s.rows, .int .i64 s.cols, .slice ad s.cs.length k, .int .i64 s.cur, .bool s.lk, .bool s.ins] 24))
  have HX := Lib.hid (heap_alloc_new w (.cells #[.int .i64 s.rows, .int .i64 s.cols, .slice ad s.cs.length k, .int .i64 s.cur, .bool s.lk, .bool s.ins] 24))
  have HI := Lib.hid (h.below HB.out)
  generalize cells s.cs a = L at *
  clear h h8 hz hl ha
  go_enter Tryd.func43, Tryd.ntmps43
  go_upto_region 1 with (fail)
  generalize w.alloc _ = w1 at *
  obtain ⟨c0, c1, c2, c3, c4, c5⟩ := cells6 HX.out
  go_wp2_with fail
  with_reducible refine (HC.out _ HB.out).mono ?_
  rintro e w2 ⟨vL, rfl, hl2, hb⟩
  obtain ⟨vl, kl, rfl⟩ := hl2.form
  have V2 := Lib.hid hl2
  have X2 := Lib.hid (blk HX.out hb)
  have I2 := Lib.hid (HI.out.below hb)
  have K2 := kept_hid HB hb
  clear hb hl2 HC HX HI HB c0 c1 c2 c3 c4 c5
  go_wp2_with fail
  go_loopg [5, 13] (L.length + 1) (fun mm tt ii wr => ∃ (r : Nat) (ts : List Nat) (ta : Option Addr) (tc : Nat), r ≤ L.length ∧ mm = L.length + 1 - r ∧ ii = .int .i64 r ∧ tt = .slice ta ts.length tc ∧ Hid (ts = chars s.cs (L.take r)) ∧ Hid (ts.length ≤ r) ∧ Hid (wr.ownsRow w2.heap.size 5 1 (.slice ta ts.length tc) ts.length (u8s ts)) ∧ Hid (Below w2.heap.size w2 wr))
  case atStart => exact ⟨0, [], none, 0, Nat.zero_le _, rfl, rfl, rfl, Lib.hid rfl, Lib.hid (Nat.le_refl _), Lib.hid (own_no _ _), Lib.hid (Below.refl _ _)⟩
  case round =>
    obtain ⟨r, ts, ta, tc, hr, rfl, rfl, rfl, HTS, HTL, OT, KZ⟩ := hrel
    have ewr : IntKind.i64.wrap ((r : Int) + 1) = (r : Int) + 1 := by
      have := HL.out; have := HLN.out
      rw [IntWalk.i64_in] <;> omega
    have XZ := Lib.hid (blk X2.out KZ.out)
    have IZ := Lib.hid (I2.out.below KZ.out)
    have VZ := Lib.hid (OwnInts.below V2.out KZ.out)
    by_cases hrt : r < L.length
    · have HR := Lib.hid hrt
      have hpl := HM.out (L.getD r 0) (by rw [List.getD_eq_getElem?_getD, List.getElem?_eq_getElem hrt]; exact List.getElem_mem hrt)
      have HST2 := chars_step s.cs L hrt
      rw [← HTS.out] at HST2
      obtain ⟨u, e1, hu1, hu2, du, _⟩ := OwnInts.cell VZ.out hrt
      subst e1
      rw [Nat.zero_add] at du
      generalize L.getD r 0 = pl at *
      have hi0 : (0 : Int) ≤ (r : Int) := by omega
      have hi1 : (r : Int) < (L.length : Int) := by omega
      have hj0 : (0 : Int) ≤ (pl : Int) := by omega
      have hj1 : (pl : Int) < (s.cs.length : Int) := by omega
      obtain ⟨zf, zp, zn, zs, zm, zc, ez⟩ := c_eta (s.cs.getD pl noC)
      obtain ⟨b2, o2, rfl, q0, q1, q2, q3, q4, q5⟩ := IZ.out.cells hpl ez
      rw [ez] at HST2
      obtain ⟨c0, c1, c2, c3, c4, c5⟩ := cells6 XZ.out
      by_cases h0 : zc = 0
      · subst h0
        have HSR := Lib.hid (show ts = chars s.cs (L.take (r + 1)) from by rw [HST2, if_neg (by simp)])
        clear HST2 ez hpl HTS hrt hr
        go_wp2_with fail
        go_roundg (L.length + 1 - (r + 1))
        case measure => have := HR.out; omega
        case rel => exact ⟨r + 1, ts, ta, tc, HR.out, rfl, by first | rfl | go_num, rfl, HSR, Lib.hid (Nat.le_succ_of_le HTL.out), OT, KZ⟩
      · have hz0 : ((zc : Int) != 0) = true := by simp; omega
        have HSR := Lib.hid (show ts ++ [zc] = chars s.cs (L.take (r + 1)) from by rw [HST2, if_pos (by simpa using h0)])
        clear HST2 ez hpl HTS h0 hrt hr
        have HA := al_any wr (.cells (u8s [zc]).toArray 5)
        have KS := Lib.hid (kept_trans KZ.out HA)
        have OS := Lib.hid (own_below OT.out HA)
        have LT := Lib.hid (lit_in wr [zc])
        have HG := Lib.hid (own_ge OS.out)
        have HWB := Lib.hid (show ts.length < 100000 from by have := HTL.out; have := HL.out; have := HR.out; have := HLN.out; omega)
        have HLS := Lib.hid (show w2.heap.size ≤ (wr.alloc (.cells (u8s [zc]).toArray 5)).heap.size from KS.out.size)
        clear HA OT
        go_wp2_with (at_builtin; refine wpList_mark ?_)
        refine Lib.hid ?_
        refine append_own rfl (.tmp 25) (.tmp 27) rfl w2.heap.size (.slice ta ts.length tc) ts.length (u8s ts) rfl OS.out (some ⟨wr.heap.size, 0, none⟩) 1 1 [zc] rfl rfl nofun (bytes_src LT.out) (by have := HWB.out; omega) HLS.out ?_
        intro v' wA hown hgr _
        have OA := Lib.hid (show wA.ownsRow w2.heap.size 5 1 v' (ts ++ [zc]).length (u8s (ts ++ [zc])) from by
          rw [List.length_append]
          have e : u8s (ts ++ [zc]) = u8s ts ++ u8s [zc] := by simp [u8s]
          rw [e]
          exact hown)
        have KA := Lib.hid (KS.out.grown hgr KS.out.size HG.out)
        obtain ⟨v7, k7, rfl⟩ := own_form OA.out
        clear hown hgr OS KS LT HG HLS XZ IZ VZ c0 c1 c2 c3 c4 c5 q0 q1 q2 q3 q4 q5 du hz0
        go_wp2_with fail
        go_roundg (L.length + 1 - (r + 1))
        case measure => have := HR.out; omega
        case rel => exact ⟨r + 1, ts ++ [zc], v7, k7, HR.out, rfl, by first | rfl | go_num, by rw [List.length_append]; first | rfl | simp, HSR, Lib.hid (by rw [List.length_append]; have := HTL.out; simp only [List.length_cons, List.length_nil]; omega), OA, KA⟩
    · obtain rfl : r = L.length := by omega
      have hn0 : ¬ (L.length : Int) < (L.length : Int) := by omega
      rw [List.take_length] at HTS
      have KF := kept_hid K2 KZ.out
      clear hrt hr
      go_wp2_with fail
      go_ret
      rw [← HTS.out]
      exact ⟨ta, tc, rfl, own_mono OT.out K2.out.size, KF.out⟩
theorem flds_lit (w : World) (f : Inp.F) (ta : Option Addr) (tn tc base : Nat) (hb : base ≤ w.heap.size) (ht : w.ownsRow base 5 1 (.slice ta tn tc) tn (u8s f.t)) : Inp.OwnFlds (w.alloc (.cells (Inp.fcells f (.slice ta tn tc)).toArray 53)) base (.slice (some ⟨w.heap.size, 0, none⟩) 1 1) [f] := by
  refine ⟨Inp.fcells f (.slice ta tn tc), ?_, nofun, fun i hi => ?_⟩
  · have := World.ownsRow_lit (base := base) (e := 53) (size := 2) w (Inp.fcells f (.slice ta tn tc)).toArray 1 hb (by unfold maxLen; omega) (by simp [Inp.fcells])
    simpa using this
  · have hi0 : i = 0 := by simp at hi; omega
    subst hi0
    exact ⟨ta, tn, tc, fun j u hj => by simpa using hj, own_below ht (al_any _ _)⟩
/-- Fields that are new memory. -/
def GaveF (w w' : World) (fs : List Inp.F) (e : Ending) : Prop := ∃ va vc, e = .returned (.slice va fs.length vc) ∧ Inp.OwnFlds w' w.heap.size (.slice va fs.length vc) fs ∧ Below w.heap.size w w'
set_option maxRecDepth 100000 in
set_option maxHeartbeats 8000000 in
theorem whole_any (s : S) (ad : Option Addr) (k : Nat) (w : World) (h : CelsIn w (.slice ad s.cs.length k) s.cs) (h8 : Sound s.cs) (hr : sright s = true) (hl : s.cs.length < 10000) (hf : fmt s.cs = false) :
    Calls Tryd.prog 25 #[.agg #[.int .i64 s.rows, .int .i64 s.cols, .slice ad s.cs.length k, .int .i64 s.cur, .bool s.lk, .bool s.ins]] w fun e w' => GaveF w w' (alone s.cs) e := by
  have hz : 0 < s.cs.length := by obtain ⟨h1, _⟩ := sright_parts hr; omega
  have Q := Lib.hid fun W (hb : Below w.heap.size w W) => letters_any s ad k 0 W (h.below hb) h8 hz hl hz
  rw [whole_letters hr hf] at Q
  simp only [GaveT, show ((0 : Nat) : Int) = 0 from rfl] at Q
  have HAL := Lib.hid (show alone s.cs = if lettersAll s.cs = [] then [] else [⟨-1, lettersAll s.cs⟩] from rfl)
  have HB := Lib.hid (al_any w (.cells #[.int .i64 s.rows, .int .i64 s.cols, .slice ad s.cs.length k, .int .i64 s.cur, .bool s.lk, .bool s.ins] 24))
  have HX := Lib.hid (heap_alloc_new w (.cells #[.int .i64 s.rows, .int .i64 s.cols, .slice ad s.cs.length k, .int .i64 s.cur, .bool s.lk, .bool s.ins] 24))
  generalize lettersAll s.cs = L at *
  clear h h8 hz hl hr hf
  go_enter Tryd.func25, Tryd.ntmps25
  go_upto_region 1 with (fail)
  generalize w.alloc _ = w1 at *
  obtain ⟨c0, c1, c2, c3, c4, c5⟩ := cells6 HX.out
  go_wp2_with fail
  with_reducible refine (Q.out _ HB.out).mono ?_
  rintro e w2 ⟨va, vc, rfl, ho, hb⟩
  have O2 := Lib.hid ho
  have K2 := kept_hid HB hb
  clear ho hb HX c0 c1 c2 c3 c4 c5 Q
  cases L with
  | nil =>
    simp only [if_true] at HAL
    go_wp2_with fail
    go_ret
    rw [HAL.out]
    exact ⟨none, 0, rfl, Inp.ownFlds_nil _ _, K2.out⟩
  | cons x xs =>
    have HAL := Lib.hid (show alone s.cs = [⟨-1, x :: xs⟩] from by rw [HAL.out, if_neg nofun])
    have hn : (((x :: xs).length : Nat) : Int) ≠ 0 := by simp; omega
    generalize x :: xs = L at *
    have OF := Lib.hid (flds_lit w2 ⟨-1, L⟩ va L.length vc w.heap.size K2.out.size (own_mono O2.out HB.out.size))
    have KF := kept_alloc K2 (.cells (Inp.fcells ⟨-1, L⟩ (.slice va L.length vc)).toArray 53)
    have hb0 : ((L.length : Int) == 0) = false := by simpa using hn
    go_wp2_with fail
    go_ret
    rw [HAL.out]
    exact ⟨_, _, rfl, OF.out, KF.out⟩
end Red
end Go.Proofs.YtpdlpmbjhopnnaaDoor
