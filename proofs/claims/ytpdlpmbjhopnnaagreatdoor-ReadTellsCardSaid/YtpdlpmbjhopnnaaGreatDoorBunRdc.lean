/- RedLet, RedFls, RedCell, RedImc, RedCode, RedRep in one text (by tools/bundle.py). -/
import Derived.Test.YtpdlpmbjhopnnaaGreatDoorBunRdm
import Derived.Test.YtpdlpmbjhopnnaaGreatDoorBunRdp
import Derived.Test.YtpdlpmbjhopnnaaGreatDoorBunFlc
import Derived.Test.YtpdlpmbjhopnnaaGreatDoorBunScr
import Derived.Deep.Cut
import Derived.Deep.LoopGhost
import Derived.Deep.RegionLaw
import Derived.Deep.RegionHeld3
import Derived.IntWalk
import Derived.Test.YtpdlpmbjhopnnaaGreatDoorBunInp
import Derived.Test.YtpdlpmbjhopnnaaGreatDoorBunGrd
import Derived.Test.YtpdlpmbjhopnnaaGreatDoorBunLow
import Derived.Test.YtpdlpmbjhopnnaaGreatDoorBunLow
import Derived.Test.YtpdlpmbjhopnnaaGreatDoorBunStr
/- Letters of a field, by the code. Written by tools/gen_red_landed.py. -/
namespace Go.Proofs.YtpdlpmbjhopnnaaGreatDoor
open Go.RowKit Sha Six Apd Cut Err Att Grd Fld
set_option linter.unusedVariables false
namespace Red
theorem cells_lt {cs : List C} (hz : 0 < cs.length) {a x : Nat} (hx : x ∈ cells cs a) : x < cs.length := by
  unfold cells cellsAt at hx
  obtain ⟨i, _, rfl⟩ := List.mem_map.1 hx
  exact on_lt hz _ _
theorem clen_le (cs : List C) (b : Int) : clen cs b ≤ cs.length := by
  unfold clen
  split
  · rename_i k h
    obtain ⟨_, h2, _⟩ := firstK_some h
    omega
  · exact Nat.le_refl _
theorem cells_few (cs : List C) (a : Nat) : (cells cs a).length ≤ cs.length := by
  unfold cells cellsAt
  rw [List.length_map, List.length_range]
  exact clen_le _ _
/-- Bytes that are new memory. -/
def GaveT (w w' : World) (ts : List Nat) (e : Ending) : Prop := ∃ va vc, e = .returned (.slice va ts.length vc) ∧ w'.ownsRow w.heap.size 5 1 (.slice va ts.length vc) ts.length (u8s ts) ∧ Below w.heap.size w w'
set_option maxRecDepth 100000 in
set_option maxHeartbeats 8000000 in
theorem letters_any (s : S) (ad : Option Addr) (k a : Nat) (w : World) (h : CelsIn w (.slice ad s.cs.length k) s.cs) (h8 : Sound s.cs) (hz : 0 < s.cs.length) (hl : s.cs.length < 10000) (ha : a < s.cs.length) :
    Calls Tryz.prog 96 #[.agg #[.int .i64 s.rows, .int .i64 s.cols, .slice ad s.cs.length k, .int .i64 s.cur, .bool s.lk, .bool s.ins], .int .i64 (a : Int)] w fun e w' => GaveT w w' (chars s.cs (cells s.cs a)) e := by
  have HL := Lib.hid hl
  have HC := Lib.hid fun W (hb : Below w.heap.size w W) => fcells_any s ad k a W (h.below hb) h8 hz hl ha
  have HM := Lib.hid fun x (hx : x ∈ cells s.cs a) => cells_lt hz hx
  have HLN := Lib.hid (cells_few s.cs a)
  have HB := Lib.hid (al_any w (.cells #[.int .i64 s.rows, .int .i64 s.cols, .slice ad s.cs.length k, .int .i64 s.cur, .bool s.lk, .bool s.ins] 24))
  have HX := Lib.hid (heap_alloc_new w (.cells #[.int .i64 s.rows, .int .i64 s.cols, .slice ad s.cs.length k, .int .i64 s.cur, .bool s.lk, .bool s.ins] 24))
  have HI := Lib.hid (h.below HB.out)
  generalize cells s.cs a = L at *
  clear h h8 hz hl ha
  go_enter Tryz.func96, Tryz.ntmps96
  go_upto_region 1 with (fail)
  generalize w.alloc _ = w1 at *
  obtain ⟨c0, c1, c2, c3, c4, c5⟩ := cells6 HX.out
  go_wp2_with fail
  with_reducible refine (HC.out _ HB.out).mono ?_
  rintro e w2 ⟨vL, rfl, hl2, hb⟩
  obtain ⟨vl, kl, rfl⟩ := hl2.form
  have V2 := Lib.hid hl2
  have X2 := Lib.hid (blk HX.out hb)
  have I2 := Lib.hid (HI.out.below hb)
  have K2 := kept_hid HB hb
  clear hb hl2 HC HX HI HB c0 c1 c2 c3 c4 c5
  go_wp2_with fail
  go_loopg [5, 13] (L.length + 1) (fun mm tt ii wr => ∃ (r : Nat) (ts : List Nat) (ta : Option Addr) (tc : Nat), r ≤ L.length ∧ mm = L.length + 1 - r ∧ ii = .int .i64 r ∧ tt = .slice ta ts.length tc ∧ Hid (ts = chars s.cs (L.take r)) ∧ Hid (ts.length ≤ r) ∧ Hid (wr.ownsRow w2.heap.size 5 1 (.slice ta ts.length tc) ts.length (u8s ts)) ∧ Hid (Below w2.heap.size w2 wr))
  case atStart => exact ⟨0, [], none, 0, Nat.zero_le _, rfl, rfl, rfl, Lib.hid rfl, Lib.hid (Nat.le_refl _), Lib.hid (own_no _ _), Lib.hid (Below.refl _ _)⟩
  case round =>
    obtain ⟨r, ts, ta, tc, hr, rfl, rfl, rfl, HTS, HTL, OT, KZ⟩ := hrel
    have ewr : IntKind.i64.wrap ((r : Int) + 1) = (r : Int) + 1 := by
      have := HL.out; have := HLN.out
      rw [IntWalk.i64_in] <;> omega
    have XZ := Lib.hid (blk X2.out KZ.out)
    have IZ := Lib.hid (I2.out.below KZ.out)
    have VZ := Lib.hid (OwnInts.below V2.out KZ.out)
    by_cases hrt : r < L.length
    · have HR := Lib.hid hrt
      have hpl := HM.out (L.getD r 0) (by rw [List.getD_eq_getElem?_getD, List.getElem?_eq_getElem hrt]; exact List.getElem_mem hrt)
      have HST2 := chars_step s.cs L hrt
      rw [← HTS.out] at HST2
      obtain ⟨u, e1, hu1, hu2, du, _⟩ := OwnInts.cell VZ.out hrt
      subst e1
      rw [Nat.zero_add] at du
      generalize L.getD r 0 = pl at *
      have hi0 : (0 : Int) ≤ (r : Int) := by omega
      have hi1 : (r : Int) < (L.length : Int) := by omega
      have hj0 : (0 : Int) ≤ (pl : Int) := by omega
      have hj1 : (pl : Int) < (s.cs.length : Int) := by omega
      obtain ⟨zf, zp, zn, zs, zm, zc, ez⟩ := c_eta (s.cs.getD pl noC)
      obtain ⟨b2, o2, rfl, q0, q1, q2, q3, q4, q5⟩ := IZ.out.cells hpl ez
      rw [ez] at HST2
      obtain ⟨c0, c1, c2, c3, c4, c5⟩ := cells6 XZ.out
      by_cases h0 : zc = 0
      · subst h0
        have HSR := Lib.hid (show ts = chars s.cs (L.take (r + 1)) from by rw [HST2, if_neg (by simp)])
        clear HST2 ez hpl HTS hrt hr
        go_wp2_with fail
        go_roundg (L.length + 1 - (r + 1))
        case measure => have := HR.out; omega
        case rel => exact ⟨r + 1, ts, ta, tc, HR.out, rfl, by first | rfl | go_num, rfl, HSR, Lib.hid (Nat.le_succ_of_le HTL.out), OT, KZ⟩
      · have hz0 : ((zc : Int) != 0) = true := by simp; omega
        have HSR := Lib.hid (show ts ++ [zc] = chars s.cs (L.take (r + 1)) from by rw [HST2, if_pos (by simpa using h0)])
        clear HST2 ez hpl HTS h0 hrt hr
        have HA := al_any wr (.cells (u8s [zc]).toArray 5)
        have KS := Lib.hid (kept_trans KZ.out HA)
        have OS := Lib.hid (own_below OT.out HA)
        have LT := Lib.hid (lit_in wr [zc])
        have HG := Lib.hid (own_ge OS.out)
        have HWB := Lib.hid (show ts.length < 100000 from by have := HTL.out; have := HL.out; have := HR.out; have := HLN.out; omega)
        have HLS := Lib.hid (show w2.heap.size ≤ (wr.alloc (.cells (u8s [zc]).toArray 5)).heap.size from KS.out.size)
        clear HA OT
        go_wp2_with (at_builtin; refine wpList_mark ?_)
        refine Lib.hid ?_
        refine append_own rfl (.tmp 25) (.tmp 27) rfl w2.heap.size (.slice ta ts.length tc) ts.length (u8s ts) rfl OS.out (some ⟨wr.heap.size, 0, none⟩) 1 1 [zc] rfl rfl nofun (bytes_src LT.out) (by have := HWB.out; omega) HLS.out ?_
        intro v' wA hown hgr _
        have OA := Lib.hid (show wA.ownsRow w2.heap.size 5 1 v' (ts ++ [zc]).length (u8s (ts ++ [zc])) from by
          rw [List.length_append]
          have e : u8s (ts ++ [zc]) = u8s ts ++ u8s [zc] := by simp [u8s]
          rw [e]
          exact hown)
        have KA := Lib.hid (KS.out.grown hgr KS.out.size HG.out)
        obtain ⟨v7, k7, rfl⟩ := own_form OA.out
        clear hown hgr OS KS LT HG HLS XZ IZ VZ c0 c1 c2 c3 c4 c5 q0 q1 q2 q3 q4 q5 du hz0
        go_wp2_with fail
        go_roundg (L.length + 1 - (r + 1))
        case measure => have := HR.out; omega
        case rel => exact ⟨r + 1, ts ++ [zc], v7, k7, HR.out, rfl, by first | rfl | go_num, by rw [List.length_append]; first | rfl | simp, HSR, Lib.hid (by rw [List.length_append]; have := HTL.out; simp only [List.length_cons, List.length_nil]; omega), OA, KA⟩
    · obtain rfl : r = L.length := by omega
      have hn0 : ¬ (L.length : Int) < (L.length : Int) := by omega
      rw [List.take_length] at HTS
      have KF := kept_hid K2 KZ.out
      clear hrt hr
      go_wp2_with fail
      go_ret
      rw [← HTS.out]
      exact ⟨ta, tc, rfl, own_mono OT.out K2.out.size, KF.out⟩
theorem flds_lit (w : World) (f : Inp.F) (ta : Option Addr) (tn tc base : Nat) (hb : base ≤ w.heap.size) (ht : w.ownsRow base 5 1 (.slice ta tn tc) tn (u8s f.t)) : Inp.OwnFlds (w.alloc (.cells (Inp.fcells f (.slice ta tn tc)).toArray 67)) base (.slice (some ⟨w.heap.size, 0, none⟩) 1 1) [f] := by
  refine ⟨Inp.fcells f (.slice ta tn tc), ?_, nofun, fun i hi => ?_⟩
  · have := World.ownsRow_lit (base := base) (e := 67) (size := 2) w (Inp.fcells f (.slice ta tn tc)).toArray 1 hb (by unfold maxLen; omega) (by simp [Inp.fcells])
    simpa using this
  · have hi0 : i = 0 := by simp at hi; omega
    subst hi0
    exact ⟨ta, tn, tc, fun j u hj => by simpa using hj, own_below ht (al_any _ _)⟩
/-- Fields that are new memory. -/
def GaveF (w w' : World) (fs : List Inp.F) (e : Ending) : Prop := ∃ va vc, e = .returned (.slice va fs.length vc) ∧ Inp.OwnFlds w' w.heap.size (.slice va fs.length vc) fs ∧ Below w.heap.size w w'
set_option maxRecDepth 100000 in
set_option maxHeartbeats 8000000 in
theorem whole_any (s : S) (ad : Option Addr) (k : Nat) (w : World) (h : CelsIn w (.slice ad s.cs.length k) s.cs) (h8 : Sound s.cs) (hr : sright s = true) (hl : s.cs.length < 10000) (hf : fmt s.cs = false) :
    Calls Tryz.prog 52 #[.agg #[.int .i64 s.rows, .int .i64 s.cols, .slice ad s.cs.length k, .int .i64 s.cur, .bool s.lk, .bool s.ins]] w fun e w' => GaveF w w' (alone s.cs) e := by
  have hz : 0 < s.cs.length := by obtain ⟨h1, _⟩ := sright_parts hr; omega
  have Q := Lib.hid fun W (hb : Below w.heap.size w W) => letters_any s ad k 0 W (h.below hb) h8 hz hl hz
  rw [whole_letters hr hf] at Q
  simp only [GaveT, show ((0 : Nat) : Int) = 0 from rfl] at Q
  have HAL := Lib.hid (show alone s.cs = if lettersAll s.cs = [] then [] else [⟨-1, lettersAll s.cs⟩] from rfl)
  have HB := Lib.hid (al_any w (.cells #[.int .i64 s.rows, .int .i64 s.cols, .slice ad s.cs.length k, .int .i64 s.cur, .bool s.lk, .bool s.ins] 24))
  have HX := Lib.hid (heap_alloc_new w (.cells #[.int .i64 s.rows, .int .i64 s.cols, .slice ad s.cs.length k, .int .i64 s.cur, .bool s.lk, .bool s.ins] 24))
  generalize lettersAll s.cs = L at *
  clear h h8 hz hl hr hf
  go_enter Tryz.func52, Tryz.ntmps52
  go_upto_region 1 with (fail)
  generalize w.alloc _ = w1 at *
  obtain ⟨c0, c1, c2, c3, c4, c5⟩ := cells6 HX.out
  go_wp2_with fail
  with_reducible refine (Q.out _ HB.out).mono ?_
  rintro e w2 ⟨va, vc, rfl, ho, hb⟩
  have O2 := Lib.hid ho
  have K2 := kept_hid HB hb
  clear ho hb HX c0 c1 c2 c3 c4 c5 Q
  cases L with
  | nil =>
    simp only [if_true] at HAL
    go_wp2_with fail
    go_ret
    rw [HAL.out]
    exact ⟨none, 0, rfl, Inp.ownFlds_nil _ _, K2.out⟩
  | cons x xs =>
    have HAL := Lib.hid (show alone s.cs = [⟨-1, x :: xs⟩] from by rw [HAL.out, if_neg nofun])
    have hn : (((x :: xs).length : Nat) : Int) ≠ 0 := by simp; omega
    generalize x :: xs = L at *
    have OF := Lib.hid (flds_lit w2 ⟨-1, L⟩ va L.length vc w.heap.size K2.out.size (own_mono O2.out HB.out.size))
    have KF := kept_alloc K2 (.cells (Inp.fcells ⟨-1, L⟩ (.slice va L.length vc)).toArray 67)
    have hb0 : ((L.length : Int) == 0) = false := by simpa using hn
    go_wp2_with fail
    go_ret
    rw [HAL.out]
    exact ⟨_, _, rfl, OF.out, KF.out⟩
end Red
end Go.Proofs.YtpdlpmbjhopnnaaGreatDoor
/- The modified fields, by the code. Written by tools/gen_red_landed.py. -/
namespace Go.Proofs.YtpdlpmbjhopnnaaGreatDoor
open Go.RowKit Sha Six Apd Cut Err Att Grd Fld
set_option linter.unusedVariables false
namespace Red
set_option maxRecDepth 100000 in
set_option maxHeartbeats 8000000 in
theorem fields_any (s : S) (ad : Option Addr) (k : Nat) (w : World) (h : CelsIn w (.slice ad s.cs.length k) s.cs) (h8 : Sound s.cs) (hz : 0 < s.cs.length) (hl : s.cs.length < 10000) :
    Calls Tryz.prog 51 #[.agg #[.int .i64 s.rows, .int .i64 s.cols, .slice ad s.cs.length k, .int .i64 s.cur, .bool s.lk, .bool s.ins]] w fun e w' => GaveF w w' ((modBs s.cs).map (fieldOf s.cs)) e := by
  have HL := Lib.hid hl
  have HNE := Lib.hid (Scr.celsIn_lt h hz)
  have HC := Lib.hid fun W (hb : Below w.heap.size w W) => fbegins_any s ad k W (h.below hb) h8 hz hl
  have HT := Lib.hid fun W (a : Nat) (hc : CelsIn W (.slice ad s.cs.length k) s.cs) (ha : a < s.cs.length) => letters_any s ad k a W hc h8 hz hl ha
  have HO := Lib.hid fun W (a : Nat) (ha : a < s.cs.length) => on_any s.rows s.cols ad s.cs.length k s.cur s.lk s.ins (a : Int) 1 W hz (by omega) (by rw [IntWalk.i64_in] <;> omega) rfl
  have HM := Lib.hid fun r (hr : r < (begins s.cs).length) => begins_mem hr
  have HLN := Lib.hid (begins_len s.cs)
  have HFO := Lib.hid fun q (hq : q < s.cs.length) (hf : fat s.cs q = true) => (show fieldOf s.cs q = ⟨((on s.cs.length (q : Int) 1 : Nat) : Int), chars s.cs (cells s.cs q)⟩ from by rw [cells_field hq hf]; rfl)
  have HST := Lib.hid fun r (hr : r < (begins s.cs).length) => modsB_step hr
  have HEND := Lib.hid (modsB_all s.cs)
  have HB := Lib.hid (al_any w (.cells #[.int .i64 s.rows, .int .i64 s.cols, .slice ad s.cs.length k, .int .i64 s.cur, .bool s.lk, .bool s.ins] 24))
  have HX := Lib.hid (heap_alloc_new w (.cells #[.int .i64 s.rows, .int .i64 s.cols, .slice ad s.cs.length k, .int .i64 s.cur, .bool s.lk, .bool s.ins] 24))
  have HI := Lib.hid (h.below HB.out)
  generalize begins s.cs = L at *
  clear h h8 hz hl
  go_enter Tryz.func51, Tryz.ntmps51
  go_upto_region 1 with (fail)
  generalize w.alloc _ = w1 at *
  have HX1 := Lib.hid (there_lt HX.out)
  obtain ⟨c0, c1, c2, c3, c4, c5⟩ := cells6 HX.out
  go_wp2_with fail
  with_reducible refine (HC.out _ HB.out).mono ?_
  rintro e w2 ⟨vL, rfl, hl2, hb⟩
  obtain ⟨vl, kl, rfl⟩ := hl2.form
  have V2 := Lib.hid hl2
  have X2 := Lib.hid (blk HX.out hb)
  have I2 := Lib.hid (HI.out.below hb)
  have K2 := kept_hid HB hb
  clear hb hl2 HC HX HI HB c0 c1 c2 c3 c4 c5
  go_wp2_with fail
  go_loopg [3, 9] (L.length + 1) (fun mm tt ii wr => ∃ (r : Nat) (os : List Inp.F) (va : Option Addr) (vc : Nat), r ≤ L.length ∧ mm = L.length + 1 - r ∧ ii = .int .i64 r ∧ tt = .slice va os.length vc ∧ Hid (os = modsB s.cs r) ∧ Hid (os.length ≤ r) ∧ Hid (Inp.OwnFlds wr w2.heap.size (.slice va os.length vc) os) ∧ Hid (Below w2.heap.size w2 wr))
  case atStart => exact ⟨0, [], none, 0, Nat.zero_le _, rfl, rfl, rfl, Lib.hid rfl, Lib.hid (Nat.le_refl _), Lib.hid (Inp.ownFlds_nil _ _), Lib.hid (Below.refl _ _)⟩
  case round =>
    obtain ⟨r, os, va, vc, hr, rfl, rfl, rfl, HOS, HOL, OF, KZ⟩ := hrel
    have ewr : IntKind.i64.wrap ((r : Int) + 1) = (r : Int) + 1 := by
      have := HL.out; have := HLN.out
      rw [IntWalk.i64_in] <;> omega
    have XZ := Lib.hid (blk X2.out KZ.out)
    have IZ := Lib.hid (I2.out.below KZ.out)
    have VZ := Lib.hid (OwnInts.below V2.out KZ.out)
    by_cases hrt : r < L.length
    · have HR := Lib.hid hrt
      obtain ⟨hpl, hpf⟩ := HM.out r hrt
      have HS2 := HST.out r hrt
      rw [← HOS.out] at HS2
      obtain ⟨u, e1, hu1, hu2, du, _⟩ := OwnInts.cell VZ.out hrt
      subst e1
      rw [Nat.zero_add] at du
      generalize L.getD r 0 = pl at *
      rw [HFO.out pl hpl hpf] at HS2
      have HTX := Lib.hid fun W (hb : Below w2.heap.size w2 W) => HT.out W pl (I2.out.below hb) hpl
      have HON := Lib.hid fun W => HO.out W pl hpl
      simp only [GaveT] at HTX
      have hi0 : (0 : Int) ≤ (r : Int) := by omega
      have hi1 : (r : Int) < (L.length : Int) := by omega
      have hj0 : (0 : Int) ≤ (pl : Int) := by omega
      have hj1 : (pl : Int) < (s.cs.length : Int) := by omega
      obtain ⟨zf, zp, zn, zs, zm, zc, ez⟩ := c_eta (s.cs.getD pl noC)
      obtain ⟨b2, o2, rfl, q0, q1, q2, q3, q4, q5⟩ := IZ.out.cells hpl ez
      rw [ez] at HS2
      obtain ⟨c0, c1, c2, c3, c4, c5⟩ := cells6 XZ.out
      cases zm with
      | false =>
        have HSR := Lib.hid (show os = modsB s.cs (r + 1) from by rw [HS2, if_neg (by simp)])
        clear HS2 ez hpl hpf HOS hrt hr
        go_wp2_with fail
        go_roundg (L.length + 1 - (r + 1))
        case measure => have := HR.out; omega
        case rel => exact ⟨r + 1, os, va, vc, HR.out, rfl, by first | rfl | go_num, rfl, HSR, Lib.hid (Nat.le_succ_of_le HOL.out), OF, KZ⟩
      | true =>
        simp only [if_true] at HS2
        have HSR := Lib.hid (show os ++ [_] = modsB s.cs (r + 1) from HS2.symm)
        generalize on s.cs.length (pl : Int) 1 = nx at *
        generalize chars s.cs (cells s.cs pl) = ts at *
        have HOB := Lib.hid (show os.length < 1000000000 from by have := HOL.out; have := HR.out; have := HL.out; have := HLN.out; omega)
        have HG := Lib.hid (flds_ge OF.out)
        have HLR := Lib.hid (show w2.heap.size ≤ wr.heap.size from KZ.out.size)
        clear HS2 ez hpl hpf HOS hrt hr HT HO HM HFO HST
        go_upto_region 6 with (fail)
        clear q0 q1 q2 q3 q4 q5 du VZ c0 c1 c2 c3 c4 c5
        have HSX := Lib.hid (show ∀ W', Below w2.heap.size w2 W' → Below w2.heap.size w2 W' ∧ (W'.cell? ⟨w.heap.size, 0, none⟩ = some (.int .i64 s.rows) ∧ W'.cell? ⟨w.heap.size, 1, none⟩ = some (.int .i64 s.cols) ∧ W'.cell? ⟨w.heap.size, 2, none⟩ = some (.slice (some ⟨b2, o2, none⟩) s.cs.length k) ∧ W'.cell? ⟨w.heap.size, 3, none⟩ = some (.int .i64 s.cur) ∧ W'.cell? ⟨w.heap.size, 4, none⟩ = some (.bool s.lk) ∧ W'.cell? ⟨w.heap.size, 5, none⟩ = some (.bool s.ins)) from fun W' hW => ⟨hW, cells6 (blk X2.out hW)⟩)
        go_region_held3 (fun W' => Below w2.heap.size w2 W' ∧ (W'.cell? ⟨w.heap.size, 0, none⟩ = some (.int .i64 s.rows) ∧ W'.cell? ⟨w.heap.size, 1, none⟩ = some (.int .i64 s.cols) ∧ W'.cell? ⟨w.heap.size, 2, none⟩ = some (.slice (some ⟨b2, o2, none⟩) s.cs.length k) ∧ W'.cell? ⟨w.heap.size, 3, none⟩ = some (.int .i64 s.cur) ∧ W'.cell? ⟨w.heap.size, 4, none⟩ = some (.bool s.lk) ∧ W'.cell? ⟨w.heap.size, 5, none⟩ = some (.bool s.ins)))
          ((refine HSX.out _ ?_; first | with_reducible exact KZ.out.drew | with_reducible exact KZ.out | with_reducible exact hB5 | with_reducible exact (And.left (by assumption)) | with_reducible exact kept_trans (And.left (by assumption)) hbt | with_reducible exact kept_trans (And.left (by assumption)) hbo | with_reducible exact kept_trans (And.left (by assumption)) (al_any _ _)))
          (first
            | (go_at_call 89; with_reducible refine (HON.out _).mono ?_; rintro e wo ⟨rfl, hbo⟩)
            | (go_at_call 96; with_reducible refine (HTX.out _ (And.left (by assumption))).mono ?_; rintro e wt ⟨vt, kt, rfl, ht, hbt⟩)
            | (refine Inp.step_fld rfl (.tmp 20) (.tmp 28) rfl w2.heap.size (.slice va os.length vc) os rfl ?_ _ ⟨(nx : Int), ts⟩ vt ts.length kt rfl ?_ ?_ HOB.out ?_ ?_
               · first | exact OF.out.below (kept_trans (kept_trans (kept_trans (Below.refl _ wr).drew hbo) hbt) (al_any _ _)) | exact OF.out.below (kept_trans (kept_trans (kept_trans (Below.refl _ wr).drew hbt) hbo) (al_any _ _))
               · exact heap_alloc_new _ _
               · first | exact own_mono (own_below ht (al_any _ _)) (Nat.le_trans HLR.out hbo.size) | exact own_mono (own_below ht (kept_trans hbo (al_any _ _))) HLR.out
               · exact (And.left (by assumption : Below w2.heap.size w2 _ ∧ _)).size
               intro v5 w5 hown5 hgr5
               have hB5 := (And.left (by assumption : Below w2.heap.size w2 _ ∧ _)).grown hgr5 (And.left (by assumption : Below w2.heap.size w2 _ ∧ _)).size HG.out
               have hown6 := Lib.hid hown5
               obtain ⟨v7, k7, rfl⟩ := hown5.form
               clear hgr5))
        have K5 := Lib.hid (And.left (by assumption : Below w2.heap.size w2 w5 ∧ _))
        clear hB5 hown5 ht hbt hbo HSX
        go_wp2_with fail
        go_roundg (L.length + 1 - (r + 1))
        case measure => have := HR.out; omega
        case rel => exact ⟨r + 1, os ++ [⟨(nx : Int), ts⟩], v7, k7, HR.out, rfl, by first | rfl | go_num, by first | rfl | simp, HSR, Lib.hid (by rw [List.length_append]; have := HOL.out; simp only [List.length_cons, List.length_nil]; omega), hown6, K5⟩
    · obtain rfl : r = L.length := by omega
      have hn0 : ¬ (L.length : Int) < (L.length : Int) := by omega
      have KF := kept_hid K2 KZ.out
      clear hrt hr
      go_wp2_with fail
      go_ret
      rw [← HEND.out, ← HOS.out]
      exact ⟨va, vc, rfl, flds_mono OF.out K2.out.size, KF.out⟩
end Red
end Go.Proofs.YtpdlpmbjhopnnaaGreatDoor
/- withCell, by the code. Written by tools/gen_red_landed.py. -/
namespace Go.Proofs.YtpdlpmbjhopnnaaGreatDoor
open Go.RowKit Sha Six Apd Cut Err Att Grd Fld
set_option linter.unusedVariables false
namespace Red
/-- A row of orders whose last one may grow. -/
def GaveL (base : Nat) (w w' : World) (os : List Go.Proofs.YtpdlpmbjhopnnaaGreatDoor.Ord.O) (q : Go.Proofs.YtpdlpmbjhopnnaaGreatDoor.Ord.O) (e : Ending) : Prop := ∃ g vc M ta tn tc, e = .returned (.slice (some ⟨g, 0, none⟩) (os.length + 1) vc) ∧ Last w' base M (.slice (some ⟨g, 0, none⟩) (os.length + 1) vc) os q ta tn tc ∧ Below base w w'
set_option maxRecDepth 100000 in
set_option maxHeartbeats 8000000 in
theorem cell_field (os : List Go.Proofs.YtpdlpmbjhopnnaaGreatDoor.Ord.O) (q : Go.Proofs.YtpdlpmbjhopnnaaGreatDoor.Ord.O) (p n : Bool) (sh : Int) (m : Bool) (c g vc base M : Nat) (ta : Option Addr) (tn tc : Nat) (w : World) (hL : Last w base M (.slice (some ⟨g, 0, none⟩) (os.length + 1) vc) os q ta tn tc) (hn : os.length < 1000000) :
    Calls Tryz.prog 59 #[.slice (some ⟨g, 0, none⟩) (os.length + 1) vc, .agg #[.bool true, .bool p, .bool n, .int .i64 sh, .bool m, .int .u8 (c : Int)]] w fun e w' => GaveL base w w' (os ++ [q]) (startO ⟨true, p, n, sh, m, c⟩) e := by
  obtain ⟨hM1, hM2, hTB, hTX⟩ := hL.room
  obtain ⟨p0, p1, p2, p3, p4⟩ := hL.spot
  have HB := Lib.hid (al_any w (.cells #[.bool true, .bool p, .bool n, .int .i64 sh, .bool m, .int .u8 (c : Int)] 64))
  have HX := Lib.hid (heap_alloc_new w (.cells #[.bool true, .bool p, .bool n, .int .i64 sh, .bool m, .int .u8 (c : Int)] 64))
  have L1 := Lib.hid (hL.below HB.out)
  have HM2 := Lib.hid hM2
  have HM1 := Lib.hid hM1
  have HTB := Lib.hid hTB
  have HNN := Lib.hid hn
  have ew : wrap64 (os.length : Int) = (os.length : Int) := by rw [IntWalk.wrap64_in] <;> omega
  have hi0 : (0 : Int) ≤ (os.length : Int) := by omega
  have hi1 : (os.length : Int) < (os.length : Int) + 1 := by omega
  clear p0 p1 p2 p3 p4 hTX hM1 hM2 hTB hn hL
  have HA := Lib.hid fun W => al_any W (.cells #[.int .i64 2, .slice none 0 0, .bool p, .bool n, .int .i64 sh, .bool m, .int .i64 0, .int .u8 0] 76)
  go_enter Tryz.func59, Tryz.ntmps59
  go_upto_region 1 with (fail)
  generalize w.alloc _ = w1 at *
  obtain ⟨c0, c1, c2, c3, c4, c5⟩ := cells6 HX.out
  obtain ⟨p0, p1, p2, p3, p4⟩ := L1.out.spot
  have LB := Lib.hid (heap_alloc_new w1 (.cells #[.int .i64 2, .slice none 0 0, .bool p, .bool n, .int .i64 sh, .bool m, .int .i64 0, .int .u8 0] 76))
  have L2 := Lib.hid (L1.out.below (HA.out w1))
  have K2 := Lib.hid (kept_trans HB.out (HA.out w1))
  have S1 := Lib.hid (show w.heap.size ≤ (w1.alloc (.cells #[.int .i64 2, .slice none 0 0, .bool p, .bool n, .int .i64 sh, .bool m, .int .i64 0, .int .u8 0] 76)).heap.size from K2.out.size)
  clear HA
  go_wp2_with (at_builtin; refine wpList_mark ?_)
  refine Lib.hid ?_
  refine append_last rfl (.tmp 14) (.tmp 18) rfl base M w.heap.size (.slice (some ⟨g, 0, none⟩) (os.length + 1) vc) os q ta tn tc rfl L2.out HM2.out HTB.out S1.out w1.heap.size (startO ⟨true, p, n, sh, m, c⟩) none 0 0 rfl LB.out (own_no _ _) HNN.out (Nat.le_trans (Nat.le_trans HM1.out HM2.out) S1.out) ?_
  intro v' wA hown hgr
  obtain ⟨g7, k7, rfl, hg7, hg8⟩ := hown.form
  have LA := Lib.hid hown
  have KA := Lib.hid ((K2.out.mono (Nat.le_trans HM1.out HM2.out)).grown hgr (Nat.le_trans (Nat.le_trans HM1.out HM2.out) S1.out) (fun k hk => L2.out.ge k hk))
  clear hown hgr c0 c1 c2 c3 c4 c5 p0 p1 p2 p3 p4 ew
  go_wp2_with fail
  go_ret
  exact ⟨g7, k7, _, none, 0, 0, by first | rfl | simp, LA.out, KA.out⟩
set_option maxRecDepth 100000 in
set_option maxHeartbeats 8000000 in
theorem cell_new (os : List Go.Proofs.YtpdlpmbjhopnnaaGreatDoor.Ord.O) (q : Go.Proofs.YtpdlpmbjhopnnaaGreatDoor.Ord.O) (p n : Bool) (sh : Int) (m : Bool) (c g vc base M : Nat) (ta : Option Addr) (tn tc : Nat) (w : World) (hL : Last w base M (.slice (some ⟨g, 0, none⟩) (os.length + 1) vc) os q ta tn tc) (hn : os.length < 1000000) (hk : q.k ≠ 1) :
    Calls Tryz.prog 59 #[.slice (some ⟨g, 0, none⟩) (os.length + 1) vc, .agg #[.bool false, .bool p, .bool n, .int .i64 sh, .bool m, .int .u8 (c : Int)]] w fun e w' => GaveL base w w' (os ++ [q]) (textO [c]) e := by
  have hk1 : (q.k == 1) = false := by simpa using hk
  obtain ⟨hM1, hM2, hTB, hTX⟩ := hL.room
  obtain ⟨p0, p1, p2, p3, p4⟩ := hL.spot
  have HB := Lib.hid (al_any w (.cells #[.bool false, .bool p, .bool n, .int .i64 sh, .bool m, .int .u8 (c : Int)] 64))
  have HX := Lib.hid (heap_alloc_new w (.cells #[.bool false, .bool p, .bool n, .int .i64 sh, .bool m, .int .u8 (c : Int)] 64))
  have L1 := Lib.hid (hL.below HB.out)
  have HM2 := Lib.hid hM2
  have HM1 := Lib.hid hM1
  have HTB := Lib.hid hTB
  have HNN := Lib.hid hn
  have ew : wrap64 (os.length : Int) = (os.length : Int) := by rw [IntWalk.wrap64_in] <;> omega
  have hi0 : (0 : Int) ≤ (os.length : Int) := by omega
  have hi1 : (os.length : Int) < (os.length : Int) + 1 := by omega
  clear p0 p1 p2 p3 p4 hTX hM1 hM2 hTB hn hL
  have HA := Lib.hid fun W => al_any W (.cells (u8s [c]).toArray 5)
  clear hk
  go_enter Tryz.func59, Tryz.ntmps59
  go_upto_region 1 with (fail)
  generalize w.alloc _ = w1 at *
  obtain ⟨c0, c1, c2, c3, c4, c5⟩ := cells6 HX.out
  obtain ⟨p0, p1, p2, p3, p4⟩ := L1.out.spot
  have HA2 := Lib.hid (kept_trans (al_any w1 (.cells (u8s [c]).toArray 5)) (al_any (w1.alloc (.cells (u8s [c]).toArray 5)) (.cells (Str.ocells (textO [c]) (.slice (some ⟨w1.heap.size, 0, none⟩) 1 1)).toArray 76)))
  have LB := Lib.hid (heap_alloc2_new w1 (.cells (u8s [c]).toArray 5) (.cells (Str.ocells (textO [c]) (.slice (some ⟨w1.heap.size, 0, none⟩) 1 1)).toArray 76))
  have OT := Lib.hid (own_below (own_lit w1 w.heap.size [c] HB.out.size (by simp)) (al_any (w1.alloc (.cells (u8s [c]).toArray 5)) (.cells (Str.ocells (textO [c]) (.slice (some ⟨w1.heap.size, 0, none⟩) 1 1)).toArray 76)))
  have L2 := Lib.hid (L1.out.below HA2.out)
  have K2 := Lib.hid (kept_trans HB.out HA2.out)
  have S1 := Lib.hid (show w.heap.size ≤ ((w1.alloc (.cells (u8s [c]).toArray 5)).alloc (.cells (Str.ocells (textO [c]) (.slice (some ⟨w1.heap.size, 0, none⟩) 1 1)).toArray 76)).heap.size from K2.out.size)
  clear HA HA2
  go_wp2_with (at_builtin; refine wpList_mark ?_)
  refine Lib.hid ?_
  refine append_last rfl (.tmp 38) (.tmp 43) rfl base M w.heap.size (.slice (some ⟨g, 0, none⟩) (os.length + 1) vc) os q ta tn tc rfl L2.out HM2.out HTB.out S1.out (w1.heap.size + 1) (textO [c]) (some ⟨w1.heap.size, 0, none⟩) 1 1 rfl LB.out OT.out HNN.out (Nat.le_trans (Nat.le_trans HM1.out HM2.out) S1.out) ?_
  intro v' wA hown hgr
  obtain ⟨g7, k7, rfl, hg7, hg8⟩ := hown.form
  have LA := Lib.hid hown
  have KA := Lib.hid ((K2.out.mono (Nat.le_trans HM1.out HM2.out)).grown hgr (Nat.le_trans (Nat.le_trans HM1.out HM2.out) S1.out) (fun k hk => L2.out.ge k hk))
  clear hown hgr c0 c1 c2 c3 c4 c5 p0 p1 p2 p3 p4 ew hk1
  go_wp2_with fail
  go_ret
  exact ⟨g7, k7, _, _, 1, 1, by first | rfl | simp, LA.out, KA.out⟩
set_option maxRecDepth 100000 in
set_option maxHeartbeats 8000000 in
theorem cell_more (os : List Go.Proofs.YtpdlpmbjhopnnaaGreatDoor.Ord.O) (q : Go.Proofs.YtpdlpmbjhopnnaaGreatDoor.Ord.O) (p n : Bool) (sh : Int) (m : Bool) (c g vc base M : Nat) (ta : Option Addr) (tn tc : Nat) (w : World) (hL : Last w base M (.slice (some ⟨g, 0, none⟩) (os.length + 1) vc) os q ta tn tc) (hn : os.length < 1000000) (t : List Nat) (hq : q = textO t) (ht : t.length < 100000) :
    Calls Tryz.prog 59 #[.slice (some ⟨g, 0, none⟩) (os.length + 1) vc, .agg #[.bool false, .bool p, .bool n, .int .i64 sh, .bool m, .int .u8 (c : Int)]] w fun e w' => GaveL base w w' (os) (textO (t ++ [c])) e := by
  subst hq
  have HTT := Lib.hid ht
  clear ht
  obtain ⟨hM1, hM2, hTB, hTX⟩ := hL.room
  obtain ⟨p0, p1, p2, p3, p4⟩ := hL.spot
  have HB := Lib.hid (al_any w (.cells #[.bool false, .bool p, .bool n, .int .i64 sh, .bool m, .int .u8 (c : Int)] 64))
  have HX := Lib.hid (heap_alloc_new w (.cells #[.bool false, .bool p, .bool n, .int .i64 sh, .bool m, .int .u8 (c : Int)] 64))
  have L1 := Lib.hid (hL.below HB.out)
  have HM2 := Lib.hid hM2
  have HM1 := Lib.hid hM1
  have HTB := Lib.hid hTB
  have HNN := Lib.hid hn
  have ew : wrap64 (os.length : Int) = (os.length : Int) := by rw [IntWalk.wrap64_in] <;> omega
  have hi0 : (0 : Int) ≤ (os.length : Int) := by omega
  have hi1 : (os.length : Int) < (os.length : Int) + 1 := by omega
  clear p0 p1 p2 p3 p4 hTX hM1 hM2 hTB hn hL
  go_enter Tryz.func59, Tryz.ntmps59
  go_upto_region 1 with (fail)
  generalize w.alloc _ = w1 at *
  obtain ⟨c0, c1, c2, c3, c4, c5⟩ := cells6 HX.out
  obtain ⟨p0, p1, p2, p3, p4⟩ := L1.out.spot
  have hkk : ((textO t).k == 1) = true := rfl
  go_upto_region 5 with (fail)
  have HW : Below w1.heap.size w1 (w1.alloc (.cells (u8s [c]).toArray 5)).drew := (al_any w1 (.cells (u8s [c]).toArray 5)).drew
  have LW := Lib.hid (L1.out.below HW)
  have OW := Lib.hid LW.out.room.2.2.2
  have BW := Lib.hid (show BytesIn (w1.alloc (.cells (u8s [c]).toArray 5)).drew (.slice (some ⟨w1.heap.size, 0, none⟩) 1 1) [c] from bytes_below (lit_in w1 [c]) (Below.refl _ _).drew)
  have SW := Lib.hid (show M ≤ (w1.alloc (.cells (u8s [c]).toArray 5)).drew.heap.size from LW.out.room.2.1)
  have KW := Lib.hid (kept_trans HB.out HW)
  have etn : tn = t.length := by have := OW.out.1; rw [u8s_length] at this; simp only [textO] at this; omega
  have h63 : tn + 1 < 1000000 := by have := HTT.out; omega
  have tw : (w1.alloc (.cells (u8s [c]).toArray 5)).cell? ⟨g, os.length * 8 + 1, none⟩ = some (.slice ta tn tc) := (L1.out.below (al_any w1 (.cells (u8s [c]).toArray 5))).spot.2.1
  have hps : ∀ sa sn sc j u, j ≠ 1 → (Str.ocells (textO (t ++ [c])) (.slice sa sn sc))[j]? = some u → (Str.ocells (textO t) (.slice ta tn tc))[j]? = some u := by
    intro sa sn sc j u h1 h2
    rw [show Str.ocells (textO (t ++ [c])) (.slice sa sn sc) = (Str.ocells (textO t) (.slice ta tn tc)).set 1 (.slice sa sn sc) from rfl, List.getElem?_set_ne (Ne.symm h1)] at h2
    exact h2
  replace hps := Lib.hid hps
  have HGT := Lib.hid (own_ge OW.out)
  have HSP := Lib.hid LW.out.spot
  clear HW etn hkk
  have HXT := Lib.hid fun (v7 : Option Addr) (k7 : Nat) (w5 : World) (hg : World.grownBy (w1.alloc (.cells (u8s [c]).toArray 5)).drew w5 (Value.slice ta tn tc).ownBlock) (ho : w5.ownsRow M 5 1 (.slice v7 (tn + 1) k7) (tn + 1) (u8s (textO t).t ++ u8s [c])) => LW.out.text hg (p := textO (t ++ [c])) (sa := v7) (sn := tn + 1) (sc := k7) (by
    have e : u8s (textO (t ++ [c])).t = u8s (textO t).t ++ u8s [c] := by simp [u8s, textO]
    rw [e]; exact ho) (hps.out _ _ _)
  go_region_law (refine Inp.step_app8 rfl (.tmp 30) (.tmp 33) rfl M tn (u8s (textO t).t) (.slice ta tn tc) rfl OW.out ⟨_, 0, none⟩ 1 1 [c] rfl rfl BW.out h63 SW.out ?_; intro v5 w5 hown5 hgr5; obtain ⟨v7, k7, rfl⟩ := own_form hown5; have tt1 := (HXT.out _ _ _ hgr5 hown5).2.2.2.2.1; have tt2 := (HXT.out _ _ _ hgr5 hown5).2.2.2.2.2)
  all_goals
    have HF := HXT.out _ _ _ hgr5 hown5
    have LF := Lib.hid HF.1
    have KF := Lib.hid ((KW.out.mono (Nat.le_trans HM1.out HM2.out)).trans HF.2.1)
    clear HF HXT hown5 hgr5 tt1 tt2 tw LW OW BW SW KW hps HGT HSP c0 c1 c2 c3 c4 c5 p0 p1 p2 p3 p4 ew
    generalize World.setCell w5 _ _ = w6 at *
    go_wp2_with fail
    go_ret
    exact ⟨g, vc, M, v7, tn + 1, k7, by first | rfl | simp, LF.out, KF.out⟩
end Red
end Go.Proofs.YtpdlpmbjhopnnaaGreatDoor
/- Image, by the code. Written by tools/gen_red_landed.py. -/
namespace Go.Proofs.YtpdlpmbjhopnnaaGreatDoor
open Go.RowKit Sha Six Apd Cut Err Att Grd Fld
set_option linter.unusedVariables false
namespace Red
set_option maxRecDepth 100000 in
set_option maxHeartbeats 8000000 in
theorem image_any (s : S) (ad : Option Addr) (k : Nat) (w : World) (h : CelsIn w (.slice ad s.cs.length k) s.cs) (hz : 0 < s.cs.length) (hl : s.cs.length < 10000) (hr : sright s = true) :
    Calls Tryz.prog 25 #[.agg #[.int .i64 s.rows, .int .i64 s.cols, .slice ad s.cs.length k, .int .i64 s.cur, .bool s.lk, .bool s.ins]] w fun e w' => GaveO w w' (image s) e := by
  have HCN := Lib.hid (show 0 ≤ s.cur from (sright_parts hr).2.2.1)
  have HL := Lib.hid hl
  have HNE := Lib.hid (Scr.celsIn_lt h hz)
  have HB := Lib.hid (al_any w (.cells #[.int .i64 s.rows, .int .i64 s.cols, .slice ad s.cs.length k, .int .i64 s.cur, .bool s.lk, .bool s.ins] 24))
  have HX := Lib.hid (heap_alloc_new w (.cells #[.int .i64 s.rows, .int .i64 s.cols, .slice ad s.cs.length k, .int .i64 s.cur, .bool s.lk, .bool s.ins] 24))
  have HI := Lib.hid (h.below HB.out)
  have HIM := Lib.hid (show image s = setO 0 :: (runs [] s.cs ++ ((if 0 < s.cur then [setO s.cur] else []) ++ [curO])) from rfl)
  generalize image s = im at *
  clear h hl hr
  go_enter Tryz.func25, Tryz.ntmps25
  go_upto_region 1 with (fail)
  generalize w.alloc _ = w1 at *
  have HX1 := Lib.hid (there_lt HX.out)
  have HA := al_any w1 (.cells #[.int .i64 3, .slice none 0 0, .bool false, .bool false, .int .i64 0, .bool false, .int .i64 0, .int .u8 0] 76)
  have O2 := Lib.hid (show Last (w1.alloc (.cells #[.int .i64 3, .slice none 0 0, .bool false, .bool false, .int .i64 0, .bool false, .int .i64 0, .int .u8 0] 76)) (w.heap.size + 1) (w.heap.size + 1) (.slice (some ⟨w1.heap.size, 0, none⟩) 1 1) [] (setO 0) none 0 0 from last_lit w1 (setO 0) rfl (w.heap.size + 1) HX1.out)
  have X2 := Lib.hid (blk HX.out HA)
  have I2 := Lib.hid (HI.out.below HA)
  have K2 := kept_hid HB HA
  clear HA HX HI HB
  go_upto_region 2 with (fail)
  generalize w1.heap.size = g1 at *
  generalize w1.alloc _ = w2 at *
  obtain ⟨c0, c1, c2, c3, c4, c5⟩ := cells6 X2.out
  go_wp2_with fail
  clear c0 c1 c2 c3 c4 c5
  go_loopg [3, 11] (s.cs.length + 1) (fun mm vv ii wr => ∃ (r : Nat) (os : List Go.Proofs.YtpdlpmbjhopnnaaGreatDoor.Ord.O) (q : Go.Proofs.YtpdlpmbjhopnnaaGreatDoor.Ord.O) (g vc M : Nat) (ta : Option Addr) (tn tc : Nat), r ≤ s.cs.length ∧ mm = s.cs.length + 1 - r ∧ ii = .int .i64 r ∧ vv = .slice (some ⟨g, 0, none⟩) (os.length + 1) vc ∧ Hid (Last wr (w.heap.size + 1) M (.slice (some ⟨g, 0, none⟩) (os.length + 1) vc) os q ta tn tc) ∧ Hid (Laid s.cs r os q) ∧ Hid (os.length ≤ r) ∧ Hid (q.t.length ≤ r) ∧ Hid (wr.heap[w.heap.size]? = some (.cells #[.int .i64 s.rows, .int .i64 s.cols, .slice ad s.cs.length k, .int .i64 s.cur, .bool s.lk, .bool s.ins] 24 (0, 0))) ∧ Hid (CelsIn wr (.slice ad s.cs.length k) s.cs) ∧ Hid (Below w.heap.size w wr))
  case atStart => exact ⟨0, [], setO 0, g1, 1, w.heap.size + 1, none, 0, 0, Nat.zero_le _, rfl, rfl, rfl, O2, Lib.hid (laid_zero _), Lib.hid (Nat.le_refl _), Lib.hid (Nat.le_refl _), X2, I2, K2⟩
  case round =>
    obtain ⟨r, os, q, g, vc, M, ta, tn, tc, hq, rfl, rfl, rfl, OR, HLA, HO, HQT, XR, IR, KR⟩ := hrel
    clear O2 X2 I2 K2
    have ew : IntKind.i64.wrap ((r : Int) + 1) = (r : Int) + 1 := by
      have := HL.out
      rw [IntWalk.i64_in] <;> omega
    by_cases hlt : r < s.cs.length
    · have HQ := Lib.hid hlt
      have hi0 : (0 : Int) ≤ (r : Int) := by omega
      have hi1 : (r : Int) < (s.cs.length : Int) := by omega
      obtain ⟨yf, yp, yn, ys, ym, yc, ey⟩ := c_eta (s.cs.getD r noC)
      obtain ⟨b1, o1, had, g0, g1, g2, g3, g4, g5⟩ := IR.out.cells hlt ey
      have HA := al_any wr (.cells #[.bool yf, .bool yp, .bool yn, .int .i64 ys, .bool ym, .int .u8 (yc : Int)] 64)
      have LA := Lib.hid (OR.out.below HA)
      have CA := Lib.hid (heap_alloc_new wr (.cells #[.bool yf, .bool yp, .bool yn, .int .i64 ys, .bool ym, .int .u8 (yc : Int)] 64))
      have XA := Lib.hid (blk XR.out HA)
      have IA := Lib.hid (IR.out.below HA)
      have KA := kept_hid KR HA
      have HBN := Lib.hid (Nat.le_trans OR.out.room.1 (Nat.le_trans OR.out.room.2.1 HA.size))
      have HON := Lib.hid (show os.length < 1000000 from by have := HO.out; have := HQ.out; have := HL.out; omega)
      clear HA OR XR IR KR
      subst had
      go_upto_region 5 with (fail)
      clear g0 g1 g2 g3 g4 g5
      generalize wr.heap.size = cb at *
      generalize wr.alloc _ = wa at *
      obtain ⟨c0, c1, c2, c3, c4, c5⟩ := cells6 CA.out
      cases yf with
      | true =>
        have hfa : fat s.cs r = true := by unfold fat; rw [ey]
        have HC := Lib.hid (cell_field os q yp yn ys ym yc g vc (w.heap.size + 1) M ta tn tc wa LA.out HON.out)
        simp only [GaveL] at HC
        go_wp2_with fail
        with_reducible refine HC.out.mono ?_
        rintro e wz ⟨g7, k7, M7, ta7, tn7, tc7, rfl, hL7, hb⟩
        have L7 := Lib.hid hL7
        have X7 := Lib.hid (blk_b XA.out (Nat.lt_succ_self _) hb)
        have I7 := Lib.hid (celsIn_b IA.out (fun x hx => Nat.lt_succ_of_lt (HNE.out x hx)) hb)
        have K7 := Lib.hid (KA.out.trans (hb.mono (Nat.le_succ _)))
        have HLN := Lib.hid (show Laid s.cs (r + 1) (os ++ [q]) (startO ⟨true, yp, yn, ys, ym, yc⟩) from by have := laid_field HLA.out hlt hfa; rw [ey] at this; exact this)
        clear hb hL7 HC c0 c1 c2 c3 c4 c5 LA XA IA KA CA hlt hq
        go_wp2_with fail
        go_roundg (s.cs.length + 1 - (r + 1))
        case measure => have := HQ.out; omega
        case rel => exact ⟨r + 1, os ++ [q], startO ⟨true, yp, yn, ys, ym, yc⟩, g7, k7, M7, ta7, tn7, tc7, HQ.out, rfl, by first | rfl | go_num, by first | rfl | simp, L7, HLN, Lib.hid (by rw [List.length_append]; have := HO.out; simp only [List.length_cons, List.length_nil]; omega), Lib.hid (by exact Nat.zero_le _), X7, I7, K7⟩
      | false =>
        have hfa : fat s.cs r = false := by unfold fat; rw [ey]
        by_cases hk : q.k = 1
        · obtain ⟨t, rfl, hlm⟩ := laid_more HLA.out hlt hfa hk
          rw [ey] at hlm
          have HC := Lib.hid (cell_more os (textO t) yp yn ys ym yc g vc (w.heap.size + 1) M ta tn tc wa LA.out HON.out t rfl (by have h1 : t.length ≤ r := HQT.out; have := HL.out; have := HQ.out; omega))
          simp only [GaveL] at HC
          go_wp2_with fail
          with_reducible refine HC.out.mono ?_
          rintro e wz ⟨g7, k7, M7, ta7, tn7, tc7, rfl, hL7, hb⟩
          have L7 := Lib.hid hL7
          have X7 := Lib.hid (blk_b XA.out (Nat.lt_succ_self _) hb)
          have I7 := Lib.hid (celsIn_b IA.out (fun x hx => Nat.lt_succ_of_lt (HNE.out x hx)) hb)
          have K7 := Lib.hid (KA.out.trans (hb.mono (Nat.le_succ _)))
          have HLN := Lib.hid (hlm)
          clear hb hL7 HC c0 c1 c2 c3 c4 c5 LA XA IA KA CA hlt hq
          go_wp2_with fail
          go_roundg (s.cs.length + 1 - (r + 1))
          case measure => have := HQ.out; omega
          case rel => exact ⟨r + 1, os, textO (t ++ [yc]), g7, k7, M7, ta7, tn7, tc7, HQ.out, rfl, by first | rfl | go_num, by first | rfl | simp, L7, HLN, Lib.hid (by exact Nat.le_succ_of_le HO.out), Lib.hid (by show (t ++ [yc]).length ≤ r + 1; rw [List.length_append]; have : t.length ≤ r := HQT.out; simp only [List.length_cons, List.length_nil]; omega), X7, I7, K7⟩
        · have hlm := laid_new HLA.out hlt hfa hk
          rw [ey] at hlm
          have HC := Lib.hid (cell_new os q yp yn ys ym yc g vc (w.heap.size + 1) M ta tn tc wa LA.out HON.out hk)
          simp only [GaveL] at HC
          go_wp2_with fail
          with_reducible refine HC.out.mono ?_
          rintro e wz ⟨g7, k7, M7, ta7, tn7, tc7, rfl, hL7, hb⟩
          have L7 := Lib.hid hL7
          have X7 := Lib.hid (blk_b XA.out (Nat.lt_succ_self _) hb)
          have I7 := Lib.hid (celsIn_b IA.out (fun x hx => Nat.lt_succ_of_lt (HNE.out x hx)) hb)
          have K7 := Lib.hid (KA.out.trans (hb.mono (Nat.le_succ _)))
          have HLN := Lib.hid (hlm)
          clear hb hL7 HC c0 c1 c2 c3 c4 c5 LA XA IA KA CA hlt hq
          go_wp2_with fail
          go_roundg (s.cs.length + 1 - (r + 1))
          case measure => have := HQ.out; omega
          case rel => exact ⟨r + 1, os ++ [q], textO [yc], g7, k7, M7, ta7, tn7, tc7, HQ.out, rfl, by first | rfl | go_num, by first | rfl | simp, L7, HLN, Lib.hid (by rw [List.length_append]; have := HO.out; simp only [List.length_cons, List.length_nil]; omega), Lib.hid (by show [yc].length ≤ r + 1; simp), X7, I7, K7⟩
    · obtain rfl : r = s.cs.length := by omega
      have hn0 : ¬ (s.cs.length : Int) < (s.cs.length : Int) := by omega
      have HRE := Lib.hid (laid_end HLA.out)
      have OE := Lib.hid OR.out.to
      have LR := Lib.hid (Nat.le_trans OR.out.room.1 OR.out.room.2.1)
      have hle : os.length + 1 = (os ++ [q]).length := by simp
      rw [hle] at OE
      have HOL := Lib.hid (show (os ++ [q]).length < 100000 from by rw [← hle]; have := HO.out; have := HL.out; omega)
      rw [hle]
      clear OR HLA HO HQT hlt hq hle
      generalize os ++ [q] = os at *
      obtain ⟨c0, c1, c2, c3, c4, c5⟩ := cells6 XR.out
      by_cases hc : 0 < s.cur
      · have HCU := Lib.hid hc
        have hcn : (s.cur != 0) = true := by simp; omega
        have HA := al_any wr (.cells #[.int .i64 3, .slice none 0 0, .bool false, .bool false, .int .i64 0, .bool false, .int .i64 s.cur, .int .u8 0] 76)
        have KS := kept_hid KR HA
        have LS := Lib.hid (Nat.le_trans LR.out HA.size)
        have OS := Lib.hid (Str.OwnOrds.below OE.out HA)
        have LB := Lib.hid (heap_alloc_new wr (.cells #[.int .i64 3, .slice none 0 0, .bool false, .bool false, .int .i64 0, .bool false, .int .i64 s.cur, .int .u8 0] 76))
        clear HA OE
        go_wp2_with (at_builtin; refine wpList_mark ?_)
        refine Lib.hid ?_
        refine Str.append_ord rfl (.tmp 22) (.tmp 26) rfl (w.heap.size + 1) (.slice (some ⟨g, 0, none⟩) os.length vc) os rfl OS.out wr.heap.size (setO s.cur) none 0 0 rfl LB.out (own_no _ _) (by have := HOL.out; omega) LS.out ?_
        intro v' wA hown hgr
        have HG := Lib.hid (ords_ge OS.out)
        have OA := Lib.hid hown
        have KA := Lib.hid (KS.out.grown hgr KS.out.size (fun g hg => by have := HG.out _ hg; omega))
        have LA := Lib.hid (Nat.le_trans LS.out hgr.size)
        obtain ⟨v7, k7, rfl⟩ := hown.form
        have HEQ := Lib.hid (show im = (os ++ [setO s.cur]) ++ [curO] from by rw [HIM.out, HRE.out, if_pos HCU.out]; simp)
        clear hown hgr OS KS LS LB HG c0 c1 c2 c3 c4 c5 hc hcn
        generalize hos : os ++ [setO s.cur] = os2 at *
        have HOL2 := Lib.hid (show os2.length < 1000000000 from by rw [← hos, List.length_append]; have := HOL.out; simp only [List.length_cons, List.length_nil]; omega)
        clear hos
        have HA := al_any wA (.cells #[.int .i64 4, .slice none 0 0, .bool false, .bool false, .int .i64 0, .bool false, .int .i64 0, .int .u8 0] 76)
        have KS := kept_hid KA HA
        have LS := Lib.hid (Nat.le_trans LA.out HA.size)
        have OS := Lib.hid (Str.OwnOrds.below OA.out HA)
        have LB := Lib.hid (heap_alloc_new wA (.cells #[.int .i64 4, .slice none 0 0, .bool false, .bool false, .int .i64 0, .bool false, .int .i64 0, .int .u8 0] 76))
        clear HA
        go_wp2_with (at_builtin; refine wpList_mark ?_)
        refine Lib.hid ?_
        refine Str.append_ord rfl (.tmp 28) (.tmp 30) rfl (w.heap.size + 1) (.slice v7 os2.length k7) os2 rfl OS.out wA.heap.size curO none 0 0 rfl LB.out (own_no _ _) HOL2.out LS.out ?_
        intro v' wB hown hgr
        have HG := Lib.hid (ords_ge OS.out)
        have OA := Lib.hid (ords_mono hown (Nat.le_succ _))
        have KB := Lib.hid (KS.out.grown hgr KS.out.size (fun g hg => by have := HG.out _ hg; omega))
        obtain ⟨v8, k8, rfl⟩ := hown.form
        rw [← HEQ.out] at OA
        have hle : (os2 ++ [curO]).length = im.length := by rw [HEQ.out]
        clear hown hgr OS KS LS LB HG
        go_wp2_with fail
        go_ret
        exact ⟨v8, k8, by rw [← hle]; first | rfl | simp, OA.out, KB.out⟩
      · have hcn : (s.cur != 0) = false := by have := HCN.out; simp; omega
        have hi : im = os ++ [curO] := by rw [HIM.out, HRE.out, if_neg hc]; simp
        have HEQ := Lib.hid hi
        have HOL2 := Lib.hid (show os.length < 1000000000 from by have := HOL.out; omega)
        clear hi
        have HA := al_any wr (.cells #[.int .i64 4, .slice none 0 0, .bool false, .bool false, .int .i64 0, .bool false, .int .i64 0, .int .u8 0] 76)
        have KS := kept_hid KR HA
        have LS := Lib.hid (Nat.le_trans LR.out HA.size)
        have OS := Lib.hid (Str.OwnOrds.below OE.out HA)
        have LB := Lib.hid (heap_alloc_new wr (.cells #[.int .i64 4, .slice none 0 0, .bool false, .bool false, .int .i64 0, .bool false, .int .i64 0, .int .u8 0] 76))
        clear HA
        go_wp2_with (at_builtin; refine wpList_mark ?_)
        refine Lib.hid ?_
        refine Str.append_ord rfl (.tmp 28) (.tmp 30) rfl (w.heap.size + 1) (.slice (some ⟨g, 0, none⟩) os.length vc) os rfl OS.out wr.heap.size curO none 0 0 rfl LB.out (own_no _ _) HOL2.out LS.out ?_
        intro v' wB hown hgr
        have HG := Lib.hid (ords_ge OS.out)
        have OA := Lib.hid (ords_mono hown (Nat.le_succ _))
        have KB := Lib.hid (KS.out.grown hgr KS.out.size (fun g hg => by have := HG.out _ hg; omega))
        obtain ⟨v8, k8, rfl⟩ := hown.form
        rw [← HEQ.out] at OA
        have hle : (os ++ [curO]).length = im.length := by rw [HEQ.out]
        clear hown hgr OS KS LS LB HG c0 c1 c2 c3 c4 c5 hc hcn
        go_wp2_with fail
        go_ret
        exact ⟨v8, k8, by rw [← hle]; first | rfl | simp, OA.out, KB.out⟩
end Red
end Go.Proofs.YtpdlpmbjhopnnaaGreatDoor
/- Modified, by the code. Written by tools/gen_red_landed.py. -/
namespace Go.Proofs.YtpdlpmbjhopnnaaGreatDoor
open Go.RowKit Sha Six Apd Cut Err Att Grd Fld
set_option linter.unusedVariables false
namespace Red
set_option maxRecDepth 100000 in
set_option maxHeartbeats 8000000 in
theorem modified_no (s : S) (ad : Option Addr) (k c : Nat) (w : World) (h : CelsIn w (.slice ad s.cs.length k) s.cs) (hz : 0 < s.cs.length) (hl : s.cs.length < 10000) (h8 : Sound s.cs) (hr : sright s = true) (hc : c < 256) (ha : Att.aid c = false) :
    Calls Tryz.prog 20 #[.agg #[.int .i64 s.rows, .int .i64 s.cols, .slice ad s.cs.length k, .int .i64 s.cur, .bool s.lk, .bool s.ins], .int .u8 (c : Int)] w fun e w' => GaveM w w' (Inp.noneI) 3 e := by
  have HA := Lib.hid fun W => aid_any c W hc
  have HBR := Lib.hid fun W => bare_any c W hc
  have HB := Lib.hid (al_any w (.cells #[.int .i64 s.rows, .int .i64 s.cols, .slice ad s.cs.length k, .int .i64 s.cur, .bool s.lk, .bool s.ins] 24))
  have HX := Lib.hid (heap_alloc_new w (.cells #[.int .i64 s.rows, .int .i64 s.cols, .slice ad s.cs.length k, .int .i64 s.cur, .bool s.lk, .bool s.ins] 24))
  have ES : (w.alloc (.cells #[.int .i64 s.rows, .int .i64 s.cols, .slice ad s.cs.length k, .int .i64 s.cur, .bool s.lk, .bool s.ins] 24)).heap.size = w.heap.size + 1 := by simp
  rw [ha] at HA
  clear h hz hl h8 hr hc ha HBR
  go_enter Tryz.func20, Tryz.ntmps20
  go_upto_region 1 with (fail)
  generalize w.alloc _ = w1 at *
  have HD := al_any w1 (.cells #[.int .u8 0, .int .i64 0, .slice none 0 0] 46)
  have X2 := Lib.hid (blk HX.out HD)
  have Y2 := Lib.hid (heap_alloc_new w1 (.cells #[.int .u8 0, .int .i64 0, .slice none 0 0] 46))
  rw [ES] at Y2
  have K2 := kept_hid HB HD
  clear HD HX HB ES
  generalize w1.alloc _ = w2 at *
  go_wp2_with fail
  with_reducible refine (HA.out _).mono ?_
  rintro e w3 ⟨rfl, rfl⟩
  have SF := Lib.hid (over3 w2 (w.heap.size + 1) 46 _ _ _ (.int .u8 0) (.int .i64 0) (.slice none 0 0) Y2.out)
  obtain ⟨y0, y1, y2⟩ := cells3 Y2.out
  obtain ⟨f0, f1, f2⟩ := free3 Y2.out
  go_wp2_with fail
  clear y0 y1 y2 f0 f1 f2
  generalize ((w2.setCell _ _).setCell _ _).setCell _ _ = w9 at *
  exact bodyPost_ret (v := .tuple #[.agg #[.int .u8 0, .int .i64 0, .slice none 0 0], .iface 71 (.int .i64 3)]) (results_cell_row_tmp rfl _ _ _ (w.heap.size + 1) _ rfl (run_loadVar_row _ (w.heap.size + 1) 46 46 _ (0, 0) _ SF.out.1 Tryz.underlying46 rfl (by kernel_rfl)) (.iface 71 (.int .i64 3)) rfl) rfl (⟨none, 0, rfl, Inp.ownFlds_nil _ _, K2.out.grown SF.out.2 K2.out.size (by intro g hg; injection hg with hg; omega)⟩)
set_option maxRecDepth 100000 in
set_option maxHeartbeats 8000000 in
theorem modified_bare_ (s : S) (ad : Option Addr) (k c : Nat) (w : World) (h : CelsIn w (.slice ad s.cs.length k) s.cs) (hz : 0 < s.cs.length) (hl : s.cs.length < 10000) (h8 : Sound s.cs) (hr : sright s = true) (hc : c < 256) (ha : Att.aid c = true) (hb : Att.bare c = true) :
    Calls Tryz.prog 20 #[.agg #[.int .i64 s.rows, .int .i64 s.cols, .slice ad s.cs.length k, .int .i64 s.cur, .bool s.lk, .bool s.ins], .int .u8 (c : Int)] w fun e w' => GaveM w w' (⟨c, 0, []⟩) 0 e := by
  have HA := Lib.hid fun W => aid_any c W hc
  have HBR := Lib.hid fun W => bare_any c W hc
  have HB := Lib.hid (al_any w (.cells #[.int .i64 s.rows, .int .i64 s.cols, .slice ad s.cs.length k, .int .i64 s.cur, .bool s.lk, .bool s.ins] 24))
  have HX := Lib.hid (heap_alloc_new w (.cells #[.int .i64 s.rows, .int .i64 s.cols, .slice ad s.cs.length k, .int .i64 s.cur, .bool s.lk, .bool s.ins] 24))
  have ES : (w.alloc (.cells #[.int .i64 s.rows, .int .i64 s.cols, .slice ad s.cs.length k, .int .i64 s.cur, .bool s.lk, .bool s.ins] 24)).heap.size = w.heap.size + 1 := by simp
  rw [ha] at HA
  rw [hb] at HBR
  clear h hz hl h8 hr hc ha hb
  go_enter Tryz.func20, Tryz.ntmps20
  go_upto_region 1 with (fail)
  generalize w.alloc _ = w1 at *
  have HD := al_any w1 (.cells #[.int .u8 0, .int .i64 0, .slice none 0 0] 46)
  have X2 := Lib.hid (blk HX.out HD)
  have Y2 := Lib.hid (heap_alloc_new w1 (.cells #[.int .u8 0, .int .i64 0, .slice none 0 0] 46))
  rw [ES] at Y2
  have K2 := kept_hid HB HD
  clear HD HX HB ES
  generalize w1.alloc _ = w2 at *
  go_wp2_with fail
  with_reducible refine (HA.out _).mono ?_
  rintro e w3 ⟨rfl, rfl⟩
  go_wp2_with fail
  with_reducible refine (HBR.out _).mono ?_
  rintro e w3 ⟨rfl, rfl⟩
  have SF := Lib.hid (over3 w2 (w.heap.size + 1) 46 _ _ _ (.int .u8 (c : Int)) (.int .i64 0) (.slice none 0 0) Y2.out)
  obtain ⟨y0, y1, y2⟩ := cells3 Y2.out
  obtain ⟨f0, f1, f2⟩ := free3 Y2.out
  go_wp2_with fail
  clear y0 y1 y2 f0 f1 f2
  generalize ((w2.setCell _ _).setCell _ _).setCell _ _ = w9 at *
  exact bodyPost_ret (v := .tuple #[.agg #[.int .u8 (c : Int), .int .i64 0, .slice none 0 0], .nilIface]) (results_cell_row_tmp rfl _ _ _ (w.heap.size + 1) _ rfl (run_loadVar_row _ (w.heap.size + 1) 46 46 _ (0, 0) _ SF.out.1 Tryz.underlying46 rfl (by kernel_rfl)) (.nilIface) rfl) rfl (⟨none, 0, rfl, Inp.ownFlds_nil _ _, K2.out.grown SF.out.2 K2.out.size (by intro g hg; injection hg with hg; omega)⟩)
set_option maxRecDepth 100000 in
set_option maxHeartbeats 8000000 in
theorem modified_fields (s : S) (ad : Option Addr) (k c : Nat) (w : World) (h : CelsIn w (.slice ad s.cs.length k) s.cs) (hz : 0 < s.cs.length) (hl : s.cs.length < 10000) (h8 : Sound s.cs) (hr : sright s = true) (hc : c < 256) (ha : Att.aid c = true) (hb : Att.bare c = false) (hf : fmt s.cs = true) :
    Calls Tryz.prog 20 #[.agg #[.int .i64 s.rows, .int .i64 s.cols, .slice ad s.cs.length k, .int .i64 s.cur, .bool s.lk, .bool s.ins], .int .u8 (c : Int)] w fun e w' => GaveM w w' (⟨c, s.cur, (modBs s.cs).map (fieldOf s.cs)⟩) 0 e := by
  have HA := Lib.hid fun W => aid_any c W hc
  have HBR := Lib.hid fun W => bare_any c W hc
  have HB := Lib.hid (al_any w (.cells #[.int .i64 s.rows, .int .i64 s.cols, .slice ad s.cs.length k, .int .i64 s.cur, .bool s.lk, .bool s.ins] 24))
  have HX := Lib.hid (heap_alloc_new w (.cells #[.int .i64 s.rows, .int .i64 s.cols, .slice ad s.cs.length k, .int .i64 s.cur, .bool s.lk, .bool s.ins] 24))
  have ES : (w.alloc (.cells #[.int .i64 s.rows, .int .i64 s.cols, .slice ad s.cs.length k, .int .i64 s.cur, .bool s.lk, .bool s.ins] 24)).heap.size = w.heap.size + 1 := by simp
  rw [ha] at HA
  rw [hb] at HBR
  have HFM := Lib.hid fun W (hb : Below w.heap.size w W) => ffmt_any s ad k W (h.below hb) h8 hz hl
  rw [hf] at HFM
  have HQ := Lib.hid fun W (hb : Below w.heap.size w W) => fields_any s ad k W (h.below hb) h8 hz hl
  generalize (modBs s.cs).map (fieldOf s.cs) = fs at *
  simp only [GaveF] at HQ
  clear h hz hl h8 hr hc ha hb hf
  go_enter Tryz.func20, Tryz.ntmps20
  go_upto_region 1 with (fail)
  generalize w.alloc _ = w1 at *
  have HD := al_any w1 (.cells #[.int .u8 0, .int .i64 0, .slice none 0 0] 46)
  have X2 := Lib.hid (blk HX.out HD)
  have Y2 := Lib.hid (heap_alloc_new w1 (.cells #[.int .u8 0, .int .i64 0, .slice none 0 0] 46))
  rw [ES] at Y2
  have K2 := kept_hid HB HD
  clear HD HX HB ES
  generalize w1.alloc _ = w2 at *
  go_wp2_with fail
  with_reducible refine (HA.out _).mono ?_
  rintro e w3 ⟨rfl, rfl⟩
  go_wp2_with fail
  with_reducible refine (HBR.out _).mono ?_
  rintro e w3 ⟨rfl, rfl⟩
  obtain ⟨c0, c1, c2, c3, c4, c5⟩ := cells6 X2.out
  go_wp2_with fail
  with_reducible refine (HFM.out _ K2.out).mono ?_
  rintro e w4 ⟨rfl, hb⟩
  have X4 := Lib.hid (blk X2.out hb)
  have Y4 := Lib.hid (blk Y2.out hb)
  have K4 := kept_hid K2 hb
  clear hb c0 c1 c2 c3 c4 c5 X2 Y2 K2 HFM HA HBR
  have hzx := Lib.hid (there_lt X4.out)
  obtain ⟨c0, c1, c2, c3, c4, c5⟩ := cells6 X4.out
  have HS := Lib.hid (show ∀ W', Below w4.heap.size w4 W' → (W'.cell? ⟨w.heap.size, 0, none⟩ = some (.int .i64 s.rows) ∧ W'.cell? ⟨w.heap.size, 1, none⟩ = some (.int .i64 s.cols) ∧ W'.cell? ⟨w.heap.size, 2, none⟩ = some (.slice ad s.cs.length k) ∧ W'.cell? ⟨w.heap.size, 3, none⟩ = some (.int .i64 s.cur) ∧ W'.cell? ⟨w.heap.size, 4, none⟩ = some (.bool s.lk) ∧ W'.cell? ⟨w.heap.size, 5, none⟩ = some (.bool s.ins)) from fun W' hW => cells6 (blk X4.out hW))
  have HST := Lib.hid (show ∀ W' va vc, Below w4.heap.size w4 W' → ((((W'.setCell ⟨w.heap.size + 1, 0, none⟩ (.int .u8 (c : Int))).setCell ⟨w.heap.size + 1, 1, none⟩ (.int .i64 s.cur)).setCell ⟨w.heap.size + 1, 2, none⟩ (.slice va fs.length vc)).cell? ⟨w.heap.size, 0, none⟩ = some (.int .i64 s.rows) ∧ (((W'.setCell ⟨w.heap.size + 1, 0, none⟩ (.int .u8 (c : Int))).setCell ⟨w.heap.size + 1, 1, none⟩ (.int .i64 s.cur)).setCell ⟨w.heap.size + 1, 2, none⟩ (.slice va fs.length vc)).cell? ⟨w.heap.size, 1, none⟩ = some (.int .i64 s.cols) ∧ (((W'.setCell ⟨w.heap.size + 1, 0, none⟩ (.int .u8 (c : Int))).setCell ⟨w.heap.size + 1, 1, none⟩ (.int .i64 s.cur)).setCell ⟨w.heap.size + 1, 2, none⟩ (.slice va fs.length vc)).cell? ⟨w.heap.size, 2, none⟩ = some (.slice ad s.cs.length k) ∧ (((W'.setCell ⟨w.heap.size + 1, 0, none⟩ (.int .u8 (c : Int))).setCell ⟨w.heap.size + 1, 1, none⟩ (.int .i64 s.cur)).setCell ⟨w.heap.size + 1, 2, none⟩ (.slice va fs.length vc)).cell? ⟨w.heap.size, 3, none⟩ = some (.int .i64 s.cur) ∧ (((W'.setCell ⟨w.heap.size + 1, 0, none⟩ (.int .u8 (c : Int))).setCell ⟨w.heap.size + 1, 1, none⟩ (.int .i64 s.cur)).setCell ⟨w.heap.size + 1, 2, none⟩ (.slice va fs.length vc)).cell? ⟨w.heap.size, 4, none⟩ = some (.bool s.lk) ∧ (((W'.setCell ⟨w.heap.size + 1, 0, none⟩ (.int .u8 (c : Int))).setCell ⟨w.heap.size + 1, 1, none⟩ (.int .i64 s.cur)).setCell ⟨w.heap.size + 1, 2, none⟩ (.slice va fs.length vc)).cell? ⟨w.heap.size, 5, none⟩ = some (.bool s.ins)) from fun W' va vc hW => cells6 (blk_g (blk X4.out hW) (over3 W' (w.heap.size + 1) 46 _ _ _ (.int .u8 (c : Int)) (.int .i64 s.cur) (.slice va fs.length vc) (blk Y4.out hW)).2 (by intro e; injection e with e; omega)))
  go_upto_region 6 with (fail)
  refine wp_region_held_drew (S := (fun W' => W'.cell? ⟨w.heap.size, 0, none⟩ = some (.int .i64 s.rows) ∧ W'.cell? ⟨w.heap.size, 1, none⟩ = some (.int .i64 s.cols) ∧ W'.cell? ⟨w.heap.size, 2, none⟩ = some (.slice ad s.cs.length k) ∧ W'.cell? ⟨w.heap.size, 3, none⟩ = some (.int .i64 s.cur) ∧ W'.cell? ⟨w.heap.size, 4, none⟩ = some (.bool s.lk) ∧ W'.cell? ⟨w.heap.size, 5, none⟩ = some (.bool s.ins))) (by kernel_rfl) (HS.out _ ((Below.refl _ _).drew)) (fun hHeld => ?_)
  refine' wpAnyH_take (i := 0) (oi := _) (v := _) ?hi0 (by kernel_rfl) (by kernel_rfl) (by kernel_rfl) ?hq0 ?hy0 (by assumption) ?rest0
  case hi0 => (simp only [List.getElem?_toArray, List.getElem?_cons_zero]; rfl)
  case hy0 =>
    refine Or.inl ⟨by rfl, ?_⟩
    intro w' hSw
    try dsimp only at hSw
    go_simp
    try with_reducible rfl
  case hq0 => exact fun _ _ _ h => h
  simp only [Act.put, List.setIfInBounds_toArray, List.set_cons_zero, List.set_cons_succ]
  refine' wpAnyH_take (i := 1) (oi := _) (v := _) ?hi1 (by kernel_rfl) (by kernel_rfl) (by kernel_rfl) ?hq1 ?hy1 (by assumption) ?rest1
  case hi1 => (simp only [List.getElem?_toArray, List.getElem?_cons_succ, List.getElem?_cons_zero]; rfl)
  case hy1 =>
    refine Or.inl ⟨by rfl, ?_⟩
    intro w' hSw
    try dsimp only at hSw
    go_simp
    try with_reducible rfl
  case hq1 => exact fun _ _ _ h => h
  simp only [Act.put, List.setIfInBounds_toArray, List.set_cons_zero, List.set_cons_succ]
  refine' wpAnyH_take (i := 2) (oi := _) (v := _) ?hi2 (by kernel_rfl) (by kernel_rfl) (by kernel_rfl) ?hq2 ?hy2 (by assumption) ?rest2
  case hi2 => (simp only [List.getElem?_toArray, List.getElem?_cons_succ, List.getElem?_cons_zero]; rfl)
  case hy2 =>
    refine Or.inl ⟨by rfl, ?_⟩
    intro w' hSw
    try dsimp only at hSw
    go_simp
    try with_reducible rfl
  case hq2 => exact fun _ _ _ h => h
  simp only [Act.put, List.setIfInBounds_toArray, List.set_cons_zero, List.set_cons_succ]
  refine' wpAnyH_take (i := 3) (oi := _) (v := _) ?hi3 (by kernel_rfl) (by kernel_rfl) (by kernel_rfl) ?hq3 ?hy3 (by assumption) ?rest3
  case hi3 => (simp only [List.getElem?_toArray, List.getElem?_cons_succ, List.getElem?_cons_zero]; rfl)
  case hy3 =>
    refine Or.inl ⟨by rfl, ?_⟩
    intro w' hSw
    try dsimp only at hSw
    go_simp
    try with_reducible rfl
  case hq3 => exact fun _ _ _ h => h
  simp only [Act.put, List.setIfInBounds_toArray, List.set_cons_zero, List.set_cons_succ]
  refine wpAnyH_ready (rs := [4]) (by kernel_rfl) (by simp) (AllReadyH.cons rfl (fun K hK => ?_) AllReadyH.nil)
  go_simp
  go_at_call 51
  with_reducible refine (HQ.out _ (kept_trans K4.out (Below.refl _ _).drew)).mono ?_
  rintro e w5 ⟨va, vc, rfl, ho, hb⟩
  obtain ⟨y0, y1, y2⟩ := cells3 (blk Y4.out (kept_trans (Below.refl w4.heap.size w4).drew hb))
  obtain ⟨f0, f1, f2⟩ := free3 (blk Y4.out (kept_trans (Below.refl w4.heap.size w4).drew hb))
  have hS := HS.out _ (kept_trans (Below.refl w4.heap.size w4).drew hb)
  refine hK.out _ _ hS (fun hHeld => ?_)
  clear hK K hS
  try simp only [Act.put, List.setIfInBounds_toArray, List.set_cons_zero, List.set_cons_succ]
  refine' wpAnyH_take (i := 5) (oi := _) (v := _) ?hi5 (by kernel_rfl) (by kernel_rfl) (by kernel_rfl) ?hq5 ?hy5 (by assumption) ?rest5
  case hi5 => (simp only [List.getElem?_toArray, List.getElem?_cons_succ, List.getElem?_cons_zero]; rfl)
  case hy5 =>
    refine Or.inl ⟨by rfl, ?_⟩
    intro w' hSw
    try dsimp only at hSw
    go_simp
    try with_reducible rfl
  case hq5 => exact fun _ _ _ h => h
  simp only [Act.put, List.setIfInBounds_toArray, List.set_cons_zero, List.set_cons_succ]
  refine wpAnyH_ready (rs := [6]) (by kernel_rfl) (by simp) (AllReadyH.cons rfl (fun K hK => ?_) AllReadyH.nil)
  go_simp
  have hS := HST.out _ va vc (kept_trans (Below.refl w4.heap.size w4).drew hb)
  refine hK.out _ _ hS (fun hHeld => ?_)
  clear hK K hS
  try simp only [Act.put, List.setIfInBounds_toArray, List.set_cons_zero, List.set_cons_succ]
  refine' wpAnyH_take (i := 7) (oi := _) (v := _) ?hi7 (by kernel_rfl) (by kernel_rfl) (by kernel_rfl) ?hq7 ?hy7 (by assumption) ?rest7
  case hi7 => (simp only [List.getElem?_toArray, List.getElem?_cons_succ, List.getElem?_cons_zero]; rfl)
  case hy7 =>
    refine Or.inl ⟨by rfl, ?_⟩
    intro w' hSw
    try dsimp only at hSw
    go_simp
    try with_reducible rfl
  case hq7 => exact fun _ _ _ h => h
  simp only [Act.put, List.setIfInBounds_toArray, List.set_cons_zero, List.set_cons_succ]
  refine wpAnyH_done (by kernel_rfl) ?_ _
  all_goals
    replace hb := kept_trans (Below.refl w4.heap.size w4).drew hb
    have Y5 := Lib.hid (blk Y4.out hb)
    have K5 := kept_hid K4 hb
    have O5 := Lib.hid (show Inp.OwnFlds w5 w4.heap.size (.slice va fs.length vc) fs from ho)
    have SF := Lib.hid (over3 w5 (w.heap.size + 1) 46 _ _ _ (.int .u8 (c : Int)) (.int .i64 s.cur) (.slice va fs.length vc) Y5.out)
    have L4 := Lib.hid (there_lt Y4.out)
    have O9 := Lib.hid (flds_mono (O5.out.other SF.out.2 L4.out) K4.out.size)
    clear hb ho y0 y1 y2 f0 f1 f2 c0 c1 c2 c3 c4 c5
    generalize ((w5.setCell _ _).setCell _ _).setCell _ _ = w9 at *
    go_wp2_with fail
    exact bodyPost_ret (v := .tuple #[.agg #[.int .u8 (c : Int), .int .i64 s.cur, .slice va fs.length vc], .nilIface]) (results_cell_row_tmp rfl _ _ _ (w.heap.size + 1) _ rfl (run_loadVar_row _ (w.heap.size + 1) 46 46 _ (0, 0) _ SF.out.1 Tryz.underlying46 rfl (by kernel_rfl)) (.nilIface) rfl) rfl (⟨va, vc, rfl, O9.out, K5.out.grown SF.out.2 K5.out.size (by intro g hg; injection hg with hg; omega)⟩)
set_option maxRecDepth 100000 in
set_option maxHeartbeats 8000000 in
theorem modified_alone (s : S) (ad : Option Addr) (k c : Nat) (w : World) (h : CelsIn w (.slice ad s.cs.length k) s.cs) (hz : 0 < s.cs.length) (hl : s.cs.length < 10000) (h8 : Sound s.cs) (hr : sright s = true) (hc : c < 256) (ha : Att.aid c = true) (hb : Att.bare c = false) (hf : fmt s.cs = false) :
    Calls Tryz.prog 20 #[.agg #[.int .i64 s.rows, .int .i64 s.cols, .slice ad s.cs.length k, .int .i64 s.cur, .bool s.lk, .bool s.ins], .int .u8 (c : Int)] w fun e w' => GaveM w w' (⟨c, s.cur, alone s.cs⟩) 0 e := by
  have HA := Lib.hid fun W => aid_any c W hc
  have HBR := Lib.hid fun W => bare_any c W hc
  have HB := Lib.hid (al_any w (.cells #[.int .i64 s.rows, .int .i64 s.cols, .slice ad s.cs.length k, .int .i64 s.cur, .bool s.lk, .bool s.ins] 24))
  have HX := Lib.hid (heap_alloc_new w (.cells #[.int .i64 s.rows, .int .i64 s.cols, .slice ad s.cs.length k, .int .i64 s.cur, .bool s.lk, .bool s.ins] 24))
  have ES : (w.alloc (.cells #[.int .i64 s.rows, .int .i64 s.cols, .slice ad s.cs.length k, .int .i64 s.cur, .bool s.lk, .bool s.ins] 24)).heap.size = w.heap.size + 1 := by simp
  rw [ha] at HA
  rw [hb] at HBR
  have HFM := Lib.hid fun W (hb : Below w.heap.size w W) => ffmt_any s ad k W (h.below hb) h8 hz hl
  rw [hf] at HFM
  have HQ := Lib.hid fun W (hb : Below w.heap.size w W) => whole_any s ad k W (h.below hb) h8 hr hl hf
  generalize alone s.cs = fs at *
  simp only [GaveF] at HQ
  clear h hz hl h8 hr hc ha hb hf
  go_enter Tryz.func20, Tryz.ntmps20
  go_upto_region 1 with (fail)
  generalize w.alloc _ = w1 at *
  have HD := al_any w1 (.cells #[.int .u8 0, .int .i64 0, .slice none 0 0] 46)
  have X2 := Lib.hid (blk HX.out HD)
  have Y2 := Lib.hid (heap_alloc_new w1 (.cells #[.int .u8 0, .int .i64 0, .slice none 0 0] 46))
  rw [ES] at Y2
  have K2 := kept_hid HB HD
  clear HD HX HB ES
  generalize w1.alloc _ = w2 at *
  go_wp2_with fail
  with_reducible refine (HA.out _).mono ?_
  rintro e w3 ⟨rfl, rfl⟩
  go_wp2_with fail
  with_reducible refine (HBR.out _).mono ?_
  rintro e w3 ⟨rfl, rfl⟩
  obtain ⟨c0, c1, c2, c3, c4, c5⟩ := cells6 X2.out
  go_wp2_with fail
  with_reducible refine (HFM.out _ K2.out).mono ?_
  rintro e w4 ⟨rfl, hb⟩
  have X4 := Lib.hid (blk X2.out hb)
  have Y4 := Lib.hid (blk Y2.out hb)
  have K4 := kept_hid K2 hb
  clear hb c0 c1 c2 c3 c4 c5 X2 Y2 K2 HFM HA HBR
  have hzx := Lib.hid (there_lt X4.out)
  obtain ⟨c0, c1, c2, c3, c4, c5⟩ := cells6 X4.out
  have HS := Lib.hid (show ∀ W', Below w4.heap.size w4 W' → (W'.cell? ⟨w.heap.size, 0, none⟩ = some (.int .i64 s.rows) ∧ W'.cell? ⟨w.heap.size, 1, none⟩ = some (.int .i64 s.cols) ∧ W'.cell? ⟨w.heap.size, 2, none⟩ = some (.slice ad s.cs.length k) ∧ W'.cell? ⟨w.heap.size, 3, none⟩ = some (.int .i64 s.cur) ∧ W'.cell? ⟨w.heap.size, 4, none⟩ = some (.bool s.lk) ∧ W'.cell? ⟨w.heap.size, 5, none⟩ = some (.bool s.ins)) from fun W' hW => cells6 (blk X4.out hW))
  have HST := Lib.hid (show ∀ W' va vc, Below w4.heap.size w4 W' → ((((W'.setCell ⟨w.heap.size + 1, 0, none⟩ (.int .u8 (c : Int))).setCell ⟨w.heap.size + 1, 1, none⟩ (.int .i64 s.cur)).setCell ⟨w.heap.size + 1, 2, none⟩ (.slice va fs.length vc)).cell? ⟨w.heap.size, 0, none⟩ = some (.int .i64 s.rows) ∧ (((W'.setCell ⟨w.heap.size + 1, 0, none⟩ (.int .u8 (c : Int))).setCell ⟨w.heap.size + 1, 1, none⟩ (.int .i64 s.cur)).setCell ⟨w.heap.size + 1, 2, none⟩ (.slice va fs.length vc)).cell? ⟨w.heap.size, 1, none⟩ = some (.int .i64 s.cols) ∧ (((W'.setCell ⟨w.heap.size + 1, 0, none⟩ (.int .u8 (c : Int))).setCell ⟨w.heap.size + 1, 1, none⟩ (.int .i64 s.cur)).setCell ⟨w.heap.size + 1, 2, none⟩ (.slice va fs.length vc)).cell? ⟨w.heap.size, 2, none⟩ = some (.slice ad s.cs.length k) ∧ (((W'.setCell ⟨w.heap.size + 1, 0, none⟩ (.int .u8 (c : Int))).setCell ⟨w.heap.size + 1, 1, none⟩ (.int .i64 s.cur)).setCell ⟨w.heap.size + 1, 2, none⟩ (.slice va fs.length vc)).cell? ⟨w.heap.size, 3, none⟩ = some (.int .i64 s.cur) ∧ (((W'.setCell ⟨w.heap.size + 1, 0, none⟩ (.int .u8 (c : Int))).setCell ⟨w.heap.size + 1, 1, none⟩ (.int .i64 s.cur)).setCell ⟨w.heap.size + 1, 2, none⟩ (.slice va fs.length vc)).cell? ⟨w.heap.size, 4, none⟩ = some (.bool s.lk) ∧ (((W'.setCell ⟨w.heap.size + 1, 0, none⟩ (.int .u8 (c : Int))).setCell ⟨w.heap.size + 1, 1, none⟩ (.int .i64 s.cur)).setCell ⟨w.heap.size + 1, 2, none⟩ (.slice va fs.length vc)).cell? ⟨w.heap.size, 5, none⟩ = some (.bool s.ins)) from fun W' va vc hW => cells6 (blk_g (blk X4.out hW) (over3 W' (w.heap.size + 1) 46 _ _ _ (.int .u8 (c : Int)) (.int .i64 s.cur) (.slice va fs.length vc) (blk Y4.out hW)).2 (by intro e; injection e with e; omega)))
  go_upto_region 7 with (fail)
  refine wp_region_held_drew (S := (fun W' => W'.cell? ⟨w.heap.size, 0, none⟩ = some (.int .i64 s.rows) ∧ W'.cell? ⟨w.heap.size, 1, none⟩ = some (.int .i64 s.cols) ∧ W'.cell? ⟨w.heap.size, 2, none⟩ = some (.slice ad s.cs.length k) ∧ W'.cell? ⟨w.heap.size, 3, none⟩ = some (.int .i64 s.cur) ∧ W'.cell? ⟨w.heap.size, 4, none⟩ = some (.bool s.lk) ∧ W'.cell? ⟨w.heap.size, 5, none⟩ = some (.bool s.ins))) (by kernel_rfl) (HS.out _ ((Below.refl _ _).drew)) (fun hHeld => ?_)
  refine' wpAnyH_take (i := 0) (oi := _) (v := _) ?hi0 (by kernel_rfl) (by kernel_rfl) (by kernel_rfl) ?hq0 ?hy0 (by assumption) ?rest0
  case hi0 => (simp only [List.getElem?_toArray, List.getElem?_cons_zero]; rfl)
  case hy0 =>
    refine Or.inl ⟨by rfl, ?_⟩
    intro w' hSw
    try dsimp only at hSw
    go_simp
    try with_reducible rfl
  case hq0 => exact fun _ _ _ h => h
  simp only [Act.put, List.setIfInBounds_toArray, List.set_cons_zero, List.set_cons_succ]
  refine' wpAnyH_take (i := 1) (oi := _) (v := _) ?hi1 (by kernel_rfl) (by kernel_rfl) (by kernel_rfl) ?hq1 ?hy1 (by assumption) ?rest1
  case hi1 => (simp only [List.getElem?_toArray, List.getElem?_cons_succ, List.getElem?_cons_zero]; rfl)
  case hy1 =>
    refine Or.inl ⟨by rfl, ?_⟩
    intro w' hSw
    try dsimp only at hSw
    go_simp
    try with_reducible rfl
  case hq1 => exact fun _ _ _ h => h
  simp only [Act.put, List.setIfInBounds_toArray, List.set_cons_zero, List.set_cons_succ]
  refine' wpAnyH_take (i := 2) (oi := _) (v := _) ?hi2 (by kernel_rfl) (by kernel_rfl) (by kernel_rfl) ?hq2 ?hy2 (by assumption) ?rest2
  case hi2 => (simp only [List.getElem?_toArray, List.getElem?_cons_succ, List.getElem?_cons_zero]; rfl)
  case hy2 =>
    refine Or.inl ⟨by rfl, ?_⟩
    intro w' hSw
    try dsimp only at hSw
    go_simp
    try with_reducible rfl
  case hq2 => exact fun _ _ _ h => h
  simp only [Act.put, List.setIfInBounds_toArray, List.set_cons_zero, List.set_cons_succ]
  refine' wpAnyH_take (i := 3) (oi := _) (v := _) ?hi3 (by kernel_rfl) (by kernel_rfl) (by kernel_rfl) ?hq3 ?hy3 (by assumption) ?rest3
  case hi3 => (simp only [List.getElem?_toArray, List.getElem?_cons_succ, List.getElem?_cons_zero]; rfl)
  case hy3 =>
    refine Or.inl ⟨by rfl, ?_⟩
    intro w' hSw
    try dsimp only at hSw
    go_simp
    try with_reducible rfl
  case hq3 => exact fun _ _ _ h => h
  simp only [Act.put, List.setIfInBounds_toArray, List.set_cons_zero, List.set_cons_succ]
  refine wpAnyH_ready (rs := [4]) (by kernel_rfl) (by simp) (AllReadyH.cons rfl (fun K hK => ?_) AllReadyH.nil)
  go_simp
  go_at_call 52
  with_reducible refine (HQ.out _ (kept_trans K4.out (Below.refl _ _).drew)).mono ?_
  rintro e w5 ⟨va, vc, rfl, ho, hb⟩
  obtain ⟨y0, y1, y2⟩ := cells3 (blk Y4.out (kept_trans (Below.refl w4.heap.size w4).drew hb))
  obtain ⟨f0, f1, f2⟩ := free3 (blk Y4.out (kept_trans (Below.refl w4.heap.size w4).drew hb))
  have hS := HS.out _ (kept_trans (Below.refl w4.heap.size w4).drew hb)
  refine hK.out _ _ hS (fun hHeld => ?_)
  clear hK K hS
  try simp only [Act.put, List.setIfInBounds_toArray, List.set_cons_zero, List.set_cons_succ]
  refine' wpAnyH_take (i := 5) (oi := _) (v := _) ?hi5 (by kernel_rfl) (by kernel_rfl) (by kernel_rfl) ?hq5 ?hy5 (by assumption) ?rest5
  case hi5 => (simp only [List.getElem?_toArray, List.getElem?_cons_succ, List.getElem?_cons_zero]; rfl)
  case hy5 =>
    refine Or.inl ⟨by rfl, ?_⟩
    intro w' hSw
    try dsimp only at hSw
    go_simp
    try with_reducible rfl
  case hq5 => exact fun _ _ _ h => h
  simp only [Act.put, List.setIfInBounds_toArray, List.set_cons_zero, List.set_cons_succ]
  refine wpAnyH_ready (rs := [6]) (by kernel_rfl) (by simp) (AllReadyH.cons rfl (fun K hK => ?_) AllReadyH.nil)
  go_simp
  have hS := HST.out _ va vc (kept_trans (Below.refl w4.heap.size w4).drew hb)
  refine hK.out _ _ hS (fun hHeld => ?_)
  clear hK K hS
  try simp only [Act.put, List.setIfInBounds_toArray, List.set_cons_zero, List.set_cons_succ]
  refine' wpAnyH_take (i := 7) (oi := _) (v := _) ?hi7 (by kernel_rfl) (by kernel_rfl) (by kernel_rfl) ?hq7 ?hy7 (by assumption) ?rest7
  case hi7 => (simp only [List.getElem?_toArray, List.getElem?_cons_succ, List.getElem?_cons_zero]; rfl)
  case hy7 =>
    refine Or.inl ⟨by rfl, ?_⟩
    intro w' hSw
    try dsimp only at hSw
    go_simp
    try with_reducible rfl
  case hq7 => exact fun _ _ _ h => h
  simp only [Act.put, List.setIfInBounds_toArray, List.set_cons_zero, List.set_cons_succ]
  refine wpAnyH_done (by kernel_rfl) ?_ _
  all_goals
    replace hb := kept_trans (Below.refl w4.heap.size w4).drew hb
    have Y5 := Lib.hid (blk Y4.out hb)
    have K5 := kept_hid K4 hb
    have O5 := Lib.hid (show Inp.OwnFlds w5 w4.heap.size (.slice va fs.length vc) fs from ho)
    have SF := Lib.hid (over3 w5 (w.heap.size + 1) 46 _ _ _ (.int .u8 (c : Int)) (.int .i64 s.cur) (.slice va fs.length vc) Y5.out)
    have L4 := Lib.hid (there_lt Y4.out)
    have O9 := Lib.hid (flds_mono (O5.out.other SF.out.2 L4.out) K4.out.size)
    clear hb ho y0 y1 y2 f0 f1 f2 c0 c1 c2 c3 c4 c5
    generalize ((w5.setCell _ _).setCell _ _).setCell _ _ = w9 at *
    go_wp2_with fail
    exact bodyPost_ret (v := .tuple #[.agg #[.int .u8 (c : Int), .int .i64 s.cur, .slice va fs.length vc], .nilIface]) (results_cell_row_tmp rfl _ _ _ (w.heap.size + 1) _ rfl (run_loadVar_row _ (w.heap.size + 1) 46 46 _ (0, 0) _ SF.out.1 Tryz.underlying46 rfl (by kernel_rfl)) (.nilIface) rfl) rfl (⟨va, vc, rfl, O9.out, K5.out.grown SF.out.2 K5.out.size (by intro g hg; injection hg with hg; omega)⟩)
theorem modified_any (s : S) (ad : Option Addr) (k c : Nat) (w : World) (h : CelsIn w (.slice ad s.cs.length k) s.cs) (hz : 0 < s.cs.length) (hl : s.cs.length < 10000) (h8 : Sound s.cs) (hr : sright s = true) (hc : c < 256) :
    Calls Tryz.prog 20 #[.agg #[.int .i64 s.rows, .int .i64 s.cols, .slice ad s.cs.length k, .int .i64 s.cur, .bool s.lk, .bool s.ins], .int .u8 (c : Int)] w fun e w' => GaveM w w' (asks s c) (asksE c) e := by
  unfold asks asksE
  cases ha : Att.aid c with
  | false => exact modified_no s ad k c w h hz hl h8 hr hc ha
  | true =>
    simp only [if_true]
    cases hb : Att.bare c with
    | true =>
      rw [modified_bare s c hb]
      exact modified_bare_ s ad k c w h hz hl h8 hr hc ha hb
    | false =>
      cases hf : fmt s.cs with
      | true =>
        have e : modified s c = ⟨c, s.cur, (modBs s.cs).map (fieldOf s.cs)⟩ := by unfold modified; rw [hb, hf]; rfl
        rw [e]
        exact modified_fields s ad k c w h hz hl h8 hr hc ha hb hf
      | false =>
        have e : modified s c = ⟨c, s.cur, alone s.cs⟩ := by unfold modified; rw [hb, hf]; rfl
        rw [e]
        exact modified_alone s ad k c w h hz hl h8 hr hc ha hb hf
end Red
end Go.Proofs.YtpdlpmbjhopnnaaGreatDoor
/- Reply, by the code. Written by tools/gen_red_landed.py. -/
namespace Go.Proofs.YtpdlpmbjhopnnaaGreatDoor
open Go.RowKit Sha Six Apd Cut Err Att Grd Fld
set_option linter.unusedVariables false
namespace Red
set_option maxRecDepth 100000 in
set_option maxHeartbeats 8000000 in
theorem reply_none (s : S) (ad : Option Addr) (k c : Nat) (cmd : Int) (h1 : cmd ≠ 246) (h2 : cmd ≠ 242) (w : World) (h : CelsIn w (.slice ad s.cs.length k) s.cs) (hr : sright s = true) (h8 : Sound s.cs) (hl : s.cs.length ≤ 2700) (hc : c < 256) :
    Calls Tryz.prog 8 #[.agg #[.int .i64 s.rows, .int .i64 s.cols, .slice ad s.cs.length k, .int .i64 s.cur, .bool s.lk, .bool s.ins], .int .i64 cmd, .int .u8 (c : Int)] w fun e w' => GaveB w w' ([]) (5) (-1) e := by
  obtain ⟨hz1, hz2, _⟩ := sright_parts hr
  have hz : 0 < s.cs.length := by omega
  have hl4 : s.cs.length < 10000 := by omega
  have HB := Lib.hid (al_any w (.cells #[.int .i64 s.rows, .int .i64 s.cols, .slice ad s.cs.length k, .int .i64 s.cur, .bool s.lk, .bool s.ins] 24))
  have HX := Lib.hid (heap_alloc_new w (.cells #[.int .i64 s.rows, .int .i64 s.cols, .slice ad s.cs.length k, .int .i64 s.cur, .bool s.lk, .bool s.ins] 24))
  have HI := Lib.hid (h.below HB.out)
  have e1 : (cmd == 246) = false := by simpa using h1
  have e2 : (cmd == 242) = false := by simpa using h2
  clear h hr h8 hl hc hz hl4 hz1 hz2 HI h1 h2
  go_enter Tryz.func8, Tryz.ntmps8
  go_upto_region 1 with (fail)
  generalize w.alloc _ = w1 at *
  go_wp2_with fail
  go_ret2
  exact ⟨none, 0, _, rfl, own_no _ _, .inr (.inl ⟨rfl, rfl⟩), nofun, HB.out⟩
set_option maxRecDepth 100000 in
set_option maxHeartbeats 8000000 in
theorem reply_mod (s : S) (ad : Option Addr) (k c : Nat) (w : World) (h : CelsIn w (.slice ad s.cs.length k) s.cs) (hr : sright s = true) (h8 : Sound s.cs) (hl : s.cs.length ≤ 2700) (hc : c < 256) :
    Calls Tryz.prog 8 #[.agg #[.int .i64 s.rows, .int .i64 s.cols, .slice ad s.cs.length k, .int .i64 s.cur, .bool s.lk, .bool s.ins], .int .i64 246, .int .u8 (c : Int)] w fun e w' => GaveB w w' (if Att.aid c then Inp.ibytes (modified s c) s.cs.length else []) ((asksE c : Nat)) (-1) e := by
  obtain ⟨hz1, hz2, _⟩ := sright_parts hr
  have hz : 0 < s.cs.length := by omega
  have hl4 : s.cs.length < 10000 := by omega
  have Q := Lib.hid fun W (hb : Below w.heap.size w W) => modified_any s ad k c W (h.below hb) hz hl4 h8 hr hc
  have HSO := Lib.hid (modified_sound h8 hl4 c)
  have HFW := Lib.hid (show (modified s c).fs.length < 1000000 from by have := modified_few s c hz; omega)
  have HAI := Lib.hid (show (modified s c).aid < 256 from by unfold modified; split <;> exact hc)
  simp only [GaveM] at Q
  have HSZ := Lib.hid fun W => size_any s.rows s.cols ad s.cs.length k s.cur s.lk s.ins W
  have HB := Lib.hid (al_any w (.cells #[.int .i64 s.rows, .int .i64 s.cols, .slice ad s.cs.length k, .int .i64 s.cur, .bool s.lk, .bool s.ins] 24))
  have HX := Lib.hid (heap_alloc_new w (.cells #[.int .i64 s.rows, .int .i64 s.cols, .slice ad s.cs.length k, .int .i64 s.cur, .bool s.lk, .bool s.ins] 24))
  have HI := Lib.hid (h.below HB.out)
  have HZ := Lib.hid hz
  have HL := Lib.hid hl
  have HR := Lib.hid hr
  clear h h8 hl hc hz hl4 hz1 hz2 hr
  cases ha : Att.aid c with
  | false =>
    obtain ⟨ea, ee⟩ := asks_no (s := s) ha
    rw [ea, ee] at Q
    rw [ee]
    simp only [Bool.false_eq_true, if_false]
    clear ea ee ha HSO HFW HAI
    go_enter Tryz.func8, Tryz.ntmps8
    go_upto_region 1 with (fail)
    generalize w.alloc _ = w1 at *
    obtain ⟨c0, c1, c2, c3, c4, c5⟩ := cells6 HX.out
    go_wp2_with fail
    with_reducible refine (Q.out _ HB.out).mono ?_
    rintro e w2 ⟨va, vc, rfl, ho, hb⟩
    have HA := al_any w2 (.cells #[.int .u8 (Inp.noneI.aid : Int), .int .i64 Inp.noneI.cur, .slice va Inp.noneI.fs.length vc] 46)
    have K3 := kept_hid HB (kept_trans hb HA)
    simp only [show Scr.errn 3 = .iface 71 (.int .i64 3) from rfl]
    clear HA hb ho Q c0 c1 c2 c3 c4 c5
    go_upto_region 4 with (fail)
    generalize w2.alloc _ = w3 at *
    go_wp2_with fail
    go_ret2
    exact ⟨none, 0, _, rfl, own_no _ _, told_errn _ 3, nofun, K3.out⟩
  | true =>
    obtain ⟨ea, ee⟩ := asks_yes (s := s) ha
    have HMW := Lib.hid (modified_write HR.out HL.out ha)
    rw [ea, ee] at Q
    rw [ee]
    simp only [if_true]
    generalize modified s c = i at *
    have HWR := Lib.hid fun W v1 k1 (h1 : Inp.FldsIn W 0 (.slice v1 i.fs.length k1) i.fs) => Inp.write_any i v1 i.fs.length k1 s.cs.length W HAI.out h1 HSO.out HFW.out HZ.out (by have := HL.out; omega) _ HMW.out.symm
    simp only at HWR
    generalize Inp.ibytes i s.cs.length = bs at *
    clear ea ee ha HSO HFW HAI HMW
    go_enter Tryz.func8, Tryz.ntmps8
    go_upto_region 1 with (fail)
    generalize w.alloc _ = w1 at *
    obtain ⟨c0, c1, c2, c3, c4, c5⟩ := cells6 HX.out
    go_wp2_with fail
    with_reducible refine (Q.out _ HB.out).mono ?_
    rintro e w2 ⟨va, vc, rfl, ho, hb⟩
    simp only [show Scr.errn 0 = .nilIface from rfl]
    have HA := al_any w2 (.cells #[.int .u8 (i.aid : Int), .int .i64 i.cur, .slice va i.fs.length vc] 46)
    have Y3 := Lib.hid (heap_alloc_new w2 (.cells #[.int .u8 (i.aid : Int), .int .i64 i.cur, .slice va i.fs.length vc] 46))
    have O3 := Lib.hid (ho.below HA)
    have X3 := Lib.hid (blk HX.out (kept_trans hb HA))
    have K3 := kept_hid HB (kept_trans hb HA)
    clear HA hb ho Q c0 c1 c2 c3 c4 c5
    go_upto_region 4 with (fail)
    generalize w2.heap.size = N at *
    generalize w2.alloc _ = w3 at *
    have HSX := Lib.hid (show ∀ W', Below w3.heap.size w3 W' → Below w3.heap.size w3 W' ∧ (W'.cell? ⟨w.heap.size, 0, none⟩ = some (.int .i64 s.rows) ∧ W'.cell? ⟨w.heap.size, 1, none⟩ = some (.int .i64 s.cols) ∧ W'.cell? ⟨w.heap.size, 2, none⟩ = some (.slice ad s.cs.length k) ∧ W'.cell? ⟨w.heap.size, 3, none⟩ = some (.int .i64 s.cur) ∧ W'.cell? ⟨w.heap.size, 4, none⟩ = some (.bool s.lk) ∧ W'.cell? ⟨w.heap.size, 5, none⟩ = some (.bool s.ins)) ∧ W'.cell? ⟨N, 0, none⟩ = some (.int .u8 (i.aid : Int)) ∧ W'.cell? ⟨N, 1, none⟩ = some (.int .i64 i.cur) ∧ W'.cell? ⟨N, 2, none⟩ = some (.slice va i.fs.length vc) from fun W' hW => ⟨hW, cells6 (blk X3.out hW), cells3 (blk Y3.out hW)⟩)
    go_upto_region 6 with (fail)
    go_region_held3 (fun W' => Below w3.heap.size w3 W' ∧ (W'.cell? ⟨w.heap.size, 0, none⟩ = some (.int .i64 s.rows) ∧ W'.cell? ⟨w.heap.size, 1, none⟩ = some (.int .i64 s.cols) ∧ W'.cell? ⟨w.heap.size, 2, none⟩ = some (.slice ad s.cs.length k) ∧ W'.cell? ⟨w.heap.size, 3, none⟩ = some (.int .i64 s.cur) ∧ W'.cell? ⟨w.heap.size, 4, none⟩ = some (.bool s.lk) ∧ W'.cell? ⟨w.heap.size, 5, none⟩ = some (.bool s.ins)) ∧ W'.cell? ⟨N, 0, none⟩ = some (.int .u8 (i.aid : Int)) ∧ W'.cell? ⟨N, 1, none⟩ = some (.int .i64 i.cur) ∧ W'.cell? ⟨N, 2, none⟩ = some (.slice va i.fs.length vc))
      ((refine HSX.out _ ?_; first | with_reducible exact (Below.refl _ _).drew | with_reducible exact (Below.refl _ _) | with_reducible exact (And.left (by assumption)) | with_reducible exact kept_trans (And.left (by assumption)) hbz | with_reducible exact kept_trans (And.left (by assumption)) hbw))
      (first
        | (go_at_call 28; with_reducible refine (HSZ.out _).mono ?_; rintro e ws ⟨rfl, hbz⟩)
        | (go_at_call 27; with_reducible refine (HWR.out _ _ _ ((O3.out.below (And.left (by assumption))).to.mono (Nat.zero_le _))).mono ?_; rintro e w4 ⟨vb, kb, ev, rfl, hbw, hs, hown⟩))
    obtain rfl : ev = .nilIface := by
      rcases hs with ⟨_, h2⟩ | ⟨h1, _⟩
      · exact h2
      · exact absurd rfl h1
    have hS := And.left (by assumption : Below w3.heap.size w3 w4 ∧ _)
    have K4 := kept_hid K3 hS
    have hle := Nat.le_trans K3.out.size hbz.size
    clear hS
    go_wp2_with fail
    go_ret2
    exact ⟨vb, kb, _, rfl, own_mono hown (by first | exact hle | exact K3.out.size), .inl ⟨rfl, rfl, rfl⟩, fun _ => rfl, K4.out⟩
set_option maxRecDepth 100000 in
set_option maxHeartbeats 8000000 in
theorem reply_read (s : S) (ad : Option Addr) (k c : Nat) (w : World) (h : CelsIn w (.slice ad s.cs.length k) s.cs) (hr : sright s = true) (h8 : Sound s.cs) (hl : s.cs.length ≤ 2700) (hc : c < 256) :
    Calls Tryz.prog 8 #[.agg #[.int .i64 s.rows, .int .i64 s.cols, .slice ad s.cs.length k, .int .i64 s.cur, .bool s.lk, .bool s.ins], .int .i64 242, .int .u8 (c : Int)] w fun e w' => GaveB w w' (imageB s) (0) (-1) e := by
  obtain ⟨hz1, hz2, _⟩ := sright_parts hr
  have hz : 0 < s.cs.length := by omega
  have hl4 : s.cs.length < 10000 := by omega
  have Q := Lib.hid fun W (hb : Below w.heap.size w W) => image_any s ad k W (h.below hb) hz hl4 hr
  have HSO := Lib.hid (image_sound h8 hl4)
  have HLN := Lib.hid (show (image s).length ≤ 10000 from by have := image_len s; omega)
  have HMW := Lib.hid (show Str.cwrite ⟨241, false, false, false, image s⟩ s.cs.length = (imageB s, 0, -1) from by rw [imageB, image_write hr (by omega)])
  simp only [GaveO] at Q
  have HWR := Lib.hid fun W v1 k1 (h1 : Str.OrdsIn W 0 (.slice v1 (image s).length k1) (image s)) => Str.write_any ⟨241, false, false, false, image s⟩ v1 (image s).length k1 s.cs.length W h1 HSO.out HLN.out hz (by omega)
  simp only [Str.Wrote, HMW.out] at HWR
  have HSZ := Lib.hid fun W => size_any s.rows s.cols ad s.cs.length k s.cur s.lk s.ins W
  generalize imageB s = bs at *
  generalize image s = os at *
  have HB := Lib.hid (al_any w (.cells #[.int .i64 s.rows, .int .i64 s.cols, .slice ad s.cs.length k, .int .i64 s.cur, .bool s.lk, .bool s.ins] 24))
  have HX := Lib.hid (heap_alloc_new w (.cells #[.int .i64 s.rows, .int .i64 s.cols, .slice ad s.cs.length k, .int .i64 s.cur, .bool s.lk, .bool s.ins] 24))
  have HI := Lib.hid (h.below HB.out)
  clear h h8 hl hc hz hl4 hz1 hz2 hr HSO HLN HMW
  go_enter Tryz.func8, Tryz.ntmps8
  go_upto_region 1 with (fail)
  generalize w.alloc _ = w1 at *
  obtain ⟨c0, c1, c2, c3, c4, c5⟩ := cells6 HX.out
  go_upto_region 8 with (fail)
  clear c0 c1 c2 c3 c4 c5
  have HSX := Lib.hid (show ∀ W', Below w1.heap.size w1 W' → Below w1.heap.size w1 W' ∧ (W'.cell? ⟨w.heap.size, 0, none⟩ = some (.int .i64 s.rows) ∧ W'.cell? ⟨w.heap.size, 1, none⟩ = some (.int .i64 s.cols) ∧ W'.cell? ⟨w.heap.size, 2, none⟩ = some (.slice ad s.cs.length k) ∧ W'.cell? ⟨w.heap.size, 3, none⟩ = some (.int .i64 s.cur) ∧ W'.cell? ⟨w.heap.size, 4, none⟩ = some (.bool s.lk) ∧ W'.cell? ⟨w.heap.size, 5, none⟩ = some (.bool s.ins)) from fun W' hW => ⟨hW, cells6 (blk HX.out hW)⟩)
  go_region_held3 (fun W' => Below w1.heap.size w1 W' ∧ (W'.cell? ⟨w.heap.size, 0, none⟩ = some (.int .i64 s.rows) ∧ W'.cell? ⟨w.heap.size, 1, none⟩ = some (.int .i64 s.cols) ∧ W'.cell? ⟨w.heap.size, 2, none⟩ = some (.slice ad s.cs.length k) ∧ W'.cell? ⟨w.heap.size, 3, none⟩ = some (.int .i64 s.cur) ∧ W'.cell? ⟨w.heap.size, 4, none⟩ = some (.bool s.lk) ∧ W'.cell? ⟨w.heap.size, 5, none⟩ = some (.bool s.ins)))
    ((refine HSX.out _ ?_; first | with_reducible exact (Below.refl _ _).drew | with_reducible exact (Below.refl _ _) | with_reducible exact (And.left (by assumption)) | with_reducible exact kept_trans (And.left (by assumption)) hbw | with_reducible exact kept_trans (And.left (by assumption)) hbz | with_reducible exact kept_trans (And.left (by assumption)) hb))
    (first
      | (go_at_call 25; with_reducible refine (Q.out _ (kept_trans HB.out (And.left (by assumption)))).mono ?_; rintro e wi ⟨vi, ki, rfl, hi, hb⟩)
      | (go_at_call 28; with_reducible refine (HSZ.out _).mono ?_; rintro e ws ⟨rfl, hbz⟩)
      | (go_at_call 29; with_reducible (first | refine (HWR.out _ _ _ (hi.to.mono (Nat.zero_le _))).mono ?_ | refine (HWR.out _ _ _ ((hi.below hbz).to.mono (Nat.zero_le _))).mono ?_); rintro e wn ⟨v, ev, rfl, hbw, hw⟩))
  have hS := And.left (by assumption : Below w1.heap.size w1 wn ∧ _)
  have K8 := kept_hid HB hS
  clear hS
  rcases hw with ⟨_, rfl, hown⟩ | ⟨h1, _⟩
  · obtain ⟨vb, kb, rfl⟩ := own_form hown
    go_wp2_with fail
    go_ret2
    exact ⟨vb, kb, _, rfl, own_mono hown (by have q1 := hb.size; have q2 := hbz.size; have q3 := HB.out.size; simp only [show (w1.drew).heap.size = w1.heap.size from rfl] at q1 q2; omega), .inl ⟨rfl, rfl, rfl⟩, fun _ => rfl, K8.out⟩
  · exact absurd rfl h1
theorem reply_any (s : S) (ad : Option Addr) (k c : Nat) (cmd : Int) (w : World) (h : CelsIn w (.slice ad s.cs.length k) s.cs) (hr : sright s = true) (h8 : Sound s.cs) (hl : s.cs.length ≤ 2700) (hc : c < 256) :
    Calls Tryz.prog 8 #[.agg #[.int .i64 s.rows, .int .i64 s.cols, .slice ad s.cs.length k, .int .i64 s.cur, .bool s.lk, .bool s.ins], .int .i64 cmd, .int .u8 (c : Int)] w fun e w' => GaveB w w' (replyB s cmd c) ((replyE cmd c : Nat)) (-1) e := by
  obtain ⟨hz1, hz2, _⟩ := sright_parts hr
  have hz : 0 < s.cs.length := by omega
  have hl4 : s.cs.length < 10000 := by omega
  unfold replyB replyE
  by_cases h2 : cmd = 242
  · subst h2
    rw [if_pos rfl, if_pos rfl]
    exact reply_read s ad k c w h hr h8 hl hc
  · rw [if_neg h2, if_neg h2]
    by_cases h1 : cmd = 246
    · subst h1
      rw [if_pos rfl, if_pos rfl]
      exact reply_mod s ad k c w h hr h8 hl hc
    · rw [if_neg h1, if_neg h1]
      exact reply_none s ad k c cmd h1 h2 w h hr h8 hl hc
end Red
end Go.Proofs.YtpdlpmbjhopnnaaGreatDoor
