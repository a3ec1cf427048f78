/- The law WindowNear. Written by tools/gen_win_laws.py. -/
import Derived.Test.YteggdfkmncikpaaDoorWinAwake
import Derived.Test.YteggdfkmncikpaaDoorWinBool
import Derived.Test.YteggdfkmncikpaaDoorWinU16
import Derived.Deep.QuietTactic
import Derived.BigQuiet
import Derived.Deep.Cut
import Derived.Deep.LoopGhost
import Derived.Deep.RegionLaw
import Derived.Deep.RegionHeld3
import Derived.IntWalk
import Derived.Lib.SmallJoins
namespace Go.Proofs.YteggdfkmncikpaaDoor
open Go.RowKit Sha Six Apd Cut Err
set_option linter.unusedVariables false
set_option linter.unusedSimpArgs false
namespace Win
set_option maxRecDepth 100000 in
set_option maxHeartbeats 8000000 in
theorem near_core (xs : List Nat) (a : Option Addr) (cap : Nat) (w : World) (hx : BytesIn w (.slice a xs.length cap) xs) (h8 : ∀ x ∈ xs, x < 256) (hg : Handle w) :
    Calls Tryd.prog 5 #[.slice a xs.length cap] w fun e w' => e = .returned (.bool true) ∧ Below w.heap.size w w' := by
  have HAW := Lib.hid fun W (hb : Below w.heap.size w W) => awake_any W (hand_of hg hb)
  have HCO := Lib.hid fun W n (hb : Below w.heap.size w W) => code_errn n W (hand_of hg hb)
  have HX := Lib.hid hx
  have H8 := Lib.hid h8
  clear hg hx h8
  by_cases hl : 200 < xs.length
  · have hl' : decide ((200 : Int) < (xs.length : Int)) = true := by simp; omega
    clear hl
    go_enter Tryd.func5, Tryd.ntmps5
    go_wp2_with fail
    with_reducible refine (HAW.out _ (Below.refl _ _)).mono ?_
    rintro e w2 ⟨rfl, hb⟩
    have K2 := Lib.hid hb
    clear hb
    go_wp2_with fail
    with_reducible refine (HAW.out _ K2.out).mono ?_
    rintro e wq ⟨rfl, hb⟩
    have KE := kept_hid K2 hb
    clear hb
    go_wp2_with fail
    go_ret
    exact ⟨rfl, KE.out⟩
  · have hl' : decide ((200 : Int) < (xs.length : Int)) = false := by simp; omega
    have HLN := Lib.hid (show xs.length ≤ 200 by omega)
    clear hl
    go_enter Tryd.func5, Tryd.ntmps5
    go_wp2_with fail
    with_reducible refine (HAW.out _ (Below.refl _ _)).mono ?_
    rintro e w2 ⟨rfl, hb⟩
    have HA := al_any w2 (.cells #[.int .i64 0, .int .u64 0] 24)
    have X3 := Lib.hid (heap_alloc_new w2 (.cells #[.int .i64 0, .int .u64 0] 24))
    have K3 := Lib.hid (kept_trans hb HA)
    have HW0 := Lib.hid hb.size
    clear hb HA
    go_upto_region 4 with (fail)
    clear hl'
    generalize w2.heap.size = G at *
    generalize w2.alloc _ = w3 at *
    have HGW := Lib.hid (there_lt X3.out)
    go_wp2_with (at_make; refine wpList_mark ?_)
    refine Lib.hid ?_
    obtain ⟨i0, hi, hz0, hz1, hz2⟩ := info_parts infoB
    refine wpList_make_full _ rfl _ _ 40 rfl w3.heap.size 4 i0 _ 1 Tryd.underlying40 hi hz0 hz1 .i64 .i64 _ _ 65 rfl rfl rfl rfl ?_ ?_ ?_ ?_
    · rw [hz2]; decide
    · unfold maxLen; decide
    · exact Nat.le_refl _
    intro w4 hown hgr
    have K4 := kept_hid K3 (belowg hgr)
    have X4 := Lib.hid (blk X3.out (belowg hgr))
    have S4 := Lib.hid (show OwnBs w4 w3.heap.size (.slice (some ⟨w3.heap.size, 0, none⟩) 65 65) (List.replicate 65 false) from by
      unfold OwnBs; rw [List.length_replicate, ← made_bools]; exact hown)
    clear hown hgr K3 X3 hi hz0 hz1 hz2
    generalize w3.heap.size = S at *
    go_wp2_with fail
    go_loopg [5] (xs.length + 1) (fun mm ii wr => ∃ (k : Nat) (s : W) (bs : List Bool), k ≤ xs.length ∧ mm = xs.length + 1 - k ∧ ii = .int .i64 (k : Int) ∧ Hid (Near s) ∧ Hid (bs.length = 65) ∧ Hid (∀ m : Nat, 1 ≤ m → m ≤ 64 → bs.getD m false = has s (m : Int)) ∧ Hid (OwnBs wr S (.slice (some ⟨S, 0, none⟩) 65 65) bs) ∧ Hid (wr.heap[G]? = some (.cells #[.int .i64 s.top, .int .u64 (s.bits : Int)] 24 (0, 0))) ∧ Hid (Below w.heap.size w wr))
    case atStart => exact ⟨0, nil, _, Nat.zero_le _, rfl, rfl, Lib.hid nil_near, Lib.hid (List.length_replicate ..), Lib.hid (fun m h1 h2 => by rw [nil_has, List.getD_eq_getElem?_getD, List.getElem?_replicate]; split <;> rfl), S4, X4, K4⟩
    case round =>
      obtain ⟨k, s, bs, hk, rfl, rfl, HNR, HBL, HBS, SR, XR, KR⟩ := hrel
      clear S4 X4 K4
      by_cases hlt : k < xs.length
      · have HLT := Lib.hid hlt
        have hj : (k : Int) < (xs.length : Int) := by omega
        have hj0 : (0 : Int) ≤ (k : Int) := by omega
        obtain ⟨g, off, rfl, d0⟩ : ∃ g off, a = some ⟨g, off, none⟩ ∧ wr.cell? ⟨g, off + k, none⟩ = some (.int .u8 (xs.getD k 0 : Nat)) := by
          obtain ⟨ad, c, hv, hcap, hc⟩ := bytes_below HX.out KR.out
          injection hv with e1 e2 e3
          subst e1 e3
          rcases hc with h0 | ⟨g, off, h0, hc⟩
          · rw [h0] at hlt; simp at hlt
          · exact ⟨g, off, h0, hc k hlt⟩
        have ew : wrap64 ((k : Int) + 1) = (k : Int) + 1 := by have := HLN.out; rw [IntWalk.wrap64_in] <;> omega
        have hx8 : xs.getD k 0 < 256 := byte_lt H8.out (by decide) _
        generalize xs.getD k 0 = x at *
        have hm : ((x : Int)).tmod 64 = ((x % 64 : Nat) : Int) := by rw [Int.tmod_eq_emod_of_nonneg (by omega)]; simp
        have HM := Lib.hid (show x % 64 < 64 from Nat.mod_lt _ (by decide))
        generalize x % 64 = y at *
        have hu : IntKind.u8.wrap (y : Int) = (y : Int) := by have := HM.out; rw [IntKind.wrap_u8]; omega
        have hw1 : wrap64 (y : Int) = (y : Int) := by have := HM.out; rw [IntWalk.wrap64_in] <;> omega
        have hw2 : wrap64 (1 + (y : Int)) = ((y + 1 : Nat) : Int) := by have := HM.out; rw [IntWalk.wrap64_in] <;> omega
        obtain ⟨c0, c1⟩ := cells2 XR.out
        go_upto_region 9 with (fail)
        rw [hw2]
        have HN1 := Lib.hid (show 1 ≤ y + 1 ∧ y + 1 ≤ 64 by have := HM.out; omega)
        clear hm hu hw1 hw2 HM d0 hx8
        generalize hyn : y + 1 = n at *
        replace hyn := Lib.hid hyn
        have HFT := Lib.hid (show Fit s from ⟨HNR.out.small, by have := right_fit HNR.out.right; rw [IntWalk.i64_in] <;> omega⟩)
        have HL := Lib.hid fun W => let_any s (n : Int) W HNR.out.right HFT.out (by have := HN1.out; rw [IntWalk.i64_in] <;> omega)
        obtain ⟨nl1, nl2⟩ := near_lets (n := (n : Int)) HNR.out (by have := HN1.out; omega) (by have := HN1.out; omega)
        have hcd := near_code (n := (n : Int)) HNR.out (by have := HN1.out; omega) (by have := HN1.out; omega)
        have NL1 := Lib.hid nl1
        have NL2 := Lib.hid nl2
        have hbn := HBS.out n HN1.out.1 HN1.out.2
        generalize (lets s (n : Int)).1 = u at *
        generalize (lets s (n : Int)).2 = cd at *
        have HB2 := Lib.hid (show ∀ m : Nat, 1 ≤ m → m ≤ 64 → (bs.set n true).getD m false = has u (m : Int) from fun m h1 h2 => by
          rw [NL2.out, List.getD_eq_getElem?_getD, List.getElem?_set]
          by_cases he : m = n
          · subst he; rw [if_pos rfl, if_pos (by rw [HBL.out]; omega)]; simp
          · rw [if_neg (Ne.symm he), ← List.getD_eq_getElem?_getD, HBS.out m h1 h2, decide_eq_false (by omega)]; rfl)
        have HBL2 := Lib.hid (show (bs.set n true).length = 65 by rw [List.length_set]; exact HBL.out)
        have HFU := Lib.hid (show Fit u from ⟨NL1.out.small, by have := right_fit NL1.out.right; rw [IntWalk.i64_in] <;> omega⟩)
        clear nl1 nl2
        cases hh : has s (n : Int) with
        | true =>
          rw [hh] at hcd hbn
          obtain rfl : cd = 12 := hcd
          simp only [GaveL, show errn 12 = .iface 46 (.int .i64 12) from rfl] at HL
          clear hh
          go_wp2_with fail
          with_reducible refine (HL.out _).mono ?_
          rintro e w5 ⟨rfl, hb⟩
          have HA := al_any w5 (.cells #[.int .i64 u.top, .int .u64 (u.bits : Int)] 24)
          have Y6 := Lib.hid (heap_alloc_new w5 (.cells #[.int .i64 u.top, .int .u64 (u.bits : Int)] 24))
          have hk2 := kept_trans hb HA
          have X6 := Lib.hid (blk XR.out hk2)
          have S6 := Lib.hid (own_below SR.out hk2)
          have K6 := kept_hid KR hk2
          have HST := Lib.hid (show S < w5.heap.size from Nat.lt_of_lt_of_le (block_lt_of_cell (OwnBs.cell SR.out (i := 0) (by have := HBL.out; omega)).1) hb.size)
          clear hb HA hk2 XR SR KR HL c0 c1
          go_upto_region 10 with (fail)
          generalize w5.heap.size = T at *
          generalize w5.alloc _ = w6 at *
          obtain ⟨db, _⟩ := OwnBs.cell S6.out (i := n) (by have := HBL.out; have := HN1.out; omega)
          rw [hbn] at db
          have hn0 : (0 : Int) ≤ (n : Int) := by omega
          have hn65 : (n : Int) < 65 := by have := HN1.out; omega
          have HDN := Lib.hid fun m => (show Below w6.heap.size w6 (w6.drewN m) from Six.below_drewN _ _ _)
          go_quiet (fail)
          have X7 := Lib.hid (blk X6.out (HDN.out nq))
          have Y7 := Lib.hid (blk Y6.out (HDN.out nq))
          have S7 := Lib.hid (own_below S6.out (HDN.out nq))
          have K7 := kept_hid K6 (HDN.out nq)
          clear HDN X6 Y6 S6 K6 db
          generalize w6.drewN nq = w7 at *
          obtain ⟨db, fb⟩ := OwnBs.cell S7.out (i := n) (by have := HBL.out; have := HN1.out; omega)
          have SS := OwnBs.set S7.out n true
          have S8 := Lib.hid SS.1
          have HGr := SS.2
          have X8 := Lib.hid ((HGr.block _ (there_lt X7.out) (by intro h; injection h with h; have := HGW.out; omega)).trans X7.out)
          have Y8 := Lib.hid ((HGr.block _ (there_lt Y7.out) (by intro h; injection h with h; have := HST.out; omega)).trans Y7.out)
          have K8 := Lib.hid (K7.out.grown HGr K7.out.size (by intro g hg; injection hg with hg; have := HGW.out; have := HW0.out; omega))
          go_upto_region 13 with (fail)
          clear SS HGr X7 Y7 S7 K7 db fb hn0 hn65 hbn
          generalize w7.setCell _ _ = w8 at *
          obtain ⟨y0, y1⟩ := cells2 Y8.out
          obtain ⟨c0, c1⟩ := cells2 X8.out
          obtain ⟨g0, g1⟩ := free2 X8.out
          have SF := Lib.hid (over2 w8 G 24 _ _ (.int .i64 u.top) (.int .u64 (u.bits : Int)) X8.out)
          have X9 := Lib.hid SF.out.1
          have K9 := Lib.hid (K8.out.grown SF.out.2 K8.out.size (by intro g hg; injection hg with hg; have := HW0.out; omega))
          have S9 := Lib.hid (show OwnBs _ S (.slice (some ⟨S, 0, none⟩) 65 65) (bs.set n true) from own_other S8.out SF.out.2 HGW.out)
          go_upto_region 14 with (fail)
          clear y0 y1 c0 c1 g0 g1 SF X8 Y8 S8 K8
          generalize (w8.setCell _ _).setCell _ _ = w9 at *
          go_wp2_with fail
          generalize bs.set n true = bs2 at *
          go_loopg [9] 65 (fun mm ii wr => ∃ (j : Nat), 1 ≤ j ∧ j ≤ 65 ∧ mm = 66 - j ∧ ii = .int .i64 (j : Int) ∧ Hid (Below w9.heap.size w9 wr))
          case atStart => exact ⟨1, Nat.le_refl _, by decide, rfl, rfl, Lib.hid (Below.refl _ _)⟩
          case round =>
            obtain ⟨j, hj1, hj2, rfl, rfl, BZ⟩ := hrel
            have HJ1 := Lib.hid hj1
            by_cases hj64 : j ≤ 64
            · have HJ := Lib.hid hj64
              have hja : (j : Int) ≤ 64 := by omega
              have hjb : (0 : Int) ≤ (j : Int) := by omega
              have hjc : (j : Int) < 65 := by omega
              have ejw : wrap64 ((j : Int) + 1) = (j : Int) + 1 := by rw [IntWalk.wrap64_in] <;> omega
              have HH := Lib.hid fun W => has_any u (j : Int) W NL1.out.right HFU.out (by rw [IntWalk.i64_in] <;> omega)
              have hbj := HB2.out j hj1 hj64
              have XZ := Lib.hid (blk X9.out BZ.out)
              have SZ := Lib.hid (own_below S9.out BZ.out)
              have CS := Lib.hid fun W (h : Below wr.heap.size wr W) => (show Below wr.heap.size wr W ∧ (W.cell? ⟨G, 0, none⟩ = some (.int .i64 u.top) ∧ W.cell? ⟨G, 1, none⟩ = some (.int .u64 (u.bits : Int))) ∧ W.cell? ⟨S, j, none⟩ = some (.bool (bs2.getD j false)) from ⟨h, cells2 (blk XZ.out h), (OwnBs.cell (own_below SZ.out h) (by have := HBL2.out; have := HJ.out; omega)).1⟩)
              rw [hbj] at CS
              generalize has u (j : Int) = hv at *
              have hvv : (hv != hv) = false := by simp
              clear hj1 hj2 hj64 hbj
              go_upto_region 17 with (fail)
              go_region_held3 (fun W => Below wr.heap.size wr W ∧ (W.cell? ⟨G, 0, none⟩ = some (.int .i64 u.top) ∧ W.cell? ⟨G, 1, none⟩ = some (.int .u64 (u.bits : Int))) ∧ W.cell? ⟨S, j, none⟩ = some (.bool hv))
                (first | exact CS.out _ (Below.refl _ _).drew | exact CS.out _ (Below.refl _ _) | exact CS.out _ (kept_trans (And.left (by assumption)) hb))
                (first
                  | (go_at_call 14; with_reducible refine (HH.out _).mono ?_; rintro e wb ⟨rfl, hb⟩))
              have hS := And.left (by assumption : Below wr.heap.size wr _ ∧ _)
              have BB := Lib.hid (BZ.out.trans (hS.mono BZ.out.size))
              clear hS XZ SZ CS HH
              go_wp2_with fail
              go_roundg (66 - (j + 1))
              case measure => have := HJ.out; omega
              case rel => exact ⟨j + 1, Nat.succ_le_succ (Nat.zero_le _), Nat.succ_le_succ HJ.out, rfl, by first | exact congrArg (Value.int .i64) ejw | rfl, BB⟩
            · obtain rfl : j = 65 := by omega
              have hja : ¬ ((65 : Nat) : Int) ≤ 64 := by decide
              have XZ := Lib.hid (blk X9.out BZ.out)
              have SZ := Lib.hid (own_below S9.out BZ.out)
              have KZ := kept_hid K9 BZ.out
              clear hj1 hj2 hj64
              go_wp2_with fail
              go_roundg (xs.length + 1 - (k + 1))
              case measure => exact meas HLT.out
              case rel => exact ⟨k + 1, u, bs2, HLT.out, rfl, by first | exact congrArg (Value.int .i64) ew | rfl, NL1, HBL2, HB2, SZ, XZ, KZ⟩
        | false =>
          rw [hh] at hcd hbn
          obtain rfl : cd = 0 := hcd
          simp only [GaveL, errn_0] at HL
          clear hh
          go_wp2_with fail
          with_reducible refine (HL.out _).mono ?_
          rintro e w5 ⟨rfl, hb⟩
          have HA := al_any w5 (.cells #[.int .i64 u.top, .int .u64 (u.bits : Int)] 24)
          have Y6 := Lib.hid (heap_alloc_new w5 (.cells #[.int .i64 u.top, .int .u64 (u.bits : Int)] 24))
          have hk2 := kept_trans hb HA
          have X6 := Lib.hid (blk XR.out hk2)
          have S6 := Lib.hid (own_below SR.out hk2)
          have K6 := kept_hid KR hk2
          have HST := Lib.hid (show S < w5.heap.size from Nat.lt_of_lt_of_le (block_lt_of_cell (OwnBs.cell SR.out (i := 0) (by have := HBL.out; omega)).1) hb.size)
          clear hb HA hk2 XR SR KR HL c0 c1
          go_upto_region 10 with (fail)
          generalize w5.heap.size = T at *
          generalize w5.alloc _ = w6 at *
          obtain ⟨db, _⟩ := OwnBs.cell S6.out (i := n) (by have := HBL.out; have := HN1.out; omega)
          rw [hbn] at db
          have hn0 : (0 : Int) ≤ (n : Int) := by omega
          have hn65 : (n : Int) < 65 := by have := HN1.out; omega
          have HDN := Lib.hid fun m => (show Below w6.heap.size w6 (w6.drewN m) from Six.below_drewN _ _ _)
          go_quiet (fail)
          have X7 := Lib.hid (blk X6.out (HDN.out nq))
          have Y7 := Lib.hid (blk Y6.out (HDN.out nq))
          have S7 := Lib.hid (own_below S6.out (HDN.out nq))
          have K7 := kept_hid K6 (HDN.out nq)
          clear HDN X6 Y6 S6 K6 db
          generalize w6.drewN nq = w7 at *
          obtain ⟨db, fb⟩ := OwnBs.cell S7.out (i := n) (by have := HBL.out; have := HN1.out; omega)
          have SS := OwnBs.set S7.out n true
          have S8 := Lib.hid SS.1
          have HGr := SS.2
          have X8 := Lib.hid ((HGr.block _ (there_lt X7.out) (by intro h; injection h with h; have := HGW.out; omega)).trans X7.out)
          have Y8 := Lib.hid ((HGr.block _ (there_lt Y7.out) (by intro h; injection h with h; have := HST.out; omega)).trans Y7.out)
          have K8 := Lib.hid (K7.out.grown HGr K7.out.size (by intro g hg; injection hg with hg; have := HGW.out; have := HW0.out; omega))
          go_upto_region 13 with (fail)
          clear SS HGr X7 Y7 S7 K7 db fb hn0 hn65 hbn
          generalize w7.setCell _ _ = w8 at *
          obtain ⟨y0, y1⟩ := cells2 Y8.out
          obtain ⟨c0, c1⟩ := cells2 X8.out
          obtain ⟨g0, g1⟩ := free2 X8.out
          have SF := Lib.hid (over2 w8 G 24 _ _ (.int .i64 u.top) (.int .u64 (u.bits : Int)) X8.out)
          have X9 := Lib.hid SF.out.1
          have K9 := Lib.hid (K8.out.grown SF.out.2 K8.out.size (by intro g hg; injection hg with hg; have := HW0.out; omega))
          have S9 := Lib.hid (show OwnBs _ S (.slice (some ⟨S, 0, none⟩) 65 65) (bs.set n true) from own_other S8.out SF.out.2 HGW.out)
          go_upto_region 14 with (fail)
          clear y0 y1 c0 c1 g0 g1 SF X8 Y8 S8 K8
          generalize (w8.setCell _ _).setCell _ _ = w9 at *
          go_wp2_with fail
          generalize bs.set n true = bs2 at *
          go_loopg [9] 65 (fun mm ii wr => ∃ (j : Nat), 1 ≤ j ∧ j ≤ 65 ∧ mm = 66 - j ∧ ii = .int .i64 (j : Int) ∧ Hid (Below w9.heap.size w9 wr))
          case atStart => exact ⟨1, Nat.le_refl _, by decide, rfl, rfl, Lib.hid (Below.refl _ _)⟩
          case round =>
            obtain ⟨j, hj1, hj2, rfl, rfl, BZ⟩ := hrel
            have HJ1 := Lib.hid hj1
            by_cases hj64 : j ≤ 64
            · have HJ := Lib.hid hj64
              have hja : (j : Int) ≤ 64 := by omega
              have hjb : (0 : Int) ≤ (j : Int) := by omega
              have hjc : (j : Int) < 65 := by omega
              have ejw : wrap64 ((j : Int) + 1) = (j : Int) + 1 := by rw [IntWalk.wrap64_in] <;> omega
              have HH := Lib.hid fun W => has_any u (j : Int) W NL1.out.right HFU.out (by rw [IntWalk.i64_in] <;> omega)
              have hbj := HB2.out j hj1 hj64
              have XZ := Lib.hid (blk X9.out BZ.out)
              have SZ := Lib.hid (own_below S9.out BZ.out)
              have CS := Lib.hid fun W (h : Below wr.heap.size wr W) => (show Below wr.heap.size wr W ∧ (W.cell? ⟨G, 0, none⟩ = some (.int .i64 u.top) ∧ W.cell? ⟨G, 1, none⟩ = some (.int .u64 (u.bits : Int))) ∧ W.cell? ⟨S, j, none⟩ = some (.bool (bs2.getD j false)) from ⟨h, cells2 (blk XZ.out h), (OwnBs.cell (own_below SZ.out h) (by have := HBL2.out; have := HJ.out; omega)).1⟩)
              rw [hbj] at CS
              generalize has u (j : Int) = hv at *
              have hvv : (hv != hv) = false := by simp
              clear hj1 hj2 hj64 hbj
              go_upto_region 17 with (fail)
              go_region_held3 (fun W => Below wr.heap.size wr W ∧ (W.cell? ⟨G, 0, none⟩ = some (.int .i64 u.top) ∧ W.cell? ⟨G, 1, none⟩ = some (.int .u64 (u.bits : Int))) ∧ W.cell? ⟨S, j, none⟩ = some (.bool hv))
                (first | exact CS.out _ (Below.refl _ _).drew | exact CS.out _ (Below.refl _ _) | exact CS.out _ (kept_trans (And.left (by assumption)) hb))
                (first
                  | (go_at_call 14; with_reducible refine (HH.out _).mono ?_; rintro e wb ⟨rfl, hb⟩))
              have hS := And.left (by assumption : Below wr.heap.size wr _ ∧ _)
              have BB := Lib.hid (BZ.out.trans (hS.mono BZ.out.size))
              clear hS XZ SZ CS HH
              go_wp2_with fail
              go_roundg (66 - (j + 1))
              case measure => have := HJ.out; omega
              case rel => exact ⟨j + 1, Nat.succ_le_succ (Nat.zero_le _), Nat.succ_le_succ HJ.out, rfl, by first | exact congrArg (Value.int .i64) ejw | rfl, BB⟩
            · obtain rfl : j = 65 := by omega
              have hja : ¬ ((65 : Nat) : Int) ≤ 64 := by decide
              have XZ := Lib.hid (blk X9.out BZ.out)
              have SZ := Lib.hid (own_below S9.out BZ.out)
              have KZ := kept_hid K9 BZ.out
              clear hj1 hj2 hj64
              go_wp2_with fail
              go_roundg (xs.length + 1 - (k + 1))
              case measure => exact meas HLT.out
              case rel => exact ⟨k + 1, u, bs2, HLT.out, rfl, by first | exact congrArg (Value.int .i64) ew | rfl, NL1, HBL2, HB2, SZ, XZ, KZ⟩
      · obtain rfl : k = xs.length := by omega
        have hj : ¬ (xs.length : Int) < (xs.length : Int) := by omega
        clear hk hlt
        go_wp2_with fail
        go_ret
        exact ⟨rfl, KR.out⟩
end Win
end Go.Proofs.YteggdfkmncikpaaDoor
