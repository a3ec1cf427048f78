/- The document's Read of submissions, its fields, and put together. Written by tools/gen_inp_rread.py. -/
import Derived.Test.YthjocmcafoifbaaDoorInpRread1
import Derived.Test.YthjocmcafoifbaaDoorInpStep
import Derived.Deep.RegionLaw
import Derived.Deep.Cut
namespace Go.Proofs.YthjocmcafoifbaaDoor
open Go.RowKit Sha Cut Err Six Att Apd
namespace Inp
set_option maxRecDepth 100000 in
set_option maxHeartbeats 4000000 in
theorem rread_flds {xs : List Nat} (ad : Option Addr) (cap z : Nat) (w : World) (hB : BytesIn w (.slice ad xs.length cap) xs) (hx : xs.length < 1000000) (R : I × Nat × Int) (h8 : ∀ x ∈ xs, x < 256) (hl : 0 < xs.length) (hl2 : xs.length ≤ 8192) (hb8 : xs.getD 0 0 < 256) (c : Nat) (hcm : xs.getD 0 0 = c) (hk : aid c = true) (hw : bare c = false) (h3 : 3 ≤ xs.length) (a : Nat) (hq : Adr.aspec (xs.drop 1) z = (a, 0, -1)) (k : Nat) (hkk : (lets (xs.drop 3)).length = k) (hk0 : k = 0) (Q : List F × Nat × Nat) (hQ : Runs z xs Q [] 3) (hR : R = if Q.2.1 ≠ 0 then (noneI, Q.2.1, (Q.2.2 : Int)) else (⟨c, a, Q.1⟩, 0, -1)) :
    Calls Tryd.prog 11 #[.slice ad xs.length cap, .int .i64 (z : Int)] w fun e w' => ∃ oa n oc, e = .returned (.tuple #[.agg #[.int .u8 (R.1.aid : Int), .int .i64 R.1.cur, .slice oa n oc], .int .i64 (R.2.1 : Nat), .int .i64 R.2.2]) ∧ FldsIn w' 0 (.slice oa n oc) R.1.fs ∧ Below w.heap.size w w' := by
  have HA := Lib.hid (al_any w (.cells #[.int .u8 0, .int .i64 0, .slice none 0 0] 27))
  have HN := Lib.hid (heap_alloc_new w (.cells #[.int .u8 0, .int .i64 0, .slice none 0 0] 27))
  have hg : ¬ (8192 : Int) < (xs.length : Int) := by omega
  have hg2 : ((xs.length : Int) == 0) = false := by simp; exact List.length_pos_iff.1 hl
  have hg3 : (0 : Int) < (xs.length : Int) := by omega
  obtain ⟨g, o, rfl, b0⟩ := first_in hB hl
  rw [hcm] at b0 hb8
  have HK := Lib.hid fun W => raid_any c W hb8
  have HW := Lib.hid fun W => rbare_any c W hb8
  have HC0 := Lib.hid b0
  have HB0 := Lib.hid hB
  rw [hk] at HK
  rw [hw] at HW
  have hS : ∀ w, (Instr.slice 22 (.slice (some ⟨g, o, none⟩) xs.length cap) (some (.int .i64 1)) none none).run Tryd.prog w = .ok (.slice (cutA (some ⟨g, o, none⟩) 1 cap) (xs.length - 1) (cap - 1)) w := fun w => run_l (some ⟨g, o, none⟩) xs.length cap 1 (by omega) w
  have HAL0 := Lib.hid fun W hb => Adr.rget_all _ _ _ (xs.drop 1) (z : Int) W (bytes_below (bytes_l (k := 1) hB (by omega)) hb) (fun y hy => h8 y (List.mem_of_mem_drop hy))
  rw [hq] at HAL0
  have HAL : Hid (∀ W, Below w.heap.size w W → Calls Tryd.prog 26 #[.slice (cutA (some ⟨g, o, none⟩) 1 cap) (xs.length - 1) (cap - 1), .int .i64 (z : Int)] W fun e w' => e = .returned (.tuple #[.int .i64 (a : Int), .int .i64 0, .int .i64 (-1)]) ∧ Below W.heap.size W w') := HAL0.out
  clear HAL0
  have HLT0 := fun W (hb : Below w.heap.size w W) => rletters_any (some ⟨g, o, none⟩) xs.length cap xs 3 W (bytes_below hB hb) h8 h3 hx
  rw [hkk] at HLT0
  have HLT : Hid (∀ W, Below w.heap.size w W → Calls Tryd.prog 27 #[.slice (some ⟨g, o, none⟩) xs.length cap, .int .i64 3] W fun e w' => e = .returned (.int .i64 (k : Int)) ∧ W = w') := HLT0
  clear HLT0
  have hk3 : k ≤ xs.length - 3 := by rw [← hkk]; have := lets_le (xs.drop 3); rwa [List.length_drop] at this
  have es : IntKind.i64.wrap ((3 : Int) + (k : Int)) = (3 : Int) + (k : Int) := by rw [IntWalk.i64_in] <;> omega
  have HKK := Lib.hid hkk
  have H3 := Lib.hid h3
  have HX := Lib.hid hx
  have hg5 : ¬ (0 : Int) < (k : Int) := by omega
  have HQ := Lib.hid hQ
  have HR := Lib.hid hR
  have H8 := Lib.hid h8
  have HCC : Hid (∀ i, i < xs.length → w.cell? ⟨g, o + i, none⟩ = some (.int .u8 ((xs.getD i 0 : Nat) : Int))) := by
    obtain ⟨ad', c', hv, _, hc⟩ := hB
    injection hv with e1 _ _
    subst e1
    rcases hc with h0 | ⟨g', o', he, hc⟩
    · rw [h0] at hl; simp at hl
    · injection he with he; injection he with he1 he2; subst he1 he2; exact hc
  clear hk hw hq h8 hkk h3 hk3 hk0 hQ hR hB hl hl2 hcm hb8 b0
  go_enter Tryd.func11, Tryd.ntmps11
  go_upto_region 1 with (fail)
  generalize w.alloc (.cells #[.int .u8 0, .int .i64 0, .slice none 0 0] 27) = w1 at *
  have b0 := (HA.out.cell (p := ⟨g, o, none⟩) (cell_lt HC0.out)).trans HC0.out
  have l1 := there_lt HN.out
  have HS := al_any w1 (.cells #[.int .u8 (c : Int), .int .i64 0, .slice none 0 0] 27)
  have b2 := (HS.cell (p := ⟨g, o, none⟩) (cell_lt b0)).trans b0
  have K2 := kept_hid HA HS
  have N2 := Lib.hid (blk HN.out HS)
  have L2 := Lib.hid (heap_alloc_new w1 (.cells #[.int .u8 (c : Int), .int .i64 0, .slice none 0 0] 27))
  have HRL := Lib.hid (there_lt HN.out)
  clear HS
  go_wp2_with fail
  clear b0 l1
  generalize w1.heap.size = L at *
  generalize w1.alloc (.cells #[.int .u8 (c : Int), .int .i64 0, .slice none 0 0] 27) = w2 at *
  with_reducible refine (HK.out _).mono ?_
  rintro e w' ⟨rfl, rfl⟩
  go_wp2_with fail
  with_reducible refine (HW.out _).mono ?_
  rintro e w' ⟨rfl, rfl⟩
  go_wp2_with fail
  with_reducible refine (HAL.out _ K2.out).mono ?_
  rintro e w3 ⟨rfl, hb⟩
  have N3 := Lib.hid (blk N2.out hb)
  have L3 := Lib.hid (blk L2.out hb)
  have K3 := kept_hid K2 hb
  clear HAL hb N2 L2 K2 b2
  obtain ⟨c0, c1, c2⟩ := cells3 L3.out
  obtain ⟨f0, f1, f2⟩ := free3 L3.out
  have G4 := gsetCell w3 L 1 (.int .i64 (a : Int))
  have L4 := Lib.hid (heap_setCell_same _ L 1 _ 27 (.int .i64 (a : Int)) L3.out)
  have N4 := Lib.hid (blk_g N3.out G4 (by intro e; injection e with e; have := HRL.out; omega))
  have K4 := Lib.hid (K3.out.grown G4 K3.out.size (by intro k hk; injection hk with hk; have := HRL.out; omega))
  clear G4
  go_wp2_with fail
  clear c0 c1 c2 f0 f1 f2 L3 N3 K3
  generalize w3.setCell ⟨L, 1, none⟩ (.int .i64 (a : Int)) = w4 at *
  with_reducible refine (HLT.out _ K4.out).mono ?_
  rintro e w' ⟨rfl, rfl⟩
  clear HLT
  have HB4 := Lib.hid (show w4.heap.size ≤ w4.heap.size from Nat.le_refl _)
  have HLB := Lib.hid (there_lt L4.out)
  have HNB := Lib.hid (there_lt N4.out)
  obtain ⟨B, hBB⟩ : ∃ B, B = w4.heap.size := ⟨_, rfl⟩
  have HB4 := Lib.hid (show B ≤ w4.heap.size by rw [hBB]; exact Nat.le_refl _)
  rw [← hBB] at HLB HNB
  clear hBB
  go_wp2_with fail
  have hdk : decide (0 < k) = false := decide_eq_false (by omega)
  simp only [hdk]
  clear hdk
  go_loopg [11] (xs.length - 3 + 1) (fun q i wr => ∃ (at' : Nat) (os : List F) (la : Option Addr) (lc : Nat), i = .int .i64 (at' : Int) ∧ q = xs.length - at' + 1 ∧ Hid (Runs z xs Q os at') ∧ Hid (os.length ≤ at') ∧ Hid (OwnFlds wr B (.slice la os.length lc) os) ∧
    Hid (wr.heap[L]? = some (.cells #[.int .u8 (c : Int), .int .i64 (a : Int), .slice la os.length lc] 27 (0, 0))) ∧ Hid (wr.heap[w.heap.size]? = some (.cells #[.int .u8 0, .int .i64 0, .slice none 0 0] 27 (0, 0))) ∧ Hid (Below w.heap.size w wr) ∧ Hid (B ≤ wr.heap.size))
  case atStart => exact ⟨3, [], none, 0, rfl, rfl, HQ, Lib.hid (Nat.zero_le _), Lib.hid (ownFlds_nil _ _), L4, N4, K4, HB4⟩
  case round =>
    clear L4 N4 K4 HB4 HQ
    obtain ⟨at', os, la, lc, rfl, rfl, HRU, HN0, HO, HL, HRR, HW, HBW⟩ := hrel
    by_cases hlt : at' < xs.length
    · have hi : (at' : Int) < (xs.length : Int) := by omega
      have hi0 : (0 : Int) ≤ (at' : Int) := by omega
      have cy := (HW.out.cell (p := ⟨g, o + at', none⟩) (cell_lt (HCC.out at' hlt))).trans (HCC.out at' hlt)
      by_cases h17 : xs.getD at' 0 = 17
      · have HAL := Lib.hid fun W hb => Adr.rget_all _ _ _ (xs.drop (at' + 1)) (z : Int) W (bytes_below (bytes_l (k := at' + 1) HB0.out (by omega)) hb) (fun y hy => H8.out y (List.mem_of_mem_drop hy))
        have hS1 : ∀ w, (Instr.slice 22 (.slice (some ⟨g, o, none⟩) xs.length cap) (some (.int .i64 ((at' : Int) + 1))) none none).run Tryd.prog w = .ok (.slice (cutA (some ⟨g, o, none⟩) (at' + 1) cap) (xs.length - (at' + 1)) (cap - (at' + 1))) w := fun w => run_l (some ⟨g, o, none⟩) xs.length cap (at' + 1) (by omega) w
        have es1 : IntKind.i64.wrap ((at' : Int) + 1) = (at' : Int) + 1 := by have := HX.out; rw [IntWalk.i64_in] <;> omega
        have es3 : IntKind.i64.wrap ((at' : Int) + 3) = (at' : Int) + 3 := by have := HX.out; rw [IntWalk.i64_in] <;> omega
        by_cases h0 : (Adr.aspec (xs.drop (at' + 1)) z).2.1 = 0
        · obtain ⟨hle, hst⟩ := runs_step HRU.out hlt h17 H8.out h0
          have HR2 := Lib.hid hst
          have HLE := Lib.hid hle
          have HLT := Lib.hid fun W hb => rletters_any (some ⟨g, o, none⟩) xs.length cap xs (at' + 3) W (bytes_below HB0.out hb) H8.out (by omega) HX.out
          have hbig : at' + 3 + (lets (xs.drop (at' + 3))).length < 1000000 := by have := HX.out; omega
          have HTE := Lib.hid (show lets (xs.drop (at' + 3)) = (xs.drop (at' + 3)).take (lets (xs.drop (at' + 3))).length by
            conv => rhs; rw [← lets_rest (xs.drop (at' + 3))]
            rw [lets_rest]
            have := lets_rest (xs.drop (at' + 3))
            conv => rhs; arg 2; rw [← this]
            simp)
          rw [h17] at cy
          generalize hq : Adr.aspec (xs.drop (at' + 1)) z = q at *
          obtain ⟨xa, xb, xc⟩ := q
          simp only at h0 HR2
          subst h0
          obtain ⟨ts, hts⟩ : ∃ ts, ts = lets (xs.drop (at' + 3)) := ⟨_, rfl⟩
          rw [← hts] at HR2 HLT HTE HLE hbig
          have es6 : IntKind.i64.wrap ((at' : Int) + 3 + (ts.length : Int)) = (at' : Int) + 3 + (ts.length : Int) := by rw [IntWalk.i64_in] <;> omega
          have HAL : Hid (∀ W, Below w.heap.size w W → Calls Tryd.prog 26 #[.slice (cutA (some ⟨g, o, none⟩) (at' + 1) cap) (xs.length - (at' + 1)) (cap - (at' + 1)), .int .i64 (z : Int)] W fun e w' => e = .returned (.tuple #[.int .i64 (xa : Int), .int .i64 0, .int .i64 xc]) ∧ Below W.heap.size W w') := HAL.out
          have HLT : Hid (∀ W, Below w.heap.size w W → Calls Tryd.prog 27 #[.slice (some ⟨g, o, none⟩) xs.length cap, .int .i64 ((at' : Int) + 3)] W fun e w' => e = .returned (.int .i64 (ts.length : Int)) ∧ W = w') := HLT.out
          clear hq hts hle hst h17
          go_wp2_with fail
          with_reducible refine (HAL.out _ HW.out).mono ?_
          rintro e wa ⟨rfl, hb⟩
          have O2 := Lib.hid (HO.out.below hb)
          have L2 := Lib.hid (blk HL.out hb)
          have R2 := Lib.hid (blk HRR.out hb)
          have K2 := kept_hid HW hb
          have B2 := Lib.hid (Nat.le_trans HBW.out hb.size)
          clear HAL hb HO HL HRR HW HBW cy
          go_wp2_with fail
          with_reducible refine (HLT.out _ K2.out).mono ?_
          rintro e w' ⟨rfl, rfl⟩
          clear HLT
          go_wp2_with fail
          have HCAP : Hid (xs.length ≤ cap) := by obtain ⟨_, c', e, h, _⟩ := HB0.out; injection e with _ _ e; rw [e]; exact h
          obtain ⟨ca, hca⟩ : ∃ ca, cutA (some ⟨g, o, none⟩) (at' + 3) cap = some ca := by
            cases hh : cutA (some ⟨g, o, none⟩) (at' + 3) cap with
            | none => exact absurd (cutA_none hh) nofun
            | some ca => exact ⟨ca, rfl⟩
          have HTB := bytes_lh (k := at' + 3) (n := ts.length) HB0.out HLE.out
          rw [← HTE.out, hca] at HTB
          have HTB := Lib.hid HTB
          have hcut : ∀ W, (Instr.slice 22 (.slice (some ⟨g, o, none⟩) xs.length cap) (some (.int .i64 ((at' : Int) + 3))) (some (.int .i64 ((at' : Int) + 3 + (ts.length : Int)))) none).run Tryd.prog W = .ok (.slice (some ca) ts.length (cap - (at' + 3))) W := fun W => by
            have := run_lh (some ⟨g, o, none⟩) xs.length cap (at' + 3) ts.length (Nat.le_trans HLE.out HCAP.out) W
            rw [hca] at this
            exact this
          have c2 := (cells3 L2.out).2.2
          have f2 := (free3 L2.out).2.2
          have HTW := Lib.hid (bytes_below HTB.out K2.out)
          have SK : Hid (∀ W, Below wa.heap.size wa W → wa.grownBy W (Value.ownBlock (.slice la os.length lc)) ∧ W.cell? ⟨L, 2, none⟩ = some (.slice la os.length lc) ∧ W.frozen? ⟨L, 2, none⟩ = false) := fun W hb => ⟨gbelow hb _, (hb.cell (cell_lt c2)).trans c2, (free3 (blk L2.out hb)).2.2⟩
          have hne : ∀ k, Value.ownBlock (.slice la os.length lc) = some k → B ≤ k := by
            obtain ⟨us, h1, _⟩ := O2.out
            exact own_ge h1
          clear hca
          have HLW := Lib.hid (there_lt L2.out)
          have lL := HLW.out
          have cLa : (wa.alloc (.cells #[] 5)).cell? ⟨L, 2, none⟩ = some (.slice la os.length lc) := ((al_any wa (.cells #[] 5)).cell (cell_lt c2)).trans c2
          go_region_law (first
              | (refine step_app8 rfl (.tmp 116) (.tmp 124) rfl wa.heap.size 0 [] (.slice (some ⟨wa.heap.size, 0, none⟩) 0 0) rfl ?_ ca ts.length _ ts rfl rfl ?_ ?_ ?_ ?_
                 · (first | exact own_below (own_lit _ _ [] (Nat.le_refl _) (by decide)) (Below.refl _ _) | exact own_below (own_lit _ _ [] (Nat.le_refl _) (by decide)) (Below.refl _ _).drew | exact own_below (own_lit _ _ [] (Nat.le_refl _) (by decide)) (Below.refl _ _).drew.drew | exact own_below (own_lit _ _ [] (Nat.le_refl _) (by decide)) (Below.refl _ _).drew.drew.drew)
                 · (first | exact bytes_below HTW.out (al_any _ _) | exact bytes_below HTW.out (al_any _ _).drew | exact bytes_below HTW.out (al_any _ _).drew.drew | exact bytes_below HTW.out (al_any _ _).drew.drew.drew)
                 · omega
                 · (first | exact (al_any wa _).size | exact (al_any wa _).drew.size | exact (al_any wa _).drew.drew.size | exact (al_any wa _).drew.drew.drew.size)
                 intro v5 w5 hown5 hgr5
                 have hB5 : Below wa.heap.size wa w5 := by
                   first | exact below_own (al_any wa _) hgr5 (own_below (own_lit wa _ [] (Nat.le_refl _) (by decide)) (Below.refl _ _)) | exact below_own (al_any wa _).drew hgr5 (own_below (own_lit wa _ [] (Nat.le_refl _) (by decide)) (Below.refl _ _).drew) | exact below_own (al_any wa _).drew.drew hgr5 (own_below (own_lit wa _ [] (Nat.le_refl _) (by decide)) (Below.refl _ _).drew.drew) | exact below_own (al_any wa _).drew.drew.drew hgr5 (own_below (own_lit wa _ [] (Nat.le_refl _) (by decide)) (Below.refl _ _).drew.drew.drew)
                 rw [Nat.zero_add, List.nil_append] at hown5
                 have c5 := (hB5.cell (p := ⟨L, 2, none⟩) lL).trans c2
                 have l5 : L < w5.heap.size := Nat.lt_of_lt_of_le lL hB5.size
                 obtain ⟨va5, vc5, rfl⟩ := own_form hown5)
              | (refine step_fld rfl (.tmp 114) (.tmp 127) rfl B (.slice la os.length lc) os rfl ?_ w5.heap.size ⟨(xa : Int), ts⟩ va5 ts.length vc5 rfl ?_ ?_ ?_ ?_ ?_
                 · (first | exact O2.out.below (kept_trans hB5 (al_any _ _)) | exact O2.out.below (kept_trans hB5 (al_any _ _)).drew | exact O2.out.below (kept_trans hB5 (al_any _ _)).drew.drew | exact O2.out.below (kept_trans hB5 (al_any _ _)).drew.drew.drew)
                 · (first | exact blk (heap_alloc_new w5 _) (Below.refl _ _) | exact blk (heap_alloc_new w5 _) (Below.refl _ _).drew | exact blk (heap_alloc_new w5 _) (Below.refl _ _).drew.drew | exact blk (heap_alloc_new w5 _) (Below.refl _ _).drew.drew.drew)
                 · (first | exact own_mono (own_below hown5 (al_any _ _)) B2.out | exact own_mono (own_below hown5 (al_any _ _).drew) B2.out | exact own_mono (own_below hown5 (al_any _ _).drew.drew) B2.out | exact own_mono (own_below hown5 (al_any _ _).drew.drew.drew) B2.out)
                 · (have := HN0.out; have := HX.out; omega)
                 · (first | exact Nat.le_trans B2.out (kept_trans hB5 (al_any _ _)).size | exact Nat.le_trans B2.out (kept_trans hB5 (al_any _ _)).drew.size | exact Nat.le_trans B2.out (kept_trans hB5 (al_any _ _)).drew.drew.size | exact Nat.le_trans B2.out (kept_trans hB5 (al_any _ _)).drew.drew.drew.size)
                 intro v6 w6 hown6 hgr6
                 obtain ⟨W6, hWx, hgr6⟩ : ∃ W6, Below wa.heap.size wa W6 ∧ World.grownBy W6 w6 (Value.ownBlock (.slice la os.length lc)) := by
                   first | exact ⟨_, (kept_trans hB5 (al_any w5 _)), hgr6⟩ | exact ⟨_, (kept_trans hB5 (al_any w5 _)).drew, hgr6⟩ | exact ⟨_, (kept_trans hB5 (al_any w5 _)).drew.drew, hgr6⟩ | exact ⟨_, (kept_trans hB5 (al_any w5 _)).drew.drew.drew, hgr6⟩
                 obtain ⟨la2, lc2, rfl⟩ := hown6.form
                 have L6 := blk_g (blk L2.out hWx) hgr6 (by intro e; have := hne _ e.symm; have := HLB.out; omega)
                 have R6 := blk_g (blk R2.out hWx) hgr6 (by intro e; have := hne _ e.symm; have := HNB.out; omega)
                 have K6 := (kept_trans K2.out hWx).grown hgr6 (kept_trans K2.out hWx).size (by intro k hk; have := hne k hk; have := HNB.out; omega)
                 have B6 := Nat.le_trans B2.out (Nat.le_trans hWx.size hgr6.size)
                 have cL6 := (cells3 L6).2.2
                 have fL6 := (free3 L6).2.2))
          all_goals
            have O6 := Lib.hid hown6
            replace L6 := Lib.hid L6
            replace R6 := Lib.hid R6
            replace K6 := Lib.hid K6
            replace B6 := Lib.hid B6
            clear hown6 hgr6 hown5 hgr5 hB5 hWx cL6 fL6 SK c2 f2 hne hcut hS1 O2 L2 R2 K2 B2 HTB HTW
          all_goals
            rw [List.length_append] at O6
            have O6 : Hid (OwnFlds w6 B (.slice la2 (os.length + 1) lc2) (os ++ [⟨(xa : Int), ts⟩])) := O6
            have G7 := gsetCell w6 L 2 (.slice la2 (os.length + 1) lc2)
            have L7 := Lib.hid (heap_setCell_same w6 L 2 _ 27 (.slice la2 (os.length + 1) lc2) L6.out)
            have R7 := Lib.hid (blk_g R6.out G7 (by intro e; injection e with e; have := HRL.out; omega))
            have K7 := Lib.hid (K6.out.grown G7 K6.out.size (by intro k hk; injection hk with hk; have := HRL.out; omega))
            have O7 := Lib.hid (O6.out.other G7 HLB.out)
            have B7 := Lib.hid (Nat.le_trans B6.out G7.size)
            clear G7 O6 L6 R6 K6 B6
            generalize w6.setCell ⟨L, 2, none⟩ (.slice la2 (os.length + 1) lc2) = w7 at *
            go_wp2_with fail
            go_roundg (xs.length - (at' + 3 + ts.length) + 1)
            case measure => have := HLE.out; omega
            case rel => exact ⟨at' + 3 + ts.length, os ++ [⟨(xa : Int), ts⟩], la2, lc2, by rw [show ((at' + 3 + ts.length : Nat) : Int) = (at' : Int) + 3 + (ts.length : Int) from by omega], rfl, HR2, Lib.hid (by rw [List.length_append]; have := HN0.out; simp only [List.length_cons, List.length_nil]; omega), by rw [List.length_append]; exact O7, by rw [List.length_append]; exact L7, R7, K7, B7⟩
        · have HR2 := Lib.hid (runs_addr HRU.out hlt h17 h0)
          have HH0 := Lib.hid h0
          rw [h17] at cy
          generalize hq : Adr.aspec (xs.drop (at' + 1)) z = q at *
          obtain ⟨xa, xb, xc⟩ := q
          simp only at HH0 HR2
          have e1 : ((xb : Int) != 0) = true := by simpa using HH0.out
          have HAL : Hid (∀ W, Below w.heap.size w W → Calls Tryd.prog 26 #[.slice (cutA (some ⟨g, o, none⟩) (at' + 1) cap) (xs.length - (at' + 1)) (cap - (at' + 1)), .int .i64 (z : Int)] W fun e w' => e = .returned (.tuple #[.int .i64 (xa : Int), .int .i64 (xb : Int), .int .i64 xc]) ∧ Below W.heap.size W w') := HAL.out
          clear hq h17 h0
          go_wp2_with fail
          with_reducible refine (HAL.out _ HW.out).mono ?_
          rintro e wa ⟨rfl, hb⟩
          have R2 := Lib.hid (blk HRR.out hb)
          have K2 := kept_hid HW hb
          have hR := HR.out
          rw [HR2.out, if_pos HH0.out] at hR
          clear HAL hb HO HL HRR HW HBW cy
          obtain ⟨d0, d1, d2⟩ := cells3 R2.out
          obtain ⟨f0, f1, f2⟩ := free3 R2.out
          go_wp2_with fail
          clear d0 d1 d2 f0 f1 f2
          have SF := Lib.hid (set3b wa w.heap.size 27 _ _ _ (.int .u8 0) (.int .i64 0) (.slice none 0 0) R2.out K2.out (Nat.le_refl _))
          generalize ((wa.setCell ⟨w.heap.size, 0, none⟩ (.int .u8 0)).setCell ⟨w.heap.size, 1, none⟩ (.int .i64 0)).setCell ⟨w.heap.size, 2, none⟩ (.slice none 0 0) = wz at *
          subst hR
          refine bodyPost_ret (v := .tuple #[.agg #[.int .u8 0, .int .i64 0, .slice none 0 0], .int .i64 (xb : Int), .int .i64 ((at' + 1 : Nat) : Int)]) (results_cell_2 rfl _ _ _ w.heap.size _ rfl (run_loadVar_row wz w.heap.size 27 27 _ (0, 0) _ SF.out.1 Tryd.underlying27 rfl (by kernel_rfl)) (.int .i64 (xb : Int)) (.int .i64 ((at' + 1 : Nat) : Int)) rfl rfl) rfl ?_
          exact ⟨_, _, _, rfl, fldsIn_nil _ _, SF.out.2.2⟩
      · have HR2 := Lib.hid (runs_bad HRU.out hlt h17)
        generalize xs.getD at' 0 = y at *
        have e1 : ((y : Int) != 17) = true := by simp; omega
        have hR := HR.out
        rw [HR2.out, if_pos (by simp)] at hR
        clear h17
        obtain ⟨d0, d1, d2⟩ := cells3 HRR.out
        obtain ⟨f0, f1, f2⟩ := free3 HRR.out
        go_wp2_with fail
        clear d0 d1 d2 f0 f1 f2
        have SF := Lib.hid (set3b wr w.heap.size 27 _ _ _ (.int .u8 0) (.int .i64 0) (.slice none 0 0) HRR.out HW.out (Nat.le_refl _))
        generalize ((wr.setCell ⟨w.heap.size, 0, none⟩ (.int .u8 0)).setCell ⟨w.heap.size, 1, none⟩ (.int .i64 0)).setCell ⟨w.heap.size, 2, none⟩ (.slice none 0 0) = wz at *
        subst hR
        refine bodyPost_ret (v := .tuple #[.agg #[.int .u8 0, .int .i64 0, .slice none 0 0], .int .i64 3, .int .i64 (at' : Int)]) (results_cell_2 rfl _ _ _ w.heap.size _ rfl (run_loadVar_row wz w.heap.size 27 27 _ (0, 0) _ SF.out.1 Tryd.underlying27 rfl (by kernel_rfl)) (.int .i64 3) (.int .i64 (at' : Int)) rfl rfl) rfl ?_
        exact ⟨_, _, _, rfl, fldsIn_nil _ _, SF.out.2.2⟩
    · have hat : at' = xs.length := by have := HRU.out.1; omega
      have hi : ¬ (at' : Int) < (xs.length : Int) := by omega
      have HQ := Lib.hid (show Q = (os, 0, xs.length) from runs_end (by have := HRU.out; rwa [hat] at this))
      have hR := HR.out
      rw [HQ.out, if_neg (by simp)] at hR
      clear hlt hat
      obtain ⟨c0, c1, c2⟩ := cells3 HL.out
      obtain ⟨d0, d1, d2⟩ := cells3 HRR.out
      obtain ⟨f0, f1, f2⟩ := free3 HRR.out
      go_wp2_with fail
      clear d0 d1 d2 f0 f1 f2
      have SF := Lib.hid (set3b wr w.heap.size 27 _ _ _ (.int .u8 (c : Int)) (.int .i64 (a : Int)) (.slice la os.length lc) HRR.out HW.out (Nat.le_refl _))
      generalize ((wr.setCell ⟨w.heap.size, 0, none⟩ (.int .u8 (c : Int))).setCell ⟨w.heap.size, 1, none⟩ (.int .i64 (a : Int))).setCell ⟨w.heap.size, 2, none⟩ (.slice la os.length lc) = wz at *
      subst hR
      refine bodyPost_ret (v := .tuple #[.agg #[.int .u8 (c : Int), .int .i64 (a : Int), .slice la os.length lc], .int .i64 0, .int .i64 (-1)]) (results_cell_2 rfl _ _ _ w.heap.size _ rfl (run_loadVar_row wz w.heap.size 27 27 _ (0, 0) _ SF.out.1 Tryd.underlying27 rfl (by kernel_rfl)) (.int .i64 0) (.int .i64 (-1)) rfl rfl) rfl ?_
      exact ⟨_, _, _, rfl, (HO.out.other SF.out.2.1 HNB.out).to.mono (Nat.zero_le _), SF.out.2.2⟩
/-- The document's Read of whatever bytes. -/
theorem rread_any {xs : List Nat} (ad : Option Addr) (cap z : Nat) (w : World) (hB : BytesIn w (.slice ad xs.length cap) xs) (h8 : ∀ x ∈ xs, x < 256) (hx : xs.length < 1000000) (R : I × Nat × Int) (hR : R = iread xs z) :
    Calls Tryd.prog 11 #[.slice ad xs.length cap, .int .i64 (z : Int)] w fun e w' => ∃ oa n oc, e = .returned (.tuple #[.agg #[.int .u8 (R.1.aid : Int), .int .i64 R.1.cur, .slice oa n oc], .int .i64 (R.2.1 : Nat), .int .i64 R.2.2]) ∧ FldsIn w' 0 (.slice oa n oc) R.1.fs ∧ Below w.heap.size w w' := by
  by_cases hl : 8192 < xs.length
  · exact rread_long ad cap z w hB hx R hl (by rw [hR]; unfold iread; rw [if_pos hl])
  cases xs with
  | nil => exact rread_none ad cap z w hB hx R rfl (by rw [hR]; unfold iread; rw [if_neg hl])
  | cons c ys =>
    have hc8 := h8 c (by simp)
    have hl0 : 0 < (c :: ys).length := by simp
    have hl2 : (c :: ys).length ≤ 8192 := by omega
    unfold iread at hR
    rw [if_neg hl] at hR
    simp only at hR
    cases hk : aid c with
    | false =>
      rw [if_pos hk] at hR
      exact rread_strange ad cap z w hB hx R hl0 hl2 hc8 c rfl hk hR
    | true =>
      rw [if_neg (by rw [hk]; decide)] at hR
      cases hw : bare c with
      | true =>
        rw [if_pos hw] at hR
        by_cases hy : ys = []
        · rw [if_neg (by simpa using hy)] at hR
          subst hy
          exact rread_bare ad cap z w hB hx R hl0 hl2 hc8 c rfl hk hw rfl hR
        · rw [if_pos hy] at hR
          have : 0 < ys.length := List.length_pos_iff.2 hy
          exact rread_more ad cap z w hB hx R hl0 hl2 hc8 c rfl hk hw (by simp only [List.length_cons]; omega) hR
      | false =>
        rw [if_neg (by rw [hw]; decide)] at hR
        by_cases hs : (Adr.aspec ys z).2.1 = 0
        · rw [if_neg (by rw [hs]; simp)] at hR
          obtain ⟨a, r2, _, _, hr, hsp⟩ := Adr.put_aspec ys z (fun x hx => h8 x (List.mem_cons_of_mem _ hx)) hs
          have h3 : 3 ≤ (c :: ys).length := by rw [hr]; simp
          have hd : (c :: ys).drop 3 = ys.drop 2 := rfl
          rw [hsp] at hR
          rw [← hd] at hR
          by_cases hn : lets ((c :: ys).drop 3) = []
          · rw [if_neg (by simpa using hn)] at hR
            refine rread_flds ad cap z w hB hx R h8 hl0 hl2 hc8 c rfl hk hw h3 a hsp 0 (by rw [hn]; rfl) rfl _ (runs_start (f := ys.length) h3 (by simp only [List.length_cons]; omega)) hR
          · rw [if_pos hn] at hR
            have hk0 : 0 < (lets ((c :: ys).drop 3)).length := List.length_pos_iff.2 hn
            have hlr := congrArg List.length (lets_rest ((c :: ys).drop 3))
            simp only [List.length_append] at hlr
            have hdl : ((c :: ys).drop 3).length = (c :: ys).length - 3 := List.length_drop
            by_cases hrs : rest ((c :: ys).drop 3) = []
            · rw [if_neg (by simpa using hrs)] at hR
              refine rread_all ad cap z w hB hx R h8 hl0 hl2 hc8 c rfl hk hw h3 a hsp _ rfl hk0 ?_ hR
              rw [hrs] at hlr
              simp only [List.length_nil] at hlr
              omega
            · rw [if_pos hrs] at hR
              have : 0 < (rest ((c :: ys).drop 3)).length := List.length_pos_iff.2 hrs
              exact rread_some ad cap z w hB hx R h8 hl0 hl2 hc8 c rfl hk hw h3 a hsp _ rfl hk0 (by omega) hR
        · rw [if_pos hs] at hR
          exact rread_addr ad cap z w hB hx R h8 hl0 hl2 hc8 c rfl hk hw _ rfl hs hR
end Inp
end Go.Proofs.YthjocmcafoifbaaDoor
