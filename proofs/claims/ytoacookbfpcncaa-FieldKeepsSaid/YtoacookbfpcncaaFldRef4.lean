/- The document's Cells of layer 11. -/
import Derived.Test.YtoacookbfpcncaaFldRef
import Derived.Test.YtoacookbfpcncaaGrdRow
namespace Go.Proofs.Ytoacookbfpcncaa
open Go.RowKit Sha Six Apd Cut Err Att Grd
set_option linter.unusedVariables false
namespace Fld
theorem clen_spec (cs : List C) (b : Int) : clen cs b ≤ cs.length ∧ (∀ i, i < clen cs b → fat cs (on cs.length b ((i : Int) + 1)) = false) ∧ (clen cs b < cs.length → fat cs (on cs.length b ((clen cs b : Int) + 1)) = true) := by
  unfold clen
  cases hk : firstK (fun k => fat cs (on cs.length b (k : Int))) 1 cs.length with
  | none =>
    refine ⟨Nat.le_refl _, fun i hi => ?_, fun h => absurd h (Nat.lt_irrefl _)⟩
    have := firstK_none hk (i + 1) (by omega) (by simp only at hi; omega)
    rwa [show ((i + 1 : Nat) : Int) = (i : Int) + 1 by omega] at this
  | some k =>
    obtain ⟨g1, g2, g3, g4⟩ := firstK_some hk
    simp only
    refine ⟨by omega, fun i hi => ?_, fun _ => ?_⟩
    · have := g4 (i + 1) (by omega) (by omega)
      rwa [show ((i + 1 : Nat) : Int) = (i : Int) + 1 by omega] at this
    · rw [show ((k - 1 : Nat) : Int) + 1 = (k : Int) by omega]; exact g3
theorem begin_bounds (cs : List C) (a : Nat) (ha : a < cs.length) : -1 ≤ begin_ cs a ∧ begin_ cs a < (cs.length : Int) := by
  cases hf : fmt cs with
  | false => rw [begin_none ha hf]; omega
  | true =>
    obtain ⟨_, b, _, _, hb, hl, _⟩ := begin_some ha hf
    rw [hb]; omega
set_option maxRecDepth 100000 in
set_option maxHeartbeats 8000000 in
theorem rcells_any (s : S) (ad : Option Addr) (k : Nat) (a : Nat) (w : World) (h : CelsIn w (.slice ad s.cs.length k) s.cs) (hz : 0 < s.cs.length) (hl : s.cs.length < 100000000) (ha : a < s.cs.length) :
    Calls Try.prog 17 #[.agg #[.int .i64 s.rows, .int .i64 s.cols, .slice ad s.cs.length k, .int .i64 s.cur, .bool s.lk, .bool s.ins], .int .i64 (a : Int)] w fun e w' => ∃ v, e = .returned v ∧ OwnInts w' w.heap.size v (cells s.cs a) ∧ Below w.heap.size w w' := by
  have HB := Lib.hid (al_any w (.cells #[.int .i64 s.rows, .int .i64 s.cols, .slice ad s.cs.length k, .int .i64 s.cur, .bool s.lk, .bool s.ins] 24))
  have HX := Lib.hid (heap_alloc_new w (.cells #[.int .i64 s.rows, .int .i64 s.cols, .slice ad s.cs.length k, .int .i64 s.cur, .bool s.lk, .bool s.ins] 24))
  have H0 := Lib.hid h
  have HI := Lib.hid (h.below HB.out)
  have HZ := Lib.hid hz
  have HL := Lib.hid hl
  have HP := Lib.hid fun W hb => rbegin_any s ad k a W (HI.out.below hb) hz hl ha
  have HBB := Lib.hid (begin_bounds s.cs a ha)
  have HC := Lib.hid (clen_spec s.cs (begin_ s.cs a))
  have HG := Lib.hid (fun i (h : i < clen s.cs (begin_ s.cs a)) => cells_getD (cs := s.cs) (b := begin_ s.cs a) h)
  have HN := Lib.hid (cells_len s.cs (begin_ s.cs a))
  have hcl : cells s.cs a = cellsAt s.cs (begin_ s.cs a) := rfl
  rw [hcl]
  clear hcl h hz hl ha
  have hlb : (s.cs.length : Int) < 100000000 := by have := HL.out; omega
  go_enter Try.func17, Try.ntmps17
  go_upto_region 1 with (fail)
  generalize w.alloc _ = w1 at *
  obtain ⟨c0, c1, c2, c3, c4, c5⟩ := cells6 HX.out
  go_wp2_with fail
  with_reducible refine (HP.out _ (Below.refl _ _)).mono ?_
  rintro e w2 ⟨rfl, hb⟩
  have K2 := kept_hid HB hb
  have X2 := Lib.hid (blk HX.out hb)
  clear hb c0 c1 c2 c3 c4 c5 HB HX HI HP
  generalize hcs : cellsAt s.cs (begin_ s.cs a) = cl at HG HN
  replace hcs := Lib.hid hcs
  generalize hcn : clen s.cs (begin_ s.cs a) = L at HC HG HN
  clear hcn
  generalize begin_ s.cs a = B at HBB HC HG ⊢
  have hB0 : -1 ≤ B := HBB.out.1
  have hB1 : B < (s.cs.length : Int) := HBB.out.2
  go_wp2_with fail
  go_loopg [5, 7] (L + 2) (fun m v i wr => ∃ p : Nat, 1 ≤ p ∧ p ≤ L + 1 ∧ m = L + 3 - p ∧ i = .int .i64 p ∧ Hid (Below w2.heap.size w2 wr ∨ True) ∧ Hid (Below w.heap.size w wr) ∧ Hid (wr.heap[w.heap.size]? = some (.cells #[.int .i64 s.rows, .int .i64 s.cols, .slice ad s.cs.length k, .int .i64 s.cur, .bool s.lk, .bool s.ins] 24 (0, 0))) ∧ Hid (OwnInts wr (w.heap.size + 1) v (cl.take (p - 1))))
  case atStart => exact ⟨1, Nat.le_refl _, by omega, by omega, rfl, Lib.hid (.inr trivial), K2, X2, Lib.hid (World.ownsRow_nil _ _ _ _)⟩
  case round =>
    obtain ⟨p, hp1, hp, rfl, rfl, _, HK, HXr, HW⟩ := hrel
    have HIr := Lib.hid (H0.out.below HK.out)
    have ew : IntKind.i64.wrap ((p : Int) + 1) = (p : Int) + 1 := by
      have := HL.out; have := HC.out.1
      rw [IntWalk.i64_in] <;> omega
    obtain ⟨va, vc, rfl⟩ := HW.out.form
    have HLT := Lib.hid (show (cl.take (p - 1)).length = p - 1 by rw [List.length_take, HN.out]; omega)
    obtain ⟨c0, c1, c2, c3, c4, c5⟩ := cells6 HXr.out
    by_cases hlt : p ≤ s.cs.length
    · have hle : (p : Int) ≤ (s.cs.length : Int) := by omega
      have HM := Lib.hid fun W => rmod_any (B + (p : Int)) s.cs.length (on s.cs.length B (p : Int)) W HZ.out HL.out (by have := HL.out; omega) (by rw [on_cast HZ.out])
      have HIX := Lib.hid (on_lt HZ.out B (p : Int))
      obtain ⟨xf, xp, xn, xs, xm, xc, ex⟩ := c_eta (s.cs.getD (on s.cs.length B (p : Int)) noC)
      obtain ⟨b1, o1, rfl, g0, g1, g2, g3, g4, g5⟩ := HIr.out.cells HIX.out ex
      have HQ := Lib.hid (fat_of ex)
      have HGP := Lib.hid (fun (h : p - 1 < L) => show cl.getD (p - 1) 0 = on s.cs.length B (p : Int) by
        rw [HG.out _ h]; congr 1; omega)
      have HFN := Lib.hid (fun (h : p - 1 < L) => show fat s.cs (on s.cs.length B (p : Int)) = false by
        have := HC.out.2.1 _ h
        rwa [show ((p - 1 : Nat) : Int) + 1 = (p : Int) by omega] at this)
      have HFY := Lib.hid (fun (h : p - 1 = L) => show fat s.cs (on s.cs.length B (p : Int)) = true by
        have := HC.out.2.2 (by omega)
        rwa [show ((L : Int) + 1) = (p : Int) by omega] at this)
      clear ex
      generalize on s.cs.length B (p : Int) = ix at *
      have hi0 : (0 : Int) ≤ (ix : Int) := by omega
      have hi1 : (ix : Int) < (s.cs.length : Int) := by have := HIX.out; omega
      cases xf with
      | true =>
        have hpl : p - 1 = L := by
          rcases Nat.lt_or_ge (p - 1) L with h' | h'
          · have := HFN.out h'; rw [HQ.out] at this; cases this
          · omega
        have W6 := Lib.hid (show OwnInts wr w.heap.size (.slice va (p - 1) vc) cl from by
          have := HW.out.mono (Nat.le_succ w.heap.size)
          rwa [HLT.out, List.take_of_length_le (by rw [HN.out]; omega)] at this)
        clear hpl HFY HFN HGP HQ
        go_wp2_with fail
        with_reducible refine (HM.out _).mono ?_
        rintro e w3 ⟨rfl, rfl⟩
        rw [HLT.out]
        go_wp2_with fail
        go_ret
        exact ⟨_, rfl, by rw [hcs.out]; exact W6.out, HK.out⟩
      | false =>
        have hpl : p - 1 < L := by
          rcases Nat.lt_or_ge (p - 1) L with h' | h'
          · exact h'
          · have := HFY.out (by omega); rw [HQ.out] at this; cases this
        have HTK := Lib.hid (show cl.take (p - 1) ++ [ix] = cl.take p by
          have h2 := HGP.out hpl
          have h3 : p - 1 < cl.length := by rw [HN.out]; exact hpl
          rw [List.getD_eq_getElem?_getD, List.getElem?_eq_getElem h3, Option.getD_some] at h2
          rw [← h2, ← List.take_succ_eq_append_getElem h3, show p - 1 + 1 = p by omega])
        have HPL := Lib.hid hpl
        clear hpl HFY HFN HGP HQ
        have HAL := al_any wr (.cells #[.int .i64 (ix : Int)] 3)
        have K4 := kept_hid HK HAL
        have X4 := Lib.hid (blk HXr.out HAL)
        have W4 := Lib.hid (HW.out.below HAL)
        have L4 := Lib.hid (heap_alloc_new wr (.cells #[.int .i64 (ix : Int)] 3))
        have HOG := Lib.hid (show ∀ g, (Value.slice va (cl.take (p - 1)).length vc).ownBlock = some g → w.heap.size + 1 ≤ g from own_ge HW.out)
        clear HK HXr HW HAL HIr
        go_wp2_with fail
        with_reducible refine (HM.out _).mono ?_
        rintro e w3 ⟨rfl, rfl⟩
        rw [HLT.out]
        go_wp2_with (at_builtin; refine wpList_mark ?_)
        refine Lib.hid ?_
        refine append_int rfl (.tmp 32) (.tmp 34) rfl (w.heap.size + 1) (.slice va (cl.take (p - 1)).length vc) (cl.take (p - 1)) (by rw [HLT.out]; rfl) W4.out wr.heap.size ix rfl L4.out (by rw [HLT.out]; have := HPL.out; have := HC.out.1; have := HL.out; omega) (there_lt X4.out) ?_
        intro v' w5 hown hgr
        rw [HTK.out] at hown
        have W5 := Lib.hid (show OwnInts w5 (w.heap.size + 1) v' (cl.take (p + 1 - 1)) from by rw [Nat.add_sub_cancel]; exact hown)
        have X5 := Lib.hid (blk_g X4.out hgr (by intro e; have := HOG.out _ e.symm; omega))
        have K5 := Lib.hid (K4.out.grown hgr K4.out.size (fun g hg => by have := HOG.out _ hg; omega))
        obtain ⟨va5, vc5, rfl⟩ := W5.out.form
        have HLT5 := Lib.hid (show (cl.take (p + 1 - 1)).length = p by rw [Nat.add_sub_cancel, List.length_take, HN.out]; have := HPL.out; omega)
        clear hown hgr HTK W4 X4 K4 L4
        rw [HLT5.out]
        go_wp2_with fail
        go_roundg (L + 3 - (p + 1))
        case measure => have := HPL.out; omega
        case rel => exact ⟨p + 1, by omega, by have := HPL.out; omega, rfl, rfl, Lib.hid (.inr trivial), K5, X5, Lib.hid (by have := W5.out; rwa [HLT5.out] at this)⟩
    · have hpl : p - 1 = L := by have := HC.out.1; omega
      have W6 := Lib.hid (show OwnInts wr w.heap.size (.slice va (p - 1) vc) cl from by
        have := HW.out.mono (Nat.le_succ w.heap.size)
        rwa [HLT.out, List.take_of_length_le (by rw [HN.out]; omega)] at this)
      have hgt : ¬ (p : Int) ≤ (s.cs.length : Int) := by omega
      clear hlt hpl
      rw [HLT.out]
      go_wp2_with fail
      go_ret
      exact ⟨_, rfl, by rw [hcs.out]; exact W6.out, HK.out⟩
end Fld
end Go.Proofs.Ytoacookbfpcncaa
