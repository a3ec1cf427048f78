/- The law WindowOnce. Written by tools/gen_win_laws.py. -/
import Derived.Test.YteggdfkmncikpaaDoorWinAwake
import Derived.Test.YteggdfkmncikpaaDoorWinRow
import Derived.Test.YteggdfkmncikpaaDoorWinU16
import Derived.Deep.QuietTactic
import Derived.BigQuiet
import Derived.Deep.Cut
import Derived.Deep.LoopGhost
import Derived.Deep.RegionLaw
import Derived.Deep.RegionHeld3
import Derived.IntWalk
import Derived.Lib.SmallJoins
namespace Go.Proofs.YteggdfkmncikpaaDoor
open Go.RowKit Sha Six Apd Cut Err
set_option linter.unusedVariables false
set_option linter.unusedSimpArgs false
namespace Win
set_option maxRecDepth 100000 in
set_option maxHeartbeats 8000000 in
theorem once_core (xs : List Nat) (a : Option Addr) (cap : Nat) (w : World) (hx : R16 w a xs) (hg : Handle w) :
    Calls Tryd.prog 4 #[.slice a xs.length cap] w fun e w' => e = .returned (.bool true) ∧ Below w.heap.size w w' := by
  have HAW := Lib.hid fun W (hb : Below w.heap.size w W) => awake_any W (hand_of hg hb)
  have HCO := Lib.hid fun W n (hb : Below w.heap.size w W) => code_errn n W (hand_of hg hb)
  have HX := Lib.hid hx
  clear hg hx
  by_cases hl : 200 < xs.length
  · have hl' : decide ((200 : Int) < (xs.length : Int)) = true := by simp; omega
    clear hl
    go_enter Tryd.func4, Tryd.ntmps4
    go_wp2_with fail
    with_reducible refine (HAW.out _ (Below.refl _ _)).mono ?_
    rintro e w2 ⟨rfl, hb⟩
    have K2 := Lib.hid hb
    clear hb
    go_wp2_with fail
    with_reducible refine (HAW.out _ K2.out).mono ?_
    rintro e wq ⟨rfl, hb⟩
    have KE := kept_hid K2 hb
    clear hb
    go_wp2_with fail
    go_ret
    exact ⟨rfl, KE.out⟩
  · have hl' : decide ((200 : Int) < (xs.length : Int)) = false := by simp; omega
    have HLN := Lib.hid (show xs.length ≤ 200 by omega)
    clear hl
    go_enter Tryd.func4, Tryd.ntmps4
    go_wp2_with fail
    with_reducible refine (HAW.out _ (Below.refl _ _)).mono ?_
    rintro e w2 ⟨rfl, hb⟩
    have HA := al_any w2 (.cells #[.int .i64 0, .int .u64 0] 24)
    have X3 := Lib.hid (heap_alloc_new w2 (.cells #[.int .i64 0, .int .u64 0] 24))
    have K3 := Lib.hid (kept_trans hb HA)
    have HW0 := Lib.hid hb.size
    clear hb HA
    go_upto_region 4 with (fail)
    clear hl'
    generalize w2.heap.size = G at *
    generalize w2.alloc _ = w3 at *
    have HGW := Lib.hid (there_lt X3.out)
    go_wp2_with fail
    go_loopg [4, 5, 6] (xs.length + 1) (fun mm vv tt ii wr => ∃ (k : Nat) (s : W) (l : List Int) (va : Option Addr) (vc : Nat), k ≤ xs.length ∧ mm = xs.length + 1 - k ∧ ii = .int .i64 (k : Int) ∧ tt = .int .i64 s.top ∧ vv = .slice va l.length vc ∧ Hid (right s = true ∧ s.bits < 18446744073709551616) ∧ Hid (l.length ≤ k) ∧ Hid (∀ m ∈ l, has s m = true ∨ 64 ≤ s.top - m) ∧ Hid (OwnIs wr (G + 1) (.slice va l.length vc) l) ∧ Hid (wr.heap[G]? = some (.cells #[.int .i64 s.top, .int .u64 (s.bits : Int)] 24 (0, 0))) ∧ Hid (Below w.heap.size w wr))
    case atStart => exact ⟨0, ⟨0, 0⟩, [], none, 0, Nat.zero_le _, rfl, rfl, rfl, rfl, Lib.hid ⟨rfl, by decide⟩, Lib.hid (Nat.zero_le _), Lib.hid nofun, Lib.hid (own_nilI _ _), X3, K3⟩
    case round =>
      obtain ⟨k, s, l, va, vc, hk, rfl, rfl, rfl, rfl, HRT, HLK, HMM, OR, XR, KR⟩ := hrel
      clear X3 K3 HGW
      by_cases hlt : k < xs.length
      · have HLT := Lib.hid hlt
        have hj : (k : Int) < (xs.length : Int) := by omega
        have hj0 : (0 : Int) ≤ (k : Int) := by omega
        obtain ⟨g, off, rfl, d0⟩ := (HX.out.below KR.out).cell k hlt
        have ew : wrap64 ((k : Int) + 1) = (k : Int) + 1 := by have := HLN.out; rw [IntWalk.wrap64_in] <;> omega
        have HXS := Lib.hid (show xs.getD k 0 < 65536 from byte_lt HX.out.small (by decide) _)
        generalize xs.getD k 0 = x at *
        have hxw : IntKind.i64.wrap (x : Int) = (x : Int) := by have := HXS.out; rw [IntWalk.i64_in] <;> omega
        have hxw2 : wrap64 (x : Int) = (x : Int) := by have := HXS.out; rw [IntWalk.wrap64_in] <;> omega
        obtain ⟨HR, hbs⟩ := HRT.out
        obtain ⟨ht0, ht1⟩ := right_fit HR
        have HFT := Lib.hid (show Fit s from ⟨hbs, by rw [IntWalk.i64_in] <;> omega⟩)
        have HL := Lib.hid fun W => let_any s (x : Int) W HR HFT.out hxw
        have HRR := Lib.hid HR
        have HBS := Lib.hid hbs
        obtain ⟨c0, c1⟩ := cells2 XR.out
        rcases lets_cases s (x : Int) with ⟨e2, e1, h⟩ | ⟨e2, e1, _, _, h, _⟩ | ⟨e2, e1, q1, q2, q3, q4⟩
        · rw [e1, e2] at HL
          have hnt : ¬ s.top < (x : Int) := by have := HXS.out; omega
          simp only [GaveL, show errn 1 = .iface 46 (.int .i64 1) from rfl] at HL
          have hq := fun W => run_neqS s s W
          rw [(seq s s).2 rfl] at hq
          simp only [Bool.not_true] at hq
          clear e1 e2 h HR hbs
          go_wp2_with fail
          with_reducible refine (HL.out _).mono ?_
          rintro e w4 ⟨rfl, hb⟩
          have HA := al_any w4 (.cells #[.int .i64 s.top, .int .u64 (s.bits : Int)] 24)
          have Y5 := Lib.hid (heap_alloc_new w4 (.cells #[.int .i64 s.top, .int .u64 (s.bits : Int)] 24))
          have hk2 := kept_trans hb HA
          have X5 := Lib.hid (blk XR.out hk2)
          have K5 := kept_hid KR hk2
          have O5 := Lib.hid (OR.out.below hk2)
          clear hb HA hk2 XR KR OR HL c0 c1 d0
          go_upto_region 11 with (fail)
          generalize w4.heap.size = G2 at *
          generalize w4.alloc _ = w5 at *
          obtain ⟨c0, c1⟩ := cells2 X5.out
          obtain ⟨d0, d1⟩ := cells2 Y5.out
          go_wp2_with fail
          go_roundg (xs.length + 1 - (k + 1))
          case measure => exact meas HLT.out
          case rel => exact ⟨k + 1, s, l, va, vc, HLT.out, rfl, by first | exact congrArg (Value.int .i64) ew | rfl, rfl, rfl, HRT, Lib.hid (Nat.le_succ_of_le HLK.out), HMM, O5, X5, K5⟩
        · rw [e1, e2] at HL
          have hnt : ¬ s.top < (x : Int) := by have := HXS.out; omega
          simp only [GaveL, show errn 12 = .iface 46 (.int .i64 12) from rfl] at HL
          have hq := fun W => run_neqS s s W
          rw [(seq s s).2 rfl] at hq
          simp only [Bool.not_true] at hq
          clear e1 e2 h HR hbs
          go_wp2_with fail
          with_reducible refine (HL.out _).mono ?_
          rintro e w4 ⟨rfl, hb⟩
          have HA := al_any w4 (.cells #[.int .i64 s.top, .int .u64 (s.bits : Int)] 24)
          have Y5 := Lib.hid (heap_alloc_new w4 (.cells #[.int .i64 s.top, .int .u64 (s.bits : Int)] 24))
          have hk2 := kept_trans hb HA
          have X5 := Lib.hid (blk XR.out hk2)
          have K5 := kept_hid KR hk2
          have O5 := Lib.hid (OR.out.below hk2)
          clear hb HA hk2 XR KR OR HL c0 c1 d0
          go_upto_region 11 with (fail)
          generalize w4.heap.size = G2 at *
          generalize w4.alloc _ = w5 at *
          obtain ⟨c0, c1⟩ := cells2 X5.out
          obtain ⟨d0, d1⟩ := cells2 Y5.out
          go_wp2_with fail
          go_roundg (xs.length + 1 - (k + 1))
          case measure => exact meas HLT.out
          case rel => exact ⟨k + 1, s, l, va, vc, HLT.out, rfl, by first | exact congrArg (Value.int .i64) ew | rfl, rfl, rfl, HRT, Lib.hid (Nat.le_succ_of_le HLK.out), HMM, O5, X5, K5⟩
        · rw [e1, e2] at HL
          simp only [GaveL, errn_0] at HL
          have HIR := Lib.hid (in_right HR hbs q1 q2 q3)
          have HIB := Lib.hid (in_lt hbs q3)
          have HIT := Lib.hid (in_top s (x : Int))
          have HIH := Lib.hid (in_has (s := s) (n := (x : Int)) q3)
          have HIO := Lib.hid fun m (hm : m ∈ l) => in_old (n := (x : Int)) q3 (HMM.out m hm)
          have HNI := Lib.hid (show ∀ m ∈ l, m ≠ (x : Int) from fun m hm he => by
            rcases HMM.out m hm with h | h
            · rw [he, q4] at h; cases h
            · omega)
          generalize in_ s (x : Int) = u at *
          have hut := right_fit HIR.out
          have HFU := Lib.hid (show Fit u from ⟨HIB.out, by rw [IntWalk.i64_in] <;> omega⟩)
          have HR2 := Lib.hid fun W => right_any u W HFU.out
          have HH2 := Lib.hid fun W => has_any u (x : Int) W HIR.out HFU.out hxw
          rw [HIR.out] at HR2
          rw [HIH.out] at HH2
          clear e1 e2 q1 q2 q3 q4 HR hbs hut HMM
          go_wp2_with fail
          with_reducible refine (HL.out _).mono ?_
          rintro e w4 ⟨rfl, hb⟩
          have HA := al_any w4 (.cells #[.int .i64 u.top, .int .u64 (u.bits : Int)] 24)
          have Y5 := Lib.hid (heap_alloc_new w4 (.cells #[.int .i64 u.top, .int .u64 (u.bits : Int)] 24))
          have hk2 := kept_trans hb HA
          have X5 := Lib.hid (blk XR.out hk2)
          have K5 := kept_hid KR hk2
          have O5 := Lib.hid (OR.out.below hk2)
          have OT := Lib.hid (fun g (h : (Value.slice va l.length vc).ownBlock = some g) => Nat.lt_of_lt_of_le (own_top OR.out g h) hb.size)
          have HGL := Lib.hid (Nat.lt_of_lt_of_le (there_lt XR.out) hb.size)
          clear hb HA hk2 XR KR OR HL c0 c1 d0
          go_upto_region 11 with (fail)
          generalize w4.heap.size = G2 at *
          generalize w4.alloc _ = w5 at *
          have HG2 := Lib.hid (there_lt Y5.out)
          go_wp2_with fail
          go_loopg [10] (l.length + 1) (fun mm ii wr => ∃ (j : Nat), j ≤ l.length ∧ mm = l.length + 1 - j ∧ ii = .int .i64 (j : Int) ∧ w5 = wr)
          case atStart => exact ⟨0, Nat.zero_le _, rfl, rfl, rfl⟩
          case round =>
            obtain ⟨j, hj1, rfl, rfl, rfl⟩ := hrel
            by_cases hjl : j < l.length
            · have HJL := Lib.hid hjl
              have hja : (j : Int) < (l.length : Int) := by omega
              have hjb : (0 : Int) ≤ (j : Int) := by omega
              obtain ⟨g', rfl, _, _, dd, _⟩ := O5.out.cell hjl
              rw [Nat.zero_add] at dd
              have hne : (l.getD j 0 == (x : Int)) = false := by
                have := HNI.out (l.getD j 0) (by rw [List.getD_eq_getElem?_getD, List.getElem?_eq_getElem hjl]; exact List.getElem_mem _)
                simp only [beq_eq_false_iff_ne, ne_eq]; exact this
              have ejw : wrap64 ((j : Int) + 1) = (j : Int) + 1 := by have := HLK.out; have := HLT.out; have := HLN.out; rw [IntWalk.wrap64_in] <;> omega
              generalize l.getD j 0 = y at *
              clear hjl hj1
              go_wp2_with fail
              go_roundg (l.length + 1 - (j + 1))
              case measure => exact meas HJL.out
              case rel => exact ⟨j + 1, HJL.out, rfl, by first | exact congrArg (Value.int .i64) ejw | rfl, rfl⟩
            · obtain rfl : j = l.length := by omega
              have hja : ¬ (l.length : Int) < (l.length : Int) := by omega
              clear hjl hj1
              go_wp2_with (at_builtin; refine wpList_mark ?_)
              have HA := al_any w5 (.cells #[.int .i64 (x : Int)] 3)
              have LT := Lib.hid (heap_alloc_new w5 (.cells #[.int .i64 (x : Int)] 3))
              have OS := Lib.hid (own_below O5.out HA)
              have XS := Lib.hid (blk X5.out HA)
              have YS := Lib.hid (blk Y5.out HA)
              have KS := kept_hid K5 HA
              have LS := Lib.hid (show G + 1 ≤ (w5.alloc (.cells #[.int .i64 (x : Int)] 3)).heap.size from there_lt XS.out)
              have HG := Lib.hid (own_ge OS.out)
              clear HA O5 X5 Y5 K5
              generalize w5.alloc _ = wl at *
              refine Lib.hid ?_
              refine append_i rfl (.tmp 62) (.tmp 64) rfl (G + 1) (.slice va l.length vc) l rfl OS.out _ (x : Int) rfl LT.out (by have := HLK.out; have := HLT.out; have := HLN.out; omega) LS.out ?_
              intro v' wA hown hgr
              have HBW := (Below.refl (G + 1) _).grown hgr LS.out HG.out
              have OA := Lib.hid hown
              have XA := Lib.hid ((HBW.block _ (Nat.lt_succ_self _)).trans XS.out)
              have YA := Lib.hid ((hgr.block _ (there_lt YS.out) (by intro h; exact absurd (OT.out _ h.symm) (Nat.lt_irrefl _))).trans YS.out)
              have KA := Lib.hid (KS.out.trans (HBW.mono (by have := HW0.out; omega)))
              obtain ⟨v7, k7, rfl⟩ := hown.form
              clear hown hgr HBW OS XS YS KS LS LT HG hja
              by_cases hup : s.top < (x : Int)
              · have hu : u.top = (x : Int) := by rw [HIT.out, if_pos hup]
                have hun : (u.top != (x : Int)) = false := by rw [hu]; simp
                replace hu := Lib.hid hu
                have SF := Lib.hid (over2 wA G 24 _ _ (.int .i64 u.top) (.int .u64 (u.bits : Int)) XA.out)
                obtain ⟨y0, y1⟩ := cells2 YA.out
                obtain ⟨c0, c1⟩ := cells2 XA.out
                obtain ⟨g0, g1⟩ := free2 XA.out
                go_upto_region 23 with (fail)
                clear y0 y1 c0 c1 g0 g1
                have XB := Lib.hid SF.out.1
                have KB := Lib.hid (KA.out.grown SF.out.2 KA.out.size (by intro g hg; injection hg with hg; have := HW0.out; omega))
                have OB := Lib.hid (show OwnIs _ (G + 1) (.slice v7 (l ++ [(x : Int)]).length k7) (l ++ [(x : Int)]) from own_other OA.out SF.out.2 (Nat.lt_succ_self _))
                clear SF XA KA OA YA
                generalize (wA.setCell _ _).setCell _ _ = wB at *
                obtain ⟨c0, c1⟩ := cells2 XB.out
                go_wp2_with fail
                with_reducible refine (HR2.out _).mono ?_
                rintro e wC ⟨rfl, hb⟩
                have XC := Lib.hid (blk XB.out hb)
                have KC := kept_hid KB hb
                have OC := Lib.hid (OB.out.below hb)
                clear hb XB KB OB c0 c1 hun
                obtain ⟨c0, c1⟩ := cells2 XC.out
                go_wp2_with fail
                with_reducible refine (HH2.out _).mono ?_
                rintro e wD ⟨rfl, hb⟩
                have XD := Lib.hid (blk XC.out hb)
                have KD := kept_hid KC hb
                have OD := Lib.hid (OC.out.below hb)
                clear hb XC KC OC c0 c1
                go_wp2_with fail
                go_roundg (xs.length + 1 - (k + 1))
                case measure => exact meas HLT.out
                case rel => exact ⟨k + 1, u, l ++ [(x : Int)], v7, k7, HLT.out, rfl, by first | exact congrArg (Value.int .i64) ew | rfl, by rw [hu.out], by first | rfl | simp only [List.length_append, List.length_cons, List.length_nil], Lib.hid ⟨HIR.out, HIB.out⟩, Lib.hid (by rw [List.length_append]; exact Nat.succ_le_succ HLK.out), Lib.hid (fun m hm => (List.mem_append.1 hm).elim (HIO.out m) (fun hm => by rw [List.mem_singleton] at hm; subst hm; exact .inl HIH.out)), OD, XD, KD⟩
              · have hu : u.top = s.top := by rw [HIT.out, if_neg hup]
                have hun : (u.top != s.top) = false := by rw [hu]; simp
                replace hu := Lib.hid hu
                have SF := Lib.hid (over2 wA G 24 _ _ (.int .i64 u.top) (.int .u64 (u.bits : Int)) XA.out)
                obtain ⟨y0, y1⟩ := cells2 YA.out
                obtain ⟨c0, c1⟩ := cells2 XA.out
                obtain ⟨g0, g1⟩ := free2 XA.out
                go_upto_region 23 with (fail)
                clear y0 y1 c0 c1 g0 g1
                have XB := Lib.hid SF.out.1
                have KB := Lib.hid (KA.out.grown SF.out.2 KA.out.size (by intro g hg; injection hg with hg; have := HW0.out; omega))
                have OB := Lib.hid (show OwnIs _ (G + 1) (.slice v7 (l ++ [(x : Int)]).length k7) (l ++ [(x : Int)]) from own_other OA.out SF.out.2 (Nat.lt_succ_self _))
                clear SF XA KA OA YA
                generalize (wA.setCell _ _).setCell _ _ = wB at *
                obtain ⟨c0, c1⟩ := cells2 XB.out
                go_wp2_with fail
                with_reducible refine (HR2.out _).mono ?_
                rintro e wC ⟨rfl, hb⟩
                have XC := Lib.hid (blk XB.out hb)
                have KC := kept_hid KB hb
                have OC := Lib.hid (OB.out.below hb)
                clear hb XB KB OB c0 c1 hun
                obtain ⟨c0, c1⟩ := cells2 XC.out
                go_wp2_with fail
                with_reducible refine (HH2.out _).mono ?_
                rintro e wD ⟨rfl, hb⟩
                have XD := Lib.hid (blk XC.out hb)
                have KD := kept_hid KC hb
                have OD := Lib.hid (OC.out.below hb)
                clear hb XC KC OC c0 c1
                go_wp2_with fail
                go_roundg (xs.length + 1 - (k + 1))
                case measure => exact meas HLT.out
                case rel => exact ⟨k + 1, u, l ++ [(x : Int)], v7, k7, HLT.out, rfl, by first | exact congrArg (Value.int .i64) ew | rfl, by rw [hu.out], by first | rfl | simp only [List.length_append, List.length_cons, List.length_nil], Lib.hid ⟨HIR.out, HIB.out⟩, Lib.hid (by rw [List.length_append]; exact Nat.succ_le_succ HLK.out), Lib.hid (fun m hm => (List.mem_append.1 hm).elim (HIO.out m) (fun hm => by rw [List.mem_singleton] at hm; subst hm; exact .inl HIH.out)), OD, XD, KD⟩
      · obtain rfl : k = xs.length := by omega
        have hj : ¬ (xs.length : Int) < (xs.length : Int) := by omega
        clear hk hlt
        go_wp2_with fail
        go_ret
        exact ⟨rfl, KR.out⟩
end Win
end Go.Proofs.YteggdfkmncikpaaDoor
