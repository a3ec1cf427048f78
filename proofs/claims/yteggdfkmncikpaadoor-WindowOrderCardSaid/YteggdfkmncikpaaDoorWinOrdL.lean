/- The law WindowOrder. Written by tools/gen_win_laws.py. -/
import Derived.Test.YteggdfkmncikpaaDoorWinAwake
import Derived.Test.YteggdfkmncikpaaDoorWinU16
import Derived.StillTailTactics
import Derived.Deep.QuietTactic
import Derived.BigQuiet
import Derived.Deep.Cut
import Derived.Deep.LoopGhost
import Derived.Deep.RegionLaw
import Derived.Deep.RegionHeld3
import Derived.IntWalk
import Derived.Lib.SmallJoins
namespace Go.Proofs.YteggdfkmncikpaaDoor
open Go.RowKit Sha Six Apd Cut Err
set_option linter.unusedVariables false
set_option linter.unusedSimpArgs false
namespace Win
def nf (x : Nat) : Int := ((x % 64 + 1 : Nat) : Int)
def ns (xs : List Nat) : List Int := xs.map nf
def rot (xs : List Nat) (k : Nat) : List Int := (List.range xs.length).map fun i => nf (xs.getD ((i + k) % xs.length) 0)
theorem yw (x : Nat) : (x : Int).tmod 64 = ((x % 64 : Nat) : Int) ∧ wrap64 ((x % 64 : Nat) : Int) = ((x % 64 : Nat) : Int) ∧ IntKind.i64.wrap ((x % 64 : Nat) : Int) = ((x % 64 : Nat) : Int) ∧ IntKind.u8.wrap ((x % 64 : Nat) : Int) = ((x % 64 : Nat) : Int) ∧ wrap64 (1 + ((x % 64 : Nat) : Int)) = nf x ∧ IntKind.i64.wrap (1 + ((x % 64 : Nat) : Int)) = nf x := by
  have h : x % 64 < 64 := Nat.mod_lt _ (by decide)
  unfold nf
  refine ⟨by rw [Int.tmod_eq_emod_of_nonneg (by omega)]; simp, ?_⟩
  generalize x % 64 = y at *
  refine ⟨by rw [IntWalk.wrap64_in] <;> omega, by rw [IntWalk.i64_in] <;> omega, by rw [IntKind.wrap_u8]; omega, by rw [IntWalk.wrap64_in] <;> omega, by rw [IntWalk.i64_in] <;> omega⟩
theorem ikw {i k : Nat} (hi : i < 1000) (hk : k < 1000) : IntKind.i64.wrap ((i : Int) + (k : Int)) = (i : Int) + (k : Int) ∧ wrap64 ((i : Int) + (k : Int)) = (i : Int) + (k : Int) := ⟨by rw [IntWalk.i64_in]; omega, by rw [IntWalk.wrap64_in]; omega⟩
theorem nf_range (x : Nat) : 1 ≤ nf x ∧ nf x ≤ 64 := by unfold nf; have := Nat.mod_lt x (show 0 < 64 by decide); omega
theorem ns_range (xs : List Nat) : ∀ n ∈ ns xs, 1 ≤ n ∧ n ≤ 64 := fun n hn => by
  obtain ⟨x, _, rfl⟩ := List.mem_map.1 hn
  exact nf_range x
theorem rot_range (xs : List Nat) (k : Nat) : ∀ n ∈ rot xs k, 1 ≤ n ∧ n ≤ 64 := fun n hn => by
  obtain ⟨i, _, rfl⟩ := List.mem_map.1 hn
  exact nf_range _
theorem ns_step {xs : List Nat} {i : Nat} (h : i < xs.length) : (ns xs).take (i + 1) = (ns xs).take i ++ [nf (xs.getD i 0)] := by
  unfold ns
  rw [List.take_add_one, List.getElem?_map, List.getElem?_eq_getElem h, List.getD_eq_getElem?_getD, List.getElem?_eq_getElem h]
  rfl
theorem rot_step {xs : List Nat} {k i : Nat} (h : i < xs.length) : (rot xs k).take (i + 1) = (rot xs k).take i ++ [nf (xs.getD ((i + k) % xs.length) 0)] := by
  unfold rot
  rw [List.take_add_one, List.getElem?_map, List.getElem?_range h]
  rfl
theorem rot_mem {xs : List Nat} {k : Nat} (hk : k < xs.length) (m : Int) : m ∈ ns xs ↔ m ∈ rot xs k := by
  unfold ns rot
  simp only [List.mem_map, List.mem_range]
  constructor
  · rintro ⟨x, hx, rfl⟩
    obtain ⟨j, hj, rfl⟩ := List.mem_iff_getElem.1 hx
    rcases Nat.lt_or_ge j k with h | h
    · refine ⟨j + xs.length - k, by omega, ?_⟩
      rw [show j + xs.length - k + k = j + xs.length by omega, Nat.add_mod_right, Nat.mod_eq_of_lt hj, List.getD_eq_getElem?_getD, List.getElem?_eq_getElem hj]
      rfl
    · refine ⟨j - k, by omega, ?_⟩
      rw [show j - k + k = j by omega, Nat.mod_eq_of_lt hj, List.getD_eq_getElem?_getD, List.getElem?_eq_getElem hj]
      rfl
  · rintro ⟨i, hi, rfl⟩
    have hm : (i + k) % xs.length < xs.length := Nat.mod_lt _ (by omega)
    refine ⟨xs[(i + k) % xs.length], List.getElem_mem hm, ?_⟩
    rw [List.getD_eq_getElem?_getD, List.getElem?_eq_getElem hm]
    rfl
theorem fold_take {l : List Int} (h : ∀ n ∈ l, 1 ≤ n ∧ n ≤ 64) (i : Nat) : Near (fold nil (l.take i)) := (fold_near _ nil nil_near fun n hn => h n (List.mem_of_mem_take hn)).1
set_option maxRecDepth 100000 in
set_option maxHeartbeats 8000000 in
theorem order_core (xs : List Nat) (turn : Nat) (a : Option Addr) (cap : Nat) (w : World) (hx : BytesIn w (.slice a xs.length cap) xs) (h8 : ∀ x ∈ xs, x < 256) (ht : turn < 256) (hg : Handle w) :
    Calls Tryd.prog 7 #[.slice a xs.length cap, .int .u8 (turn : Int)] w fun e w' => e = .returned (.bool true) ∧ Below w.heap.size w w' := by
  have HAW := Lib.hid fun W (hb : Below w.heap.size w W) => awake_any W (hand_of hg hb)
  have HCO := Lib.hid fun W n (hb : Below w.heap.size w W) => code_errn n W (hand_of hg hb)
  have HX := Lib.hid hx
  have H8 := Lib.hid h8
  clear hg hx h8
  by_cases hl : 100 < xs.length
  · have hl' : decide ((100 : Int) < (xs.length : Int)) = true := by simp; omega
    clear hl
    go_enter Tryd.func7, Tryd.ntmps7
    go_wp2_with fail
    with_reducible refine (HAW.out _ (Below.refl _ _)).mono ?_
    rintro e w2 ⟨rfl, hb⟩
    have K2 := Lib.hid hb
    clear hb
    go_wp2_with fail
    with_reducible refine (HAW.out _ K2.out).mono ?_
    rintro e wq ⟨rfl, hb⟩
    have KE := kept_hid K2 hb
    clear hb
    go_wp2_with fail
    go_ret
    exact ⟨rfl, KE.out⟩
  have HLN := Lib.hid (show xs.length ≤ 100 by omega)
  have hl' : decide ((100 : Int) < (xs.length : Int)) = false := by simp; omega
  clear hl
  by_cases hz : xs.length = 0
  · have hz' : ((xs.length : Int) == 0) = true := by simp; exact List.eq_nil_of_length_eq_zero hz
    clear hz
    go_enter Tryd.func7, Tryd.ntmps7
    go_wp2_with fail
    with_reducible refine (HAW.out _ (Below.refl _ _)).mono ?_
    rintro e w2 ⟨rfl, hb⟩
    have K2 := Lib.hid hb
    clear hb
    go_wp2_with fail
    with_reducible refine (HAW.out _ K2.out).mono ?_
    rintro e wq ⟨rfl, hb⟩
    have KE := kept_hid K2 hb
    clear hb
    go_wp2_with fail
    go_ret
    exact ⟨rfl, KE.out⟩
  · have hn2 : ¬ xs = [] := fun e => hz (by rw [e]; rfl)
    have hn1 : ¬ (xs.length : Int) = 0 := by omega
    have hz' : ((xs.length : Int) == 0) = false := by simp [hn2]
    have hr : ((turn : Int)).tmod (xs.length : Int) = ((turn % xs.length : Nat) : Int) := by rw [Int.tmod_eq_emod_of_nonneg (by omega)]; simp
    have htw : wrap64 (turn : Int) = (turn : Int) := by rw [IntWalk.wrap64_in] <;> omega
    have HKN := Lib.hid (show turn % xs.length < xs.length from Nat.mod_lt _ (by omega))
    generalize turn % xs.length = k at *
    have hkw : wrap64 (k : Int) = (k : Int) := by have := HKN.out; have := HLN.out; rw [IntWalk.wrap64_in] <;> omega
    go_enter Tryd.func7, Tryd.ntmps7
    go_wp2_with fail
    with_reducible refine (HAW.out _ (Below.refl _ _)).mono ?_
    rintro e w2 ⟨rfl, hb⟩
    have hk2 := kept_trans (al_any w2 (.cells #[.int .i64 0, .int .u64 0] 24)) (al_any _ (.cells #[.int .i64 0, .int .u64 0] 24))
    have A3 := Lib.hid (heap_alloc2_old w2 (.cells #[.int .i64 0, .int .u64 0] 24) (.cells #[.int .i64 0, .int .u64 0] 24))
    have B3 := Lib.hid (heap_alloc2_new w2 (.cells #[.int .i64 0, .int .u64 0] 24) (.cells #[.int .i64 0, .int .u64 0] 24))
    have K3 := Lib.hid (kept_trans hb hk2)
    have HW0 := Lib.hid hb.size
    clear hb hk2
    go_upto_region 5 with (fail)
    generalize (w2.alloc _).alloc _ = w3 at *
    generalize w2.heap.size = G at *
    clear hl'
    go_wp2_with fail
    clear hr htw
    have NA := Lib.hid (ns_range xs)
    have NB := Lib.hid (rot_range xs k)
    go_loopg [8] (xs.length + 1) (fun mm ii wr => ∃ (i : Nat), i ≤ xs.length ∧ mm = xs.length + 1 - i ∧ ii = .int .i64 (i : Int) ∧ Hid (wr.heap[G]? = some (.cells #[.int .i64 (fold nil ((ns xs).take i)).top, .int .u64 ((fold nil ((ns xs).take i)).bits : Int)] 24 (0, 0))) ∧ Hid (wr.heap[G + 1]? = some (.cells #[.int .i64 (fold nil ((rot xs k).take i)).top, .int .u64 ((fold nil ((rot xs k).take i)).bits : Int)] 24 (0, 0))) ∧ Hid (Below w.heap.size w wr))
    case atStart => exact ⟨0, Nat.zero_le _, rfl, rfl, A3, B3, K3⟩
    case round =>
      obtain ⟨i, hi, rfl, rfl, AR, BR, KR⟩ := hrel
      clear A3 B3 K3
      by_cases hlt : i < xs.length
      · have HLT := Lib.hid hlt
        have hj : (i : Int) < (xs.length : Int) := by omega
        have hj0 : (0 : Int) ≤ (i : Int) := by omega
        obtain ⟨g, off, rfl, HCL⟩ : ∃ g off, a = some ⟨g, off, none⟩ ∧ Hid (∀ W, Below w.heap.size w W → ∀ j, j < xs.length → W.cell? ⟨g, off + j, none⟩ = some (.int .u8 (xs.getD j 0 : Nat))) := by
          obtain ⟨ad, c, hv, hcap, hc⟩ := HX.out
          injection hv with e1 e2 e3
          subst e1 e3
          rcases hc with h0 | ⟨g, off, h0, hc⟩
          · rw [h0] at hlt; simp at hlt
          · exact ⟨g, off, h0, Lib.hid fun W hb j hj => (hb.cell (p := ⟨g, off + j, none⟩) (block_lt_of_cell (hc j hj))).trans (hc j hj)⟩
        have ew : wrap64 ((i : Int) + 1) = (i : Int) + 1 := by have := HLN.out; rw [IntWalk.wrap64_in] <;> omega
        have SA := Lib.hid (show fold nil ((ns xs).take (i + 1)) = (lets (fold nil ((ns xs).take i)) (nf (xs.getD i 0))).1 from by rw [ns_step hlt, fold_snoc])
        have SB_ := Lib.hid (show fold nil ((rot xs k).take (i + 1)) = (lets (fold nil ((rot xs k).take i)) (nf (xs.getD ((i + k) % xs.length) 0))).1 from by rw [rot_step hlt, fold_snoc])
        have FA := Lib.hid (fold_take NA.out i)
        have FB := Lib.hid (fold_take NB.out i)
        have LET := Lib.hid fun (W' : World) (u : W) (n : Nat) (hu : Near u) => let_any u (nf n) W' hu.right ⟨hu.small, by have := right_fit hu.right; rw [IntWalk.i64_in] <;> omega⟩ (by have := nf_range n; rw [IntWalk.i64_in] <;> omega)
        generalize fold nil ((ns xs).take i) = sa at *
        generalize fold nil ((rot xs k).take i) = sb at *
        have LA := Lib.hid fun W' => LET.out W' sa (xs.getD i 0) FA.out
        have LB := Lib.hid fun W' => LET.out W' sb (xs.getD ((i + k) % xs.length) 0) FB.out
        simp only [GaveL] at LA LB
        have d0 := HCL.out wr KR.out i hlt
        obtain ⟨x, hx⟩ : ∃ x, x = xs.getD i 0 := ⟨_, rfl⟩
        rw [← hx] at LA d0 SA
        clear hx LET hi hlt
        obtain ⟨c0, c1⟩ := cells2 AR.out
        go_upto_region 9 with (fail)
        obtain ⟨y1, y2, y3, y4, y5, y6⟩ := yw x
        generalize x % 64 = y at *
        go_region_with ((go_at_call 11; with_reducible refine (LA.out _).mono ?_; rintro e w5 ⟨rfl, hb⟩; have A5 := blk AR.out (kept_trans (Below.refl wr.heap.size wr).drew hb); obtain ⟨c0, c1⟩ := cells2 A5; obtain ⟨g0, g1⟩ := free2 A5))
        all_goals
          have hk2 := kept_trans (Below.refl wr.heap.size wr).drew hb
          have B5 := Lib.hid (blk BR.out hk2)
          have K5 := kept_hid KR hk2
          have SF := Lib.hid (over2 w5 G 24 _ _ (.int .i64 (lets sa (nf x)).1.top) (.int .u64 ((lets sa (nf x)).1.bits : Int)) A5)
          have A6 := Lib.hid SF.out.1
          have B6 := Lib.hid ((SF.out.2.block _ (there_lt B5.out) (by intro h; injection h with h; omega)).trans B5.out)
          have K6 := Lib.hid (K5.out.grown SF.out.2 K5.out.size (by intro g hg; injection hg with hg; have := HW0.out; omega))
          clear SF A5 B5 K5 g0 g1 c0 c1 hk2 hb y1 y2 y3 y4 y5 y6 AR BR KR LA d0
          generalize (lets sa (nf x)).1 = ua at *
          generalize errn (lets sa (nf x)).2 = ea at *
          generalize (w5.setCell _ _).setCell _ _ = w6 at *
          have HI2 := Lib.hid (show (i + k) % xs.length < xs.length from Nat.mod_lt _ (by have := HLT.out; omega))
          have d1 := HCL.out w6 K6.out ((i + k) % xs.length) HI2.out
          have hr2 : (((i : Int) + (k : Int))).tmod (xs.length : Int) = (((i + k) % xs.length : Nat) : Int) := by rw [Int.tmod_eq_emod_of_nonneg (by omega)]; simp
          have hr3 := ikw (i := i) (k := k) (by have := HLT.out; have := HLN.out; omega) (by have := HKN.out; have := HLN.out; omega)
          have hq0 : (0 : Int) ≤ (((i + k) % xs.length : Nat) : Int) := by omega
          have hq1 : (((i + k) % xs.length : Nat) : Int) < (xs.length : Int) := by have := HI2.out; omega
          obtain ⟨hr4, hr5⟩ := hr3
          have hr6 := hr2
          rw [← hr4] at hr6
          have hr7 := hr2
          rw [← hr5] at hr7
          obtain ⟨z, hz2⟩ : ∃ z, z = xs.getD ((i + k) % xs.length) 0 := ⟨_, rfl⟩
          rw [← hz2] at LB d1 SB_
          clear hz2
          generalize (i + k) % xs.length = q at *
          obtain ⟨y1, y2, y3, y4, y5, y6⟩ := yw z
          generalize z % 64 = y' at *
          obtain ⟨c0, c1⟩ := cells2 B6.out
          go_upto_region 10 with (fail)
          go_region_with ((go_at_call 11; with_reducible refine (LB.out _).mono ?_; rintro e w7 ⟨rfl, hb⟩; have B7 := blk B6.out (kept_trans (Below.refl w6.heap.size w6).drew hb); obtain ⟨c0, c1⟩ := cells2 B7; obtain ⟨g0, g1⟩ := free2 B7))
          all_goals
            have hk2 := kept_trans (Below.refl w6.heap.size w6).drew hb
            have A7 := Lib.hid (blk A6.out hk2)
            have K7 := kept_hid K6 hk2
            have SF := Lib.hid (over2 w7 (G + 1) 24 _ _ (.int .i64 (lets sb (nf z)).1.top) (.int .u64 ((lets sb (nf z)).1.bits : Int)) B7)
            have B8 := Lib.hid SF.out.1
            have A8 := Lib.hid ((SF.out.2.block _ (there_lt A7.out) (by intro h; injection h with h; omega)).trans A7.out)
            have K8 := Lib.hid (K7.out.grown SF.out.2 K7.out.size (by intro g hg; injection hg with hg; have := HW0.out; omega))
            clear SF B7 A7 K7 g0 g1 c0 c1 hk2 hb y1 y2 y3 y4 y5 y6 A6 B6 K6 LB d1 hr2 hr4 hr5 hr6 hr7 hq0 hq1
            generalize (lets sb (nf z)).1 = ub at *
            generalize errn (lets sb (nf z)).2 = eb at *
            generalize (w7.setCell _ _).setCell _ _ = w8 at *
            go_wp2_with fail
            go_roundg (xs.length + 1 - (i + 1))
            case measure => exact meas HLT.out
            case rel => exact ⟨i + 1, HLT.out, rfl, by first | exact congrArg (Value.int .i64) ew | rfl, by rw [SA.out]; exact A8, by rw [SB_.out]; exact B8, K8⟩
      · obtain rfl : i = xs.length := by omega
        have hj : ¬ (xs.length : Int) < (xs.length : Int) := by omega
        have hEQ : fold nil ((rot xs k).take xs.length) = fold nil ((ns xs).take xs.length) := by
          rw [List.take_of_length_le (by simp [rot]), List.take_of_length_le (by simp [ns])]
          exact (fold_same (ns_range xs) (rot_mem HKN.out)).symm
        rw [hEQ] at BR
        have FA := Lib.hid (fold_take NA.out xs.length)
        generalize fold nil ((ns xs).take xs.length) = sa at *
        have hq := fun W => run_sameS sa W
        have HRT := Lib.hid fun W' => right_any sa W' ⟨FA.out.small, by have := right_fit FA.out.right; rw [IntWalk.i64_in] <;> omega⟩
        rw [FA.out.right] at HRT
        obtain ⟨c0, c1⟩ := cells2 AR.out
        obtain ⟨d0, d1⟩ := cells2 BR.out
        clear hi hlt hEQ
        go_wp2_with fail
        with_reducible refine (HRT.out _).mono ?_
        rintro e wz ⟨rfl, hb⟩
        have KZ := kept_hid KR hb
        go_wp2_with fail
        go_ret
        exact ⟨rfl, KZ.out⟩
end Win
end Go.Proofs.YteggdfkmncikpaaDoor
