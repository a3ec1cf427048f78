/- 'Block' of the document's answer: a state behind a block. -/
import Derived.Test.YtdiidfkmmgcjmaaDoorRefWords
import Derived.Deep.RegionHeld3
import Derived.Deep.DrawnRows
import Derived.StillTailTactics
import Derived.Deep.AppendLies
import Derived.Deep.RegionLaw
namespace Go.Proofs.YtdiidfkmmgcjmaaDoor
open Go.RowKit Cut Apd
namespace Sha
/-- The memory of 'Block': the state that it got, its result. -/
structure RMem (H : Nat) (st : List Nat) (w0 w : World) : Prop where
  st : w.heap[H]? = some (.cells (i64s st).toArray 101 (0, 0))
  res : w.heap[H + 1]? = some (.cells (i64s (pad 8 [])).toArray 101 (0, 0))
  old : Below H w0 w
theorem RMem.below {H : Nat} {l : List Nat} {w0 w w1 : World} (h : RMem H l w0 w) (hb : Below w.heap.size w w1) : RMem H l w0 w1 :=
  ⟨(hb.block _ (lt_of_heap_ h.st)).trans h.st, (hb.block _ (lt_of_heap_ h.res)).trans h.res, h.old.trans (hb.mono (Nat.le_of_lt (lt_of_heap_ h.st)))⟩
theorem RMem.grown {H : Nat} {l : List Nat} {w0 w w1 : World} {r : Option Nat} (h : RMem H l w0 w) (hg : w.grownBy w1 r) (hr : ∀ k, r = some k → H + 2 ≤ k) : RMem H l w0 w1 :=
  ⟨(hg.block _ (lt_of_heap_ h.st) (by intro e; have := hr _ e.symm; omega)).trans h.st, (hg.block _ (lt_of_heap_ h.res) (by intro e; have := hr _ e.symm; omega)).trans h.res, h.old.grown hg (Nat.le_of_lt (lt_of_heap_ h.st)) (by intro k hk; have := hr k hk; omega)⟩
theorem RMem.size {H : Nat} {l : List Nat} {w0 w : World} (h : RMem H l w0 w) : H + 2 ≤ w.heap.size := lt_of_heap_ h.res
theorem int_cell {w : World} {base n : Nat} {ad : Option Addr} {c : Nat} {l : List Nat} (h : w.ownsRow base 3 1 (.slice ad n c) n (i64s l)) (hl : l.length = n) (hn : 0 < n) : ∃ g, ad = some ⟨g, 0, none⟩ ∧ ∀ j, j < n → w.cell? ⟨g, j, none⟩ = some (.int .i64 ((l.getD j 0 : Nat) : Int)) := by
  rcases h.2 with ⟨_, h0⟩ | ⟨g, cap, cur, h1, _, hh, hnc, _, _, htk⟩
  · omega
  · injection h1 with e1 e2 e3
    refine ⟨g, e1, fun j hj => ?_⟩
    rw [cell_of_row w g j cur _ _ hh]
    have e := i64s_at (l := l) (i := j) (by omega)
    rw [← htk, List.getElem?_take, if_pos (by omega)] at e
    simpa using e

/-- The memory of the rounds: besides, the turned state in block N. -/
structure VMem (H N : Nat) (l v : List Nat) (w0 w : World) : Prop where
  mem : RMem H l w0 w
  v : w.heap[N]? = some (.cells (i64s v).toArray 101 (0, 0))
  big : H + 2 ≤ N
theorem VMem.below {H N : Nat} {l v : List Nat} {w0 w w1 : World} (h : VMem H N l v w0 w) (hb : Below w.heap.size w w1) : VMem H N l v w0 w1 :=
  ⟨h.mem.below hb, (hb.block _ (lt_of_heap_ h.v)).trans h.v, h.big⟩
theorem VMem.set {H N : Nat} {l v : List Nat} {w0 w : World} (h : VMem H N l v w0 w) (j x : Nat) : VMem H N l (v.set j x) w0 (w.setCell ⟨N, j, none⟩ (.int .i64 (x : Int))) :=
  ⟨h.mem.grown (gsetCell w N j _) (by intro k hk; injection hk with hk; rw [← hk]; exact h.big), by rw [heap_setCell_same w N j _ _ _ h.v, i64s_set], h.big⟩
theorem vcell {H N : Nat} {l v : List Nat} {w0 w : World} (h : VMem H N l v w0 w) (j : Nat) (hj : j < v.length) : w.cell? ⟨N, j, none⟩ = some (.int .i64 ((v.getD j 0 : Nat) : Int)) := by
  rw [cell_of_row w N j _ _ _ h.v, List.getElem?_toArray]; exact i64s_at hj
theorem vfree {H N : Nat} {l v : List Nat} {w0 w : World} (h : VMem H N l v w0 w) (j : Nat) : w.frozen? ⟨N, j, none⟩ = false := frozen_of_row w N j _ _ h.v
theorem rounds_digits : Digits roundsText_ := by unfold Digits; decide +kernel
theorem begin_digits : Digits beginText_ := by unfold Digits; decide +kernel
theorem rword_rounds : ∀ k, k < 64 → rword roundsText_ k 8 = roundWords.getD k 0 := by decide +kernel
theorem rword_begin : ∀ k, k < 8 → rword beginText_ k 8 = beginWords.getD k 0 := by decide +kernel
theorem rkword_any (s : ByteArray) (hs : s.data.toList = roundsText_) (k : Nat) (hk : k < 64) (w : World) :
    Calls Tryd.prog 44 #[.string s, .int .i64 k] w fun e w' => e = .returned (.int .i64 ((roundWords.getD k 0 : Nat) : Int)) ∧ w = w' := by
  have hz : s.size = 512 := by
    have h : s.data.toList.length = 512 := by rw [hs, rounds_size_]
    simpa using h
  have := rword_any s k w (by omega) (by omega) (by rw [hs]; exact rounds_digits)
  rwa [hs, rword_rounds k hk] at this
theorem rbword_any (s : ByteArray) (hs : s.data.toList = beginText_) (k : Nat) (hk : k < 8) (w : World) :
    Calls Tryd.prog 44 #[.string s, .int .i64 k] w fun e w' => e = .returned (.int .i64 ((beginWords.getD k 0 : Nat) : Int)) ∧ w = w' := by
  have hz : s.size = 64 := by
    have h : s.data.toList.length = 64 := by rw [hs, begin_size_]
    simpa using h
  have := rword_any s k w (by omega) (by omega) (by rw [hs]; exact begin_digits)
  rwa [hs, rword_begin k hk] at this
/-- The cells that a round reads. -/
def Nine (w : World) (N q k r1 r2 r3 r4 r5 r6 r7 r8 x : Nat) : Prop :=
  w.cell? ⟨N, 0, none⟩ = some (.int .i64 (r1 : Int)) ∧ w.cell? ⟨N, 1, none⟩ = some (.int .i64 (r2 : Int)) ∧ w.cell? ⟨N, 2, none⟩ = some (.int .i64 (r3 : Int)) ∧ w.cell? ⟨N, 3, none⟩ = some (.int .i64 (r4 : Int)) ∧ w.cell? ⟨N, 4, none⟩ = some (.int .i64 (r5 : Int)) ∧ w.cell? ⟨N, 5, none⟩ = some (.int .i64 (r6 : Int)) ∧ w.cell? ⟨N, 6, none⟩ = some (.int .i64 (r7 : Int)) ∧ w.cell? ⟨N, 7, none⟩ = some (.int .i64 (r8 : Int)) ∧ w.cell? ⟨q, k, none⟩ = some (.int .i64 (x : Int))
theorem step_int {ops : Array Oper} {o : Oper} {a : Act} {K : Act → World → Prop} {Q : Exit → Act → World → Prop} {E : Prop} {w : World} (hgd : o.guard = none) (s x : Operand)
    (ho : o.op = .call { callee := .builtin .append, args := #[s, x], argTypes := #[109, 109] }) (base : Nat) (v : Value) (n : Nat) (xs : List Value) (hs : a.eval s = v) (hown : w.ownsRow base 3 1 v n xs)
    (g : Nat) (y : Nat) (hx : a.eval x = .slice (some ⟨g, 0, none⟩) 1 1) (hc : w.cell? ⟨g, 0, none⟩ = some (.int .i64 (y : Int))) (h63 : n < 10000000000) (hbase : base ≤ w.heap.size)
    (h : ∀ ad c w', w'.ownsRow base 3 1 (.slice ad (n + 1) c) (n + 1) (xs ++ i64s [y]) → w.grownBy w' v.ownBlock → K (a.put o.dst (.slice ad (n + 1) c)) w') :
    if Region.wanted o (yielded ops a.tmps) = true then Oper.wp Tryd.prog o a w K Q else E := by
  obtain ⟨i0, hi, hz0, hz1, hz2⟩ := info_parts info3
  refine step_append_lies w hgd s x 109 ho base 3 i0 (.int .i64 0) 1 8 Tryd.underlying109 hi hz0 hz1 hz2 rfl (by decide) v n xs hs hown ⟨g, 0, none⟩ 1 1 (i64s [y]) hx rfl ?_ (i64s_one _) (by decide) (by unfold maxLen; omega) (by omega) hbase _ rfl ?_
  · intro j u hj
    match j, hj with
    | 0, hj => simp [i64s] at hj; subst hj; exact hc
  · intro g2 c2 w' h1 h2 _ _
    exact h _ c2 w' h1 h2
theorem first_val {x0 x1 x2 x3 y : Nat} (h0 : x0 < 256) (h1 : x1 < 256) (h2 : x2 < 256) (h3 : x3 < 256) (hy : y = 16777216 * x0 + 65536 * x1 + 256 * x2 + x3) :
    IntKind.i64.wrap (IntKind.i64.wrap (IntKind.i64.wrap (IntKind.i64.wrap (16777216 * IntKind.i64.wrap (x0 : Int)) + IntKind.i64.wrap (65536 * IntKind.i64.wrap (x1 : Int))) + IntKind.i64.wrap (256 * IntKind.i64.wrap (x2 : Int))) + IntKind.i64.wrap (x3 : Int)) = (y : Int) := by
  rw [IntWalk.i64_in (x0 : Int) (by omega), IntWalk.i64_in (x1 : Int) (by omega), IntWalk.i64_in (x2 : Int) (by omega), IntWalk.i64_in (x3 : Int) (by omega), IntWalk.i64_in (16777216 * (x0 : Int)) (by omega), IntWalk.i64_in (65536 * (x1 : Int)) (by omega), IntWalk.i64_in (256 * (x2 : Int)) (by omega),
    IntWalk.i64_in (16777216 * (x0 : Int) + 65536 * (x1 : Int)) (by omega), IntWalk.i64_in (16777216 * (x0 : Int) + 65536 * (x1 : Int) + 256 * (x2 : Int)) (by omega), IntWalk.i64_in (16777216 * (x0 : Int) + 65536 * (x1 : Int) + 256 * (x2 : Int) + (x3 : Int)) (by omega), hy]
  simp
theorem keep4 {w w' : World} {r : Option Nat} {g o0 o1 o2 o3 : Nat} {v0 v1 v2 v3 : Value} (hg : w.grownBy w' r) (hne : some g ≠ r)
    (h : w.cell? ⟨g, o0, none⟩ = some v0 ∧ w.cell? ⟨g, o1, none⟩ = some v1 ∧ w.cell? ⟨g, o2, none⟩ = some v2 ∧ w.cell? ⟨g, o3, none⟩ = some v3) :
    w'.cell? ⟨g, o0, none⟩ = some v0 ∧ w'.cell? ⟨g, o1, none⟩ = some v1 ∧ w'.cell? ⟨g, o2, none⟩ = some v2 ∧ w'.cell? ⟨g, o3, none⟩ = some v3 :=
  ⟨hg.cell h.1 hne, hg.cell h.2.1 hne, hg.cell h.2.2.1 hne, hg.cell h.2.2.2 hne⟩
theorem wrap64_is (n : Int) : wrap64 n = IntKind.i64.wrap n := by
  have h2 : IntKind.i64.wrap n = if (9223372036854775808 : Int) ≤ n % 18446744073709551616 then n % 18446744073709551616 - 18446744073709551616 else n % 18446744073709551616 := by
    unfold IntKind.wrap; simp [IntKind.signed, IntKind.bits]
  rw [h2]; unfold wrap64; split <;> omega
theorem rx_val {r1 r2 r3 r4 r5 r6 r7 r8 ch k x : Nat} (h8 : r8 < 4294967296) (h5 : r5 < 4294967296) (hc : ch < 4294967296) (hk : k < 4294967296) (hx : x < 4294967296) (hch : (r5 &&& r6) ^^^ ((4294967295 - r5) &&& r7) = ch) :
    (IntKind.i64.wrap (IntKind.i64.wrap ((r8 : Int) + ((bsig1 r5 : Nat) : Int) + (ch : Int) + (k : Int)) + (x : Int))).tmod 4294967296 = ((xOf ⟨r1, r2, r3, r4, r5, r6, r7, r8⟩ k x : Nat) : Int) := by
  have hb := bsig1_lt h5
  rw [IntWalk.i64_in ((r8 : Int) + ((bsig1 r5 : Nat) : Int) + (ch : Int) + (k : Int)) (by omega), IntWalk.i64_in _ (by omega), Int.tmod_eq_emod_of_nonneg (by omega), flat5_, ← hch]; rfl
theorem rx_val' {r1 r2 r3 r4 r5 r6 r7 r8 ch k x : Nat} (h8 : r8 < 4294967296) (h5 : r5 < 4294967296) (hc : ch < 4294967296) (hk : k < 4294967296) (hx : x < 4294967296) (hch : (r5 &&& r6) ^^^ ((4294967295 - r5) &&& r7) = ch) :
    (wrap64 (wrap64 ((r8 : Int) + ((bsig1 r5 : Nat) : Int) + (ch : Int) + (k : Int)) + (x : Int))).tmod 4294967296 = ((xOf ⟨r1, r2, r3, r4, r5, r6, r7, r8⟩ k x : Nat) : Int) := by
  rw [wrap64_is, wrap64_is]; exact rx_val h8 h5 hc hk hx hch
theorem ry_val {r1 r2 r3 r4 r5 r6 r7 r8 : Nat} {ma : Nat} (hm : ma < 4294967296) (hma : ((r1 &&& r2) ^^^ (r1 &&& r3)) ^^^ (r2 &&& r3) = ma) :
    (((bsig0 r1 : Nat) : Int) + (ma : Int)).tmod 4294967296 = ((yOf ⟨r1, r2, r3, r4, r5, r6, r7, r8⟩ : Nat) : Int) := by
  rw [Int.tmod_eq_emod_of_nonneg (by omega), flat2_, ← hma]; rfl
attribute [local go_sem ↓] Go.wp_at_zero Go.wp_at_succ
set_option maxRecDepth 100000 in
set_option maxHeartbeats 4000000 in
theorem block_any (s : St) (b : List Nat) (ao : Option Addr) (cap : Nat) (w : World) (hs : s.Ok) (hb : b.length = 64) (h8 : ∀ x ∈ b, x < 256) (hbx : BytesIn w (.slice ao 64 cap) b) :
    Calls Tryd.prog 46 #[.agg (i64s s.list).toArray, .slice ao 64 cap] w fun e w' => e = .returned (.agg (i64s (mix s (words b)).list).toArray) ∧ Below w.heap.size w w' := by
  obtain ⟨ad0, cap0, hv, hcap, hcells⟩ := hbx
  rcases hcells with h0 | ⟨g, off, rfl, hcells⟩
  · rw [h0] at hb; simp at hb
  injection hv with e1 e2 e3
  subst e1
  have hgl : g < w.heap.size := block_lt_of_cell (hcells 0 (by omega))
  have HCE := Lib.hid hcells
  have HCAP := Lib.hid hcap
  have HB64 := Lib.hid hb
  have H8 := Lib.hid h8
  have HGL := Lib.hid hgl
  clear hcells hcap hb h8 hgl e2 e3
  go_enter Tryd.func46, Tryd.ntmps46
  go_upto_region 1 with (fail)
  have M0 := Lib.hid (show RMem w.heap.size s.list w ((w.alloc (.cells (i64s s.list).toArray 101)).alloc (.cells (i64s (pad 8 [])).toArray 101)) from
    ⟨heap_alloc2_old w _ _, heap_alloc2_new w _ _, ((Below.refl _ _).alloc (Nat.le_refl _) _).alloc (by simp) _⟩)
  change Code.wp _ _ _ _ ((w.alloc (.cells (i64s s.list).toArray 101)).alloc (.cells (i64s (pad 8 [])).toArray 101))
  generalize (w.alloc (.cells (i64s s.list).toArray 101)).alloc (.cells (i64s (pad 8 [])).toArray 101) = w1 at M0
  go_wp2_with fail
  go_loopw [5, 6] (fun v i wr => ∃ (k : Nat) (ad : Option Addr) (c : Nat), k ≤ 64 ∧ i = .int .i64 k ∧ v = .slice ad k c ∧ wr.ownsRow (w.heap.size + 2) 3 1 (.slice ad k c) k (i64s (wl b k)) ∧ RMem w.heap.size s.list w wr) (fun _ i _ => 64 - (intOf i).toNat)
  case atStart => exact ⟨0, none, 0, Nat.zero_le _, rfl, rfl, World.ownsRow_nil _ _ _ _, M0.out⟩
  case round =>
    obtain ⟨k, ad, c, hk, rfl, rfl, ho, hm⟩ := hrel
    by_cases hlt : k < 64
    · have HO := Lib.hid ho
      have HM := Lib.hid hm
      clear ho hm
      by_cases h16 : k < 16
      · have hc : ∀ j, j < 64 → wr.cell? ⟨g, off + j, none⟩ = some (.int .u8 ((b.getD j 0 : Nat) : Int)) := fun j hj =>
          (HM.out.old.cell (p := ⟨g, off + j, none⟩) HGL.out).trans (HCE.out j (by rw [HB64.out]; exact hj))
        have hc0 := hc (4 * k) (by omega)
        have hc1 := hc (4 * k + 1) (by omega)
        have hc2 := hc (4 * k + 2) (by omega)
        have hc3 := hc (4 * k + 3) (by omega)
        have HBE := Lib.hid (be4_sum H8.out k)
        have b0 := getD_lt H8.out (by decide) (4 * k)
        have b1 := getD_lt H8.out (by decide) (4 * k + 1)
        have b2 := getD_lt H8.out (by decide) (4 * k + 2)
        have b3 := getD_lt H8.out (by decide) (4 * k + 3)
        generalize b.getD (4 * k) 0 = x0 at hc0 b0 HBE
        generalize b.getD (4 * k + 1) 0 = x1 at hc1 b1 HBE
        generalize b.getD (4 * k + 2) 0 = x2 at hc2 b2 HBE
        generalize b.getD (4 * k + 3) 0 = x3 at hc3 b3 HBE
        have hi0 : (0 : Int) ≤ 4 * (k : Int) := by omega
        have hi1 : 4 * (k : Int) + 3 < 64 := by omega
        have hi2 : 4 * (k : Int) < 64 := by omega
        have hi3 : 4 * (k : Int) + 1 < 64 := by omega
        have hi4 : 4 * (k : Int) + 2 < 64 := by omega
        have hj1 : (0 : Int) ≤ 4 * (k : Int) + 1 := by omega
        have hj2 : (0 : Int) ≤ 4 * (k : Int) + 2 := by omega
        have hj3 : (0 : Int) ≤ 4 * (k : Int) + 3 := by omega
        clear hc
        go_wp2_with fail
        have e0 : IntKind.i64.wrap (4 * (k : Int)) = 4 * (k : Int) := by rw [IntWalk.i64_in _ (by omega)]
        have e1 : IntKind.i64.wrap (4 * (k : Int) + 1) = 4 * (k : Int) + 1 := by rw [IntWalk.i64_in _ (by omega)]
        have e2 : IntKind.i64.wrap (4 * (k : Int) + 2) = 4 * (k : Int) + 2 := by rw [IntWalk.i64_in _ (by omega)]
        have e3 : IntKind.i64.wrap (4 * (k : Int) + 3) = 4 * (k : Int) + 3 := by rw [IntWalk.i64_in _ (by omega)]
        have n0 : (4 * (k : Int)).toNat = 4 * k := by omega
        have n1 : (4 * (k : Int) + 1).toNat = 4 * k + 1 := by omega
        have n2 : (4 * (k : Int) + 2).toNat = 4 * k + 2 := by omega
        have n3 : (4 * (k : Int) + 3).toNat = 4 * k + 3 := by omega
        have m0 : off + (4 * k + 1) = off + 4 * k + 1 := by omega
        clear m0
        have HNE := Lib.hid (show some g ≠ (Value.slice ad k c).ownBlock from fun e => by have := own_ge HO.out _ e.symm; have := HGL.out; omega)
        have HSZ := Lib.hid HM.out.size
        have HBV := Lib.hid (first_val b0 b1 b2 b3 HBE.out)
        go_region_held3 (fun w' => w'.cell? ⟨g, off + 4 * k, none⟩ = some (.int .u8 (x0 : Int)) ∧ w'.cell? ⟨g, off + (4 * k + 1), none⟩ = some (.int .u8 (x1 : Int)) ∧ w'.cell? ⟨g, off + (4 * k + 2), none⟩ = some (.int .u8 (x2 : Int)) ∧ w'.cell? ⟨g, off + (4 * k + 3), none⟩ = some (.int .u8 (x3 : Int)))
          (first | go_keep | exact keep4 (by assumption) HNE.out (by assumption))
          ((refine step_int (by rfl) (.tmp 28) (.tmp 62) (by rfl) (w.heap.size + 2) _ k (i64s (wl b k)) (by rfl) (by exact HO.out.alloc _) wr.heap.size (be4 b k) (by rfl) (by rw [HBV.out]; exact cell_of_row _ wr.heap.size 0 _ _ _ (heap_alloc_new wr _)) (by omega) (by have := HSZ.out; simp; omega) ?_; intro ad2 c2 w2 hown2 hg2))
        have M2 := Lib.hid (RMem.grown (HM.out.below (by first | exact (((Below.refl _ _).alloc (Nat.le_refl _) _).drew) | exact (((Below.refl _ _).drew).alloc (Nat.le_refl _) _))) hg2 (own_ge HO.out))
        have O2 := Lib.hid (show w2.ownsRow (w.heap.size + 2) 3 1 (.slice ad2 (k + 1) c2) (k + 1) (i64s (wl b (k + 1))) by
          have e : i64s (wl b (k + 1)) = i64s (wl b k) ++ i64s [be4 b k] := by rw [wl, if_pos h16]; simp [i64s]
          rw [e]; exact hown2)
        clear hown2 hg2 hc0 hc1 hc2 hc3 b0 b1 b2 b3 e0 e1 e2 e3 n0 n1 n2 n3 hi0 hi1 hi2 hi3 hi4 hj1 hj2 hj3
        rename_i hHeld1
        clear hHeld1
        go_wp2_with fail
        go_roundw
        case rel => exact ⟨k + 1, ad2, c2, by omega, by go_num, rfl, O2.out, M2.out⟩
        case measure => simp [intOf]; omega
      · have hge16 : 16 ≤ k := by omega
        have hwl := wl_length b k
        have hw32 := wl_lt H8.out k
        obtain ⟨gq, rfl, hcq⟩ := int_cell HO.out hwl (by omega)
        have q15 := hcq (k - 15) (by omega)
        have q2 := hcq (k - 2) (by omega)
        have q7 := hcq (k - 7) (by omega)
        have q16 := hcq (k - 16) (by omega)
        have y15 := getD_lt hw32 (by decide) (k - 15)
        have y2 := getD_lt hw32 (by decide) (k - 2)
        have y7 := getD_lt hw32 (by decide) (k - 7)
        have y16 := getD_lt hw32 (by decide) (k - 16)
        have HWN := Lib.hid (show wnext (wl b k) = (ssig1 ((wl b k).getD (k - 2) 0) + (wl b k).getD (k - 7) 0 + ssig0 ((wl b k).getD (k - 15) 0) + (wl b k).getD (k - 16) 0) % 4294967296 by unfold wnext; rw [hwl]; omega)
        generalize (wl b k).getD (k - 15) 0 = v15 at q15 y15 HWN
        generalize (wl b k).getD (k - 2) 0 = v2 at q2 y2 HWN
        generalize (wl b k).getD (k - 7) 0 = v7 at q7 y7 HWN
        generalize (wl b k).getD (k - 16) 0 = v16 at q16 y16 HWN
        have i1 : (0 : Int) ≤ (k : Int) - 15 := by omega
        have i2 : (0 : Int) ≤ (k : Int) - 2 := by omega
        have i3 : (0 : Int) ≤ (k : Int) - 7 := by omega
        have i4 : (0 : Int) ≤ (k : Int) - 16 := by omega
        clear hcq hw32 hwl h16
        go_wp2_with fail
        refine (turn_any v15 7 _ y15 (by decide) (by decide)).mono ?_
        rintro e w3 ⟨rfl, rfl⟩
        go_wp2_with fail
        refine (turn_any v15 18 _ y15 (by decide) (by decide)).mono ?_
        rintro e w3 ⟨rfl, rfl⟩
        go_wp2_with fail
        refine (turn_any v2 17 _ y2 (by decide) (by decide)).mono ?_
        rintro e w3 ⟨rfl, rfl⟩
        go_wp2_with fail
        refine (turn_any v2 19 _ y2 (by decide) (by decide)).mono ?_
        rintro e w3 ⟨rfl, rfl⟩
        go_wp2_with fail
        rw [ssig0_val y15, ssig1_val y2]
        have z0 := ssig0_lt y15
        have z1 := ssig1_lt y2
        generalize ssig0 v15 = s0 at z0 HWN
        generalize ssig1 v2 = s1 at z1 HWN
        clear q15 q2 y15 y2 i1 i2
        have e3 : IntKind.i64.wrap ((k : Int) - 7) = (k : Int) - 7 := by rw [IntWalk.i64_in _ (by omega)]
        have e4 : IntKind.i64.wrap ((k : Int) - 16) = (k : Int) - 16 := by rw [IntWalk.i64_in _ (by omega)]
        have n3 : ((k : Int) - 7).toNat = k - 7 := by omega
        have n4 : ((k : Int) - 16).toNat = k - 16 := by omega
        have l1 : (7 : Int) ≤ (k : Int) := by omega
        have l2 : (16 : Int) ≤ (k : Int) := by omega
        have l3 : (k : Int) - 7 < (k : Int) := by omega
        have l4 : (k : Int) - 16 < (k : Int) := by omega
        have HSZ := Lib.hid HM.out.size
        have hv : (IntKind.i64.wrap (IntKind.i64.wrap (IntKind.i64.wrap ((s1 : Int) + (v7 : Int)) + (s0 : Int)) + (v16 : Int))).tmod 4294967296 = ((wnext (wl b k) : Nat) : Int) := by
          rw [IntWalk.i64_in ((s1 : Int) + (v7 : Int)) (by omega), IntWalk.i64_in ((s1 : Int) + (v7 : Int) + (s0 : Int)) (by omega), IntWalk.i64_in ((s1 : Int) + (v7 : Int) + (s0 : Int) + (v16 : Int)) (by omega), Int.tmod_eq_emod_of_nonneg (by omega), HWN.out]
          simp
        have HV := Lib.hid hv
        clear hv
        go_region_law ((refine step_int (by rfl) (.tmp 90) (.tmp 107) (by rfl) (w.heap.size + 2) _ k (i64s (wl b k)) (by rfl) (by exact HO.out.alloc _) wr.heap.size (wnext (wl b k)) (by rfl) (by rw [← HV.out]; exact cell_of_row _ wr.heap.size 0 _ _ _ (heap_alloc_new wr _)) (by omega) (by have := HSZ.out; simp; omega) ?_; intro ad2 c2 w2 hown2 hg2))
        all_goals
          have M2 := Lib.hid (RMem.grown (HM.out.below (by first | exact (((Below.refl _ _).alloc (Nat.le_refl _) _).drew) | exact (((Below.refl _ _).drew).alloc (Nat.le_refl _) _))) hg2 (own_ge HO.out))
          have O2 := Lib.hid (show w2.ownsRow (w.heap.size + 2) 3 1 (.slice ad2 (k + 1) c2) (k + 1) (i64s (wl b (k + 1))) by
            have e : i64s (wl b (k + 1)) = i64s (wl b k) ++ i64s [wnext (wl b k)] := by rw [wl, if_neg (by omega)]; simp [i64s]
            rw [e]; exact hown2)
          clear hown2 hg2 q7 q16 e3 e4 n3 n4 l1 l2 l3 l4 i3 i4 y7 y16 z0 z1
          try simp only [Act.put, List.setIfInBounds_toArray]
          go_wp2_with fail
          go_roundw
          case rel =>
            first
              | exact ⟨k + 1, ad2, c2, by omega, by go_num, rfl, O2.out, M2.out⟩
              | (repeat apply Exists.intro
                 refine ⟨?_, rfl⟩
                 exact ⟨k + 1, ad2, c2, by omega, by go_num, rfl, O2.out, M2.out⟩)
          case measure => simp [intOf]; omega
    · have e : k = 64 := by omega
      subst e
      rw [wl_words] at ho
      obtain ⟨gq, rfl, hcq⟩ := int_cell ho (words_length b) (by decide)
      have HO := Lib.hid ho
      have HM := Lib.hid hm
      clear ho hm hlt hcq
      go_upto_region 12 with (fail)
      have hst := HM.out.st
      have hsz : (i64s s.list).toArray.size = 8 := rfl
      refine wp_region_lit ?_
      refine wpList_load_row rfl 101 _ rfl w.heap.size rfl 101 _ _ _ hst Tryd.underlying101 rfl (by rw [hsz]; kernel_rfl) ?_
      clear hst
      refine wpList_plain rfl (fun K hK => ?_)
      go_simp
      refine hK _ _ ?_
      clear hK K
      have hbk : (wr.alloc (.cells (i64s (pad 8 [])).toArray 101)).heap[wr.heap.size]? = some (.cells (i64s (pad 8 [])).toArray 101 (0, 0)) := heap_alloc_new wr _
      refine wpList_store_mid rfl 101 _ _ rfl wr.heap.size 0 _ rfl rfl (there_of_block hbk 0 _ (by rw [hsz]; decide)) (by rw [hsz]; kernel_rfl) (i64s_cells _) ?_
      have hv2 : ((wr.alloc (.cells (i64s (pad 8 [])).toArray 101)).setCells wr.heap.size 0 (i64s s.list).toArray.toList).heap[wr.heap.size]? = some (.cells (i64s s.list).toArray 101 (0, 0)) := by
        have := heap_setCells wr.heap.size 101 (0, 0) (i64s s.list) 0 _ _ hbk (by rw [i64s_length, i64s_length, St.list_length]; decide)
        rw [this]; rfl
      have V2 := Lib.hid (show VMem w.heap.size wr.heap.size s.list s.list w ((wr.alloc (.cells (i64s (pad 8 [])).toArray 101)).setCells wr.heap.size 0 (i64s s.list).toArray.toList) from
        ⟨(HM.out.below ((Below.refl _ _).alloc (Nat.le_refl _) _)).grown (gsetCells wr.heap.size _ 0 _) (by intro k hk; injection hk with hk; rw [← hk]; exact HM.out.size), hv2, HM.out.size⟩)
      have hgqN : gq < wr.heap.size := by
        rcases HO.out.2 with ⟨h, _⟩ | ⟨g', c', cur, h, _, hh, _⟩
        · cases h
        · injection h with h1; injection h1 with h1; injection h1 with h1; rw [h1]; exact lt_of_heap_ hh
      have O2 := Lib.hid ((HO.out.alloc (.cells (i64s (pad 8 [])).toArray 101)).kept (gsetCells wr.heap.size (i64s s.list).toArray.toList 0 _) (.inr (by simp [Value.ownBlock]; omega)))
      have HGQ := Lib.hid hgqN
      change wpList _ _ _ _ _ ((wr.alloc (.cells (i64s (pad 8 [])).toArray 101)).setCells wr.heap.size 0 (i64s s.list).toArray.toList)
      generalize (wr.alloc (.cells (i64s (pad 8 [])).toArray 101)).setCells wr.heap.size 0 (i64s s.list).toArray.toList = w2 at V2 O2
      clear hbk hv2 hgqN HO HM
      generalize wr.heap.size = N at V2 HGQ
      go_wp2_with fail
      go_loopw [12] (fun i wr => ∃ k : Nat, k ≤ 64 ∧ i = .int .i64 k ∧ VMem w.heap.size N s.list (run s (words b) k).list w wr ∧ wr.ownsRow (w.heap.size + 2) 3 1 (.slice (some ⟨gq, 0, none⟩) 64 c) 64 (i64s (words b))) (fun i _ => 64 - (intOf i).toNat)
      case atStart => exact ⟨0, Nat.zero_le _, rfl, V2.out, O2.out⟩
      case round =>
        obtain ⟨k, hk, rfl, hv, ho⟩ := hrel
        by_cases hlt : k < 64
        · have hwk : wr.cell? ⟨gq, k, none⟩ = some (.int .i64 (((words b).getD k 0 : Nat) : Int)) := by
            rw [ho.cellAt k (by omega)]; exact i64s_at (by rw [words_length]; exact hlt)
          have hws := getD_lt (words_lt H8.out) (by decide) k
          have hrk := getD_lt round_lt (by decide) k
          have o := run_ok hs (words b) k
          have HN := Lib.hid (show run s (words b) (k + 1) = rnd (run s (words b) k) (roundWords.getD k 0) ((words b).getD k 0) from rfl)
          generalize run s (words b) k = r at hv HN o
          generalize (words b).getD k 0 = x at hwk hws HN
          obtain ⟨r1, r2, r3, r4, r5, r6, r7, r8⟩ := r
          obtain ⟨o1, o2, o3, o4, o5, o6, o7, o8⟩ := o
          simp only at o1 o2 o3 o4 o5 o6 o7 o8
          have c0 : wr.cell? ⟨N, 0, none⟩ = some (.int .i64 (r1 : Int)) := vcell hv 0 (by rw [St.list_length]; decide)
          have c1 : wr.cell? ⟨N, 1, none⟩ = some (.int .i64 (r2 : Int)) := vcell hv 1 (by rw [St.list_length]; decide)
          have c2 : wr.cell? ⟨N, 2, none⟩ = some (.int .i64 (r3 : Int)) := vcell hv 2 (by rw [St.list_length]; decide)
          have c3 : wr.cell? ⟨N, 3, none⟩ = some (.int .i64 (r4 : Int)) := vcell hv 3 (by rw [St.list_length]; decide)
          have c4 : wr.cell? ⟨N, 4, none⟩ = some (.int .i64 (r5 : Int)) := vcell hv 4 (by rw [St.list_length]; decide)
          have c5 : wr.cell? ⟨N, 5, none⟩ = some (.int .i64 (r6 : Int)) := vcell hv 5 (by rw [St.list_length]; decide)
          have c6 : wr.cell? ⟨N, 6, none⟩ = some (.int .i64 (r7 : Int)) := vcell hv 6 (by rw [St.list_length]; decide)
          have c7 : wr.cell? ⟨N, 7, none⟩ = some (.int .i64 (r8 : Int)) := vcell hv 7 (by rw [St.list_length]; decide)
          have HVM := Lib.hid hv
          have HOW := Lib.hid ho
          have hi0 : (0 : Int) ≤ (k : Int) := by omega
          have hi1 : (k : Int) < 64 := by omega
          clear hv ho
          go_wp2_with fail
          refine (turn_any r5 6 _ o5 (by decide) (by decide)).mono ?_
          rintro e w3 ⟨rfl, rfl⟩
          go_wp2_with fail
          refine (turn_any r5 11 _ o5 (by decide) (by decide)).mono ?_
          rintro e w3 ⟨rfl, rfl⟩
          go_wp2_with fail
          refine (turn_any r5 25 _ o5 (by decide) (by decide)).mono ?_
          rintro e w3 ⟨rfl, rfl⟩
          go_wp2_with fail
          rw [bsig1_val o5]
          have z1 := bsig1_lt o5
          have HB1 := Lib.hid (show bsig1 r5 = bsig1 r5 from rfl)
          have e9 : IntKind.i64.wrap (4294967295 - (r5 : Int)) = ((4294967295 - r5 : Nat) : Int) := by rw [IntWalk.i64_in _ (by omega)]; omega
          have l9 : 4294967295 - r5 < 4294967296 := by omega
          go_quiet ((go_at_call 51; exact Calls.quiet_of_same ((both_any _ _ _ (by omega) (by omega)).mono fun _ _ h => ⟨h.1, h.2.symm⟩)))
          have z3 := and_lt r6 o5
          have z4 := and_lt r7 l9
          have z2 := xor_lt z3 z4
          go_wp2_with fail
          rw [i64_xor_nat _ _ (by omega) (by omega)]
          generalize hch : (r5 &&& r6) ^^^ ((4294967295 - r5) &&& r7) = ch at z2
          have HCH := Lib.hid hch
          clear hch z3 z4 e9 l9
          have n9 : Nine (wr.drewN nq) N gq k r1 r2 r3 r4 r5 r6 r7 r8 x := ⟨c0, c1, c2, c3, c4, c5, c6, c7, hwk⟩
          have HVM2 := Lib.hid (HVM.out.below (belowg (gdrewN wr nq none)))
          have HOW2 := Lib.hid (HOW.out.kept (gdrewN wr nq none) (.inr (by simp [Value.ownBlock])))
          clear c0 c1 c2 c3 c4 c5 c6 c7 hwk HVM HOW
          change Code.wp _ _ _ _ (wr.drewN nq)
          generalize wr.drewN nq = wq at n9 HVM2 HOW2
          clear nq wr
          obtain ⟨c0, c1, c2, c3, c4, c5, c6, c7, hwk⟩ := n9
          go_quiet ((go_at_call 44; exact Calls.quiet_of_same ((rkword_any _ (by kernel_rfl) k hlt _).mono fun _ _ h => ⟨h.1, h.2.symm⟩)))
          go_wp2_with fail
          have kd : roundWords[k]?.getD 0 = roundWords.getD k 0 := (List.getD_eq_getElem?_getD ..).symm
          rw [kd, rx_val' (r1 := r1) (r2 := r2) (r3 := r3) (r4 := r4) o8 o5 z2 hrk hws HCH.out]
          have HXL := Lib.hid (show xOf ⟨r1, r2, r3, r4, r5, r6, r7, r8⟩ (roundWords.getD k 0) x < 4294967296 from Nat.mod_lt _ (by decide))
          generalize hX : xOf ⟨r1, r2, r3, r4, r5, r6, r7, r8⟩ (roundWords.getD k 0) x = X at HXL
          have HX := Lib.hid hX
          clear hX kd hrk hws
          refine (turn_any r1 2 _ o1 (by decide) (by decide)).mono ?_
          rintro e w3 ⟨rfl, rfl⟩
          go_wp2_with fail
          refine (turn_any r1 13 _ o1 (by decide) (by decide)).mono ?_
          rintro e w3 ⟨rfl, rfl⟩
          go_wp2_with fail
          refine (turn_any r1 22 _ o1 (by decide) (by decide)).mono ?_
          rintro e w3 ⟨rfl, rfl⟩
          go_wp2_with fail
          rw [bsig0_val o1]
          have y1 := bsig0_lt o1
          have HB0 := Lib.hid (show bsig0 r1 = bsig0 r1 from rfl)
          have n9 : Nine (wq.drewN nq) N gq k r1 r2 r3 r4 r5 r6 r7 r8 x := ⟨c0, c1, c2, c3, c4, c5, c6, c7, hwk⟩
          have HVM := Lib.hid (HVM2.out.below (belowg (gdrewN wq nq none)))
          have HOW := Lib.hid (HOW2.out.kept (gdrewN wq nq none) (.inr (by simp [Value.ownBlock])))
          clear c0 c1 c2 c3 c4 c5 c6 c7 hwk HVM2 HOW2
          change Code.wp _ _ _ _ (wq.drewN nq)
          generalize wq.drewN nq = wr at n9 HVM HOW
          clear nq wq
          obtain ⟨c0, c1, c2, c3, c4, c5, c6, c7, hwk⟩ := n9
          go_quiet ((go_at_call 51; exact Calls.quiet_of_same ((both_any _ _ _ (by omega) (by omega)).mono fun _ _ h => ⟨h.1, h.2.symm⟩)))
          have z3 := and_lt r2 o1
          have z4 := and_lt r3 o1
          have z5 := and_lt r3 o2
          have z6 := xor_lt z3 z4
          have z7 := xor_lt z6 z5
          go_upto_region 24 with (fail)
          rw [i64_xor_nat (r1 &&& r2) _ (by omega) (by omega), i64_xor_nat _ (r2 &&& r3) (by omega) (by omega)]
          generalize hma : ((r1 &&& r2) ^^^ (r1 &&& r3)) ^^^ (r2 &&& r3) = ma at z7
          have HMA := Lib.hid hma
          clear hma z3 z4 z5 z6
          have n9 : Nine (wr.drewN nq) N gq k r1 r2 r3 r4 r5 r6 r7 r8 x := ⟨c0, c1, c2, c3, c4, c5, c6, c7, hwk⟩
          have HVM2 := Lib.hid (HVM.out.below (belowg (gdrewN wr nq none)))
          have HOW2 := Lib.hid (HOW.out.kept (gdrewN wr nq none) (.inr (by simp [Value.ownBlock])))
          clear c0 c1 c2 c3 c4 c5 c6 c7 hwk HVM HOW
          change Code.wp _ _ _ _ (wr.drewN nq)
          generalize wr.drewN nq = wq at n9 HVM2 HOW2
          clear nq wr
          obtain ⟨c0, c1, c2, c3, c4, c5, c6, c7, hwk⟩ := n9
          have HYL := Lib.hid (show yOf ⟨r1, r2, r3, r4, r5, r6, r7, r8⟩ < 4294967296 from Nat.mod_lt _ (by decide))
          have ey : ∀ n m : Nat, n < 4294967296 → m < 4294967296 → (wrap64 ((n : Int) + (m : Int))).tmod 4294967296 = (((n + m) % 4294967296 : Nat) : Int) := fun n m hn hm => by
            rw [wrap64_is, IntWalk.i64_in _ (by omega), Int.tmod_eq_emod_of_nonneg (by omega), flat2_]
          rw [ey _ _ y1 z7]
          have hy0 : (bsig0 r1 + ma) % 4294967296 = yOf ⟨r1, r2, r3, r4, r5, r6, r7, r8⟩ := by rw [← HMA.out]; rfl
          rw [hy0]
          refine wp_region_lit ?_
          iterate 22 (refine wpList_plain rfl (fun K hK => ?_); go_simp; refine hK _ _ ?_; clear hK K)
          have hl : (run s (words b) (k + 1)).list = [(X + yOf ⟨r1, r2, r3, r4, r5, r6, r7, r8⟩) % 4294967296, r1, r2, r3, (r4 + X) % 4294967296, r5, r6, r7] := by rw [HN.out, ← HX.out]; rfl
          have hbk := HVM2.out.v
          have hsz : (i64s (run s (words b) (k + 1)).list).toArray.size = 8 := rfl
          refine wpList_store_mid rfl 101 _ _ rfl N 0 (i64s (run s (words b) (k + 1)).list).toArray rfl ?_ (there_of_block hbk 0 _ (by rw [hsz]; simp [i64s, St.list])) (by rw [hsz]; kernel_rfl) (i64s_cells _) ?_
          · rw [hl]
            go_simp
            rw [← wrap64_is, ← wrap64_is, ey _ _ HXL.out HYL.out, ey _ _ o4 HXL.out]; rfl
          have hv2 : (wq.setCells N 0 (i64s (run s (words b) (k + 1)).list).toArray.toList).heap[N]? = some (.cells (i64s (run s (words b) (k + 1)).list).toArray 101 (0, 0)) := by
            have := heap_setCells N 101 (0, 0) (i64s (run s (words b) (k + 1)).list) 0 _ _ hbk (by rw [i64s_length, i64s_length, St.list_length, St.list_length]; decide)
            rw [this]; rfl
          have V3 := Lib.hid (show VMem w.heap.size N s.list (run s (words b) (k + 1)).list w (wq.setCells N 0 (i64s (run s (words b) (k + 1)).list).toArray.toList) from
            ⟨HVM2.out.mem.grown (gsetCells N _ 0 _) (by intro k hk; injection hk with hk; rw [← hk]; exact HVM2.out.big), hv2, HVM2.out.big⟩)
          have O3 := Lib.hid (HOW2.out.kept (gsetCells N (i64s (run s (words b) (k + 1)).list).toArray.toList 0 _) (.inr (by have := HGQ.out; simp [Value.ownBlock]; omega)))
          change wpList _ _ _ _ _ (wq.setCells N 0 (i64s (run s (words b) (k + 1)).list).toArray.toList)
          generalize wq.setCells N 0 (i64s (run s (words b) (k + 1)).list).toArray.toList = wz at V3 O3
          clear hv2 hbk HVM2 HOW2 c0 c1 c2 c3 c4 c5 c6 c7 hwk
          go_wp2_with fail
          go_roundw
          case rel => exact ⟨k + 1, by omega, by go_num, V3.out, O3.out⟩
          case measure => simp [intOf]; omega
        · have e : k = 64 := by omega
          subst e
          have o := run_ok hs (words b) 64
          have HV := Lib.hid (show mix s (words b) = plus s (run s (words b) 64) from rfl)
          generalize run s (words b) 64 = v at hv HV o
          have HVM := Lib.hid hv
          have HO := Lib.hid o.all
          clear o hv ho hlt
          go_wp2_with fail
          go_loopw [21] (fun i wr => ∃ j : Nat, j ≤ 8 ∧ i = .int .i64 j ∧ VMem w.heap.size N s.list (addUpto_ v.list s.list j) w wr) (fun i _ => 8 - (intOf i).toNat)
          case atStart => exact ⟨0, Nat.zero_le _, rfl, HVM.out⟩
          case round =>
            obtain ⟨j, hj, rfl, hm⟩ := hrel
            by_cases hlt : j < 8
            · have hc : wr.cell? ⟨N, j, none⟩ = some (.int .i64 ((v.list.getD j 0 : Nat) : Int)) := by
                have := vcell hm j (by rw [addUpto_length_, St.list_length]; exact hlt)
                rwa [addUpto_getD_ _ _ _ _ (Nat.le_refl _)] at this
              have hcs : wr.cell? ⟨w.heap.size, j, none⟩ = some (.int .i64 ((s.list.getD j 0 : Nat) : Int)) := by
                rw [cell_of_row wr w.heap.size j _ _ _ hm.mem.st, List.getElem?_toArray]; exact i64s_at (by rw [St.list_length]; exact hlt)
              have hf : wr.frozen? ⟨N, j, none⟩ = false := vfree hm j
              have hxs := getD_lt hs.all (by decide) j
              have hxv := getD_lt HO.out (by decide) j
              have HS := Lib.hid (show addUpto_ v.list s.list (j + 1) = (addUpto_ v.list s.list j).set j ((v.list.getD j 0 + s.list.getD j 0) % 4294967296) from rfl)
              have HN := Lib.hid hm
              generalize s.list.getD j 0 = x at hcs hxs HS
              generalize v.list.getD j 0 = y at hc hxv HS
              have hj0 : (0 : Int) ≤ (j : Int) := by omega
              have hj1 : (j : Int) < 8 := by omega
              clear hm
              go_wp2_with fail
              go_still_tail 10, (by kernel_rfl)
              change wpList _ _ _ _ _ wr.drew
              go_wp2
              go_roundw
              case rel =>
                first
                  | refine ⟨(j + 1 : Nat), by omega, by go_num, ?_⟩
                  | (repeat apply Exists.intro
                     refine ⟨?_, rfl⟩
                     refine ⟨(j + 1 : Nat), by omega, by go_num, ?_⟩)
                rw [HS.out]
                rw [flat2_]
                exact (HN.out.set j _).below ((Below.refl _ _).drew)
              case measure => simp [intOf]; omega
            · have e : j = 8 := by omega
              subst e
              have HN := Lib.hid hm
              clear hm hlt
              go_upto_region 29 with (fail)
              have eM : addUpto_ v.list s.list 8 = (mix s (words b)).list := by
                rw [HV.out]
                rw [addUpto_plus_]
                simp only [plus, St.list, Nat.add_comm]
              rw [eM] at HN
              generalize hmx : mix s (words b) = mx at HN
              have HMX := Lib.hid hmx
              clear hmx eM HV
              have hrow := HN.out.v
              have hres := HN.out.mem.res
              have hsz : (i64s mx.list).toArray.size = 8 := rfl
              have hth : wr.there (w.heap.size + 1) 0 (i64s mx.list).toArray.size := there_of_block hres 0 _ (by rw [hsz]; decide)
              have hend : ((wr.setCells (w.heap.size + 1) 0 (i64s mx.list).toArray.toList).heap[w.heap.size + 1]? = some (.cells (i64s mx.list).toArray 101 (0, 0))) := by
                have := heap_setCells (w.heap.size + 1) 101 (0, 0) (i64s mx.list) 0 wr _ hres (by rw [i64s_length, i64s_length, pad_length (by decide), St.list_length]; decide)
                rw [this]; rfl
              have HE := Lib.hid hend
              clear hend hres
              refine wp_region_lit ?_
              refine wpList_load_row rfl 101 _ rfl N rfl 101 _ _ _ hrow Tryd.underlying101 rfl (by rw [hsz]; kernel_rfl) ?_
              refine wpList_store_mid rfl 101 _ _ rfl (w.heap.size + 1) 0 _ rfl rfl hth (by rw [hsz]; kernel_rfl) (i64s_cells _) ?_
              clear hrow hth
              have HB := Lib.hid (below_setCells (w.heap.size + 1) (by omega) (i64s mx.list).toArray.toList 0 _ HN.out.mem.old)
              generalize wr.setCells (w.heap.size + 1) 0 (i64s mx.list).toArray.toList = wz at HE HB
              go_wp2_with fail
              exact bodyPost_ret (v := .agg (i64s mx.list).toArray) (results_cell_row rfl _ _ (w.heap.size + 1) 101 _ (0, 0) _ rfl HE.out Tryd.underlying101 rfl (by rw [hsz]; kernel_rfl)) rfl ⟨by rw [HMX.out], HB.out⟩
end Sha
end Go.Proofs.YtdiidfkmmgcjmaaDoor
