/- The small functions of package mac return what the plain functions say. -/
import Derived.Test.YtdiidfkmmgcjmaaDoorMacSpec
import Derived.Test.YtdiidfkmmgcjmaaDoorShaParts
import Derived.Laws.CopyOwn
import Derived.Deep.QuietTactic
import Derived.BigQuiet
import Derived.StillTailTactics
set_option maxRecDepth 100000
namespace Go.Proofs.YtdiidfkmmgcjmaaDoor
open Go.RowKit
namespace Sha
theorem gsetRow' (w : World) (b : Nat) (cs : Array Value) : w.grownBy (w.setRow b cs) (some b) := gsetRow w b cs
theorem ofInt_8 (a : Nat) (ha : a < 256) : (BitVec.ofInt 8 (a : Int)).toNat = a := by
  rw [BitVec.ofInt_natCast, BitVec.toNat_ofNat]; exact Nat.mod_eq_of_lt (by omega)
theorem u8_or_nat (a b : Nat) (ha : a < 256) (hb : b < 256) : bits .or .u8 (a : Int) (b : Int) = ((a ||| b : Nat) : Int) := by
  have hx : a ||| b < 2 ^ 8 := Nat.or_lt_two_pow ha hb
  show IntKind.u8.wrap ((BitVec.ofInt 8 (a : Int) ||| BitVec.ofInt 8 (b : Int)).toNat : Int) = _
  rw [BitVec.toNat_or, ofInt_8 a ha, ofInt_8 b hb, IntWalk.u8_in]
  omega
theorem u8_xor_nat (a b : Nat) (ha : a < 256) (hb : b < 256) : bits .xor .u8 (a : Int) (b : Int) = ((a ^^^ b : Nat) : Int) := by
  have hx : a ^^^ b < 2 ^ 8 := Nat.xor_lt_two_pow ha hb
  show IntKind.u8.wrap ((BitVec.ofInt 8 (a : Int) ^^^ BitVec.ofInt 8 (b : Int)).toNat : Int) = _
  rw [BitVec.toNat_xor, ofInt_8 a ha, ofInt_8 b hb, IntWalk.u8_in]
  omega
/-- A copy into a block of bytes that is known whole, from its beginning on. -/
theorem copy_row {ops : Array Oper} {rest : List Oper} {o : Oper} {a : Act} {Q : Exit → Act → World → Prop} {w : World} (hgd : o.guard = none) (d s : Operand)
    (ho : o.op = .call { callee := .builtin .copy, args := #[d, s], argTypes := #[22, 22] }) (T : TypeId) (b L cd : Nat) (C ys : List Nat) (hL : C.length = L)
    (hd : a.eval d = .slice (some ⟨b, 0, none⟩) L cd) (sv : Value) (hs : a.eval s = sv) (hsrc : BytesIn w sv ys) (hb : w.heap[b]? = some (.cells (u8s C).toArray T (0, 0)))
    (h : ∀ w1, w1.heap[b]? = some (.cells (u8s (ys.take L ++ C.drop ys.length)).toArray T (0, 0)) → w.grownBy w1 (some b) → wpList Tryd.prog ops Q rest (a.put o.dst (.int .i64 (min ys.length L : Nat))) w1) :
    wpList Tryd.prog ops Q (o :: rest) a w := by
  obtain ⟨ad, cap, rfl, hcap, hc⟩ := hsrc
  have hmin : ∀ n m : Nat, Nat.min n m = min n m := fun _ _ => rfl
  rcases hc with h0 | ⟨g, off, rfl, hc⟩
  · subst h0
    refine wpList_copy_nothing hgd d s 22 22 ho 5 Tryd.underlying22 (by kernel_rfl) _ _ L cd _ cap hd hs (by simp) ?_
    have := h w (by simpa using hb) (grefl _ _)
    simpa [goInt] using this
  · have hyl : (ys.take L).length = min ys.length L := by rw [List.length_take]; omega
    have hcl : (u8s (ys.take L)).length = min ys.length L := by rw [u8s_length, hyl]
    refine wpList_copy_own hgd d s 22 22 ho 5 Tryd.underlying22 (by kernel_rfl) b 0 L cd ⟨g, off, none⟩ ys.length cap hd hs _ T hb (u8s (ys.take L)) ?_ ?_ ?_ (u8s_one _) ?_
    · rw [hcl, hmin]
    · intro j v hj
      have hjl : j < (u8s (ys.take L)).length := by
        rcases Nat.lt_or_ge j (u8s (ys.take L)).length with h' | h'
        · exact h'
        · simp [h'] at hj
      rw [hcl] at hjl
      have hjy : j < ys.length := by omega
      rw [Addr.add_mid, hc j hjy, ← hj]
      have hjL : j < L := by omega
      simp [u8s, hjL, hjy]
    · rw [hcl]; simp [u8s_length]; omega
    · rw [show goInt (u8s (ys.take L)).length = .int .i64 (min ys.length L : Nat) by rw [hcl]; rfl]
      refine h _ ?_ (gsetRow _ _ _)
      rw [setRow_heap w b _ _ T _ hb]
      have e : (u8s C).drop (0 + (u8s (ys.take L)).length) = u8s (C.drop ys.length) := by
        rw [hcl, Nat.zero_add]
        rcases Nat.lt_or_ge L ys.length with h' | h'
        · rw [Nat.min_eq_right (Nat.le_of_lt h'), List.drop_of_length_le (by rw [u8s_length]; omega), List.drop_of_length_le (by omega)]; rfl
        · rw [Nat.min_eq_left h']; simp [u8s]
      have : ((u8s C).toArray.toList.take 0 ++ (u8s (ys.take L) ++ (u8s C).toArray.toList.drop (0 + (u8s (ys.take L)).length))) = u8s (ys.take L ++ C.drop ys.length) := by
        show (u8s C).take 0 ++ (u8s (ys.take L) ++ (u8s C).drop _) = _
        rw [e]; simp [u8s]
      rw [this]

set_option maxRecDepth 100000 in
set_option maxHeartbeats 1000000 in
theorem equal_any (v1 v2 : Value) (xs ys : List Nat) (w : World) (h1 : BytesIn w v1 xs) (h2 : BytesIn w v2 ys) (hx8 : ∀ x ∈ xs, x < 256) (hy8 : ∀ x ∈ ys, x < 256) (hl : xs.length < 1000000) (_ : ys.length < 1000000) :
    Calls Tryd.prog 23 #[v1, v2] w fun e w' => e = .returned (.bool (decide (xs = ys))) ∧ ∃ k, w' = w.drewN k := by
  obtain ⟨ad1, c1, rfl, _, h1⟩ := h1
  obtain ⟨ad2, c2, rfl, _, h2⟩ := h2
  have H1 := Lib.hid h1
  have H2 := Lib.hid h2
  clear h1 h2
  by_cases hne : xs.length = ys.length
  · have HD := Lib.hid (differ_zero xs ys)
    have HQ := Lib.hid (fun h => eq_of_getD (xs := xs) (ys := ys) hne h)
    have HL := Lib.hid hne
    rw [hne] at hl
    rw [← hne] at hl
    rw [← hne]
    clear hne
    go_enter Tryd.func23, Tryd.ntmps23
    go_wp2_with fail
    go_loopw [5, 14] (fun d i wr => ∃ k : Nat, k ≤ xs.length ∧ i = .int .i64 k ∧ d = .int .u8 ((differ xs ys k : Nat) : Int) ∧ ∃ n, wr = w.drewN n) (fun _ i _ => xs.length - (intOf i).toNat)
    case atStart => exact ⟨0, Nat.zero_le _, rfl, rfl, 0, rfl⟩
    case round =>
      obtain ⟨k, hk, rfl, rfl, n, rfl⟩ := hrel
      by_cases hlt : k < xs.length
      · rcases H1.out with h0 | ⟨g1, o1, rfl, hc1⟩
        · rw [h0] at hlt; simp at hlt
        rcases H2.out with h0 | ⟨g2, o2, rfl, hc2⟩
        · have := HL.out; rw [h0, List.length_nil] at this; omega
        have d1 := hc1 k hlt
        have d2 := hc2 k (by have := HL.out; omega)
        have hx := getD_lt hx8 (by decide) k
        have hy := getD_lt hy8 (by decide) k
        have HS := Lib.hid (show differ xs ys (k + 1) = differ xs ys k ||| (xs.getD k 0 ^^^ ys.getD k 0) from rfl)
        have hd := differ_lt hx8 hy8 k
        generalize xs.getD k 0 = x at d1 hx HS
        generalize ys.getD k 0 = y at d2 hy HS
        generalize differ xs ys k = d at hd HS
        have hi0 : (0 : Int) ≤ (k : Int) := by omega
        have hi1 : (k : Int) < (xs.length : Int) := by omega
        clear hc1 hc2
        go_wp2_with fail
        go_quiet (fail)
        go_wp2_with fail
        go_roundw
        case rel =>
          refine ⟨k + 1, by omega, by go_num, ?_, n + nq, rfl⟩
          rw [HS.out, u8_xor_nat _ _ hx hy, u8_or_nat _ _ hd (xor8_lt hx hy)]
        case measure => simp [intOf]; omega
      · have hge : xs.length ≤ k := by omega
        have e : k = xs.length := by omega
        subst e
        clear hlt
        have hdec : decide (xs = ys) = (differ xs ys xs.length == 0) := by
          rw [Bool.eq_iff_iff]
          simp only [decide_eq_true_eq, beq_iff_eq]
          constructor
          · intro h; exact (HD.out _).2 (fun i hi => by rw [h])
          · intro h; exact HQ.out ((HD.out _).1 h)
        have HDEC := Lib.hid hdec
        clear hdec
        generalize differ xs ys xs.length = d at HDEC
        go_wp2_with fail
        go_ret
        refine ⟨?_, n, rfl⟩
        show Ending.returned (.bool ((d : Int) == 0)) = _
        have e2 : ((d : Int) == 0) = (d == 0) := by rw [Bool.eq_iff_iff]; simp
        rw [e2, HDEC.out]
  · have hb : ((xs.length : Int) != (ys.length : Int)) = true := by simp; omega
    have HF := Lib.hid (show decide (xs = ys) = false by simp; intro h; exact hne (by rw [h]))
    clear hb
    go_enter Tryd.func23, Tryd.ntmps23
    have HNE := Lib.hid hne
    clear hne
    go_wp2_with fail
    · go_ret
      refine ⟨?_, 0, rfl⟩
      rw [HF.out]; rfl
    · exfalso
      have h : ((xs.length : Int) != (ys.length : Int)) = false := by assumption
      have := HNE.out
      simp at h
      omega

/-- The memory of 'turned': the block, turned as far as k. -/
def turnedTo (l : List Nat) (c k : Nat) : List Nat := (xored l c).take k ++ l.drop k
theorem turnedTo_zero (l : List Nat) (c : Nat) : turnedTo l c 0 = l := by simp [turnedTo]
theorem turnedTo_full (l : List Nat) (c k : Nat) (h : l.length ≤ k) : turnedTo l c k = xored l c := by
  simp [turnedTo, List.drop_of_length_le h, List.take_of_length_le (show (xored l c).length ≤ k by rw [xored_length]; exact h)]
theorem turnedTo_at (l : List Nat) (c k : Nat) (h : k < l.length) : (turnedTo l c k).getD k 0 = l.getD k 0 := by
  have e : ((xored l c).take k).length = k := by rw [List.length_take, xored_length]; omega
  simp [turnedTo, List.getD_eq_getElem?_getD, List.getElem?_append_right (Nat.le_of_eq e), e, h]
theorem turnedTo_length (l : List Nat) (c k : Nat) (h : k ≤ l.length) : (turnedTo l c k).length = l.length := by
  simp [turnedTo, xored_length]; omega
theorem turnedTo_next (l : List Nat) (c k : Nat) (h : k < l.length) : (turnedTo l c k).set k (l.getD k 0 ^^^ c) = turnedTo l c (k + 1) := by
  have e : ((xored l c).take k).length = k := by rw [List.length_take, xored_length]; omega
  have h1 : k < (xored l c).length := by rw [xored_length]; exact h
  unfold turnedTo
  rw [List.set_append_right _ _ (Nat.le_of_eq e), e, Nat.sub_self, List.drop_eq_getElem_cons h, List.set_cons_zero, List.take_succ_eq_append_getElem h1]
  have : (xored l c)[k] = l.getD k 0 ^^^ c := by simp [xored, h]
  rw [this]; simp
theorem drop_cell {w : World} {b : Nat} {l : List Nat} {T : TypeId} (h : w.heap[b]? = some (.cells (u8s l).toArray T (0, 0))) (k : Nat) (hk : k < l.length) :
    w.cell? ⟨b, k, none⟩ = some (.int .u8 ((l.getD k 0 : Nat) : Int)) := (cell_of_row w b k _ _ _ h).trans (u8s_at hk)
set_option maxRecDepth 100000 in
set_option maxHeartbeats 1000000 in
theorem turned8_any (l : List Nat) (c : Nat) (w : World) (hl : l.length = 64) (h8 : ∀ x ∈ l, x < 256) (hc : c < 256) :
    Calls Tryd.prog 34 #[.agg (u8s l).toArray, .int .u8 (c : Int)] w fun e w' =>
      e = .returned (.slice (some ⟨w.heap.size, 0, none⟩) 64 64) ∧ w'.heap[w.heap.size]? = some (.cells (u8s (xored l c)).toArray 70 (0, 0)) ∧ Below w.heap.size w w' := by
  have HL := Lib.hid hl
  have H8 := Lib.hid h8
  clear hl h8
  go_enter Tryd.func34, Tryd.ntmps34
  go_upto_region 1 with (fail)
  have h1 := heap_alloc_new w (.cells (u8s l).toArray 70)
  have h3 : Below w.heap.size w (w.alloc (.cells (u8s l).toArray 70)) := (Below.refl _ _).alloc (Nat.le_refl _) _
  generalize w.alloc (.cells (u8s l).toArray 70) = w1 at h1 h3
  have H1 := Lib.hid h1
  have H3 := Lib.hid h3
  clear h1 h3
  go_wp2_with fail
  go_loopw [6] (fun i wr => ∃ k : Nat, k ≤ 64 ∧ i = .int .i64 k ∧ wr.heap[w.heap.size]? = some (.cells (u8s (turnedTo l c k)).toArray 70 (0, 0)) ∧ Below w.heap.size w wr) (fun i _ => 64 - (intOf i).toNat)
  case atStart => exact ⟨0, Nat.zero_le _, rfl, by rw [turnedTo_zero]; exact H1.out, H3.out⟩
  case round =>
    obtain ⟨k, hk, rfl, hb, ho⟩ := hrel
    by_cases hlt : k < 64
    · have hc0 := drop_cell hb k (by rw [turnedTo_length _ _ _ (by rw [HL.out]; omega), HL.out]; exact hlt)
      rw [turnedTo_at l c k (by rw [HL.out]; exact hlt)] at hc0
      have hf : wr.frozen? ⟨w.heap.size, k, none⟩ = false := frozen_of_row wr w.heap.size k _ _ hb
      have hx := getD_lt H8.out (by decide) k
      have HS := Lib.hid (turnedTo_next l c k (by rw [HL.out]; exact hlt))
      have hset := heap_setCell_same wr w.heap.size k _ _ (.int .u8 ((l.getD k 0 ^^^ c : Nat) : Int)) hb
      rw [u8s_set, HS.out] at hset
      have HB := Lib.hid hset
      have HO := Lib.hid (ho.setCell (p := ⟨w.heap.size, k, none⟩) (Nat.le_refl _) (.int .u8 ((l.getD k 0 ^^^ c : Nat) : Int)))
      generalize l.getD k 0 = x at hc0 hx HB HO
      clear hb ho hset HS
      go_wp2_with fail
      rw [u8_xor_nat x c hx hc]
      generalize wr.setCell ⟨w.heap.size, k, none⟩ (.int .u8 ((x ^^^ c : Nat) : Int)) = w2 at HB HO
      go_wp2_with fail
      go_roundw
      case rel => exact ⟨k + 1, by omega, by go_num, HB.out, HO.out⟩
      case measure => simp [intOf]; omega
    · have e : k = 64 := by omega
      subst e
      rw [turnedTo_full l c 64 (Nat.le_of_eq HL.out)] at hb
      have HB := Lib.hid hb
      have HO := Lib.hid ho
      clear hb ho hlt
      go_wp2_with fail
      go_ret
      exact ⟨rfl, HB.out, HO.out⟩
/-- The memory of 'keyBlock': its result, the block. -/
structure KMem (H : Nat) (l : List Nat) (w0 w : World) : Prop where
  res : w.heap[H]? = some (.cells (u8s (pad 64 [])).toArray 70 (0, 0))
  blk : w.heap[H + 1]? = some (.cells (u8s l).toArray 70 (0, 0))
  old : Below H w0 w
theorem KMem.below {H : Nat} {l : List Nat} {w0 w w1 : World} (h : KMem H l w0 w) (hb : Below w.heap.size w w1) : KMem H l w0 w1 :=
  ⟨(hb.block _ (lt_of_heap h.res)).trans h.res, (hb.block _ (lt_of_heap h.blk)).trans h.blk, h.old.trans (hb.mono (Nat.le_of_lt (lt_of_heap h.res)))⟩
theorem kblock_pad (k : List Nat) : (keyOf k).take 64 ++ (pad 64 []).drop (keyOf k).length = kblock k := by
  have h := keyOf_length k
  rw [List.take_of_length_le h, kblock, pad, List.nil_append, List.length_nil, Nat.sub_zero, List.drop_replicate]
theorem row_bytes {w : World} {b n c : Nat} {l : List Nat} {T : TypeId} (h : w.heap[b]? = some (.cells (u8s l).toArray T (0, 0))) (hn : n ≤ l.length) (hc : n ≤ c) : BytesIn w (.slice (some ⟨b, 0, none⟩) n c) (l.take n) := by
  have hl : (l.take n).length = n := by rw [List.length_take]; omega
  refine ⟨_, c, by rw [hl], by rw [hl]; exact hc, .inr ⟨b, 0, rfl, fun j hj => ?_⟩⟩
  rw [hl] at hj
  rw [Nat.zero_add, drop_cell h j (by omega)]
  simp [List.getD_eq_getElem?_getD, hj]
theorem bytes_len {w : World} {ad : Option Addr} {n c : Nat} {l : List Nat} (h : BytesIn w (.slice ad n c) l) : l.length = n := by
  obtain ⟨ad2, c2, hv, _⟩ := h
  injection hv with _ e _; exact e.symm
attribute [local go_sem ↓] Go.wp_at_zero Go.wp_at_succ
set_option maxRecDepth 100000 in
set_option maxHeartbeats 1000000 in
theorem keyBlock_any (ad : Option Addr) (n cap : Nat) (key : List Nat) (w : World) (hB : BytesIn w (.slice ad n cap) key) (h8 : ∀ x ∈ key, x < 256) (hn : n < 1000000) :
    Calls Tryd.prog 31 #[.slice ad n cap] w fun e w' => e = .returned (.agg (u8s (kblock key)).toArray) ∧ Below w.heap.size w w' := by
  have HB := Lib.hid hB
  have H8 := Lib.hid h8
  have HL := Lib.hid (bytes_len hB)
  clear hB h8
  have HKL := Lib.hid (kblock_length key)
  have HP := Lib.hid (kblock_pad key)
  go_enter Tryd.func31, Tryd.ntmps31
  go_upto_region 2 with (fail)
  have M0 := Lib.hid (show KMem w.heap.size (pad 64 []) w ((w.alloc (.cells (u8s (pad 64 [])).toArray 70)).alloc (.cells (u8s (pad 64 [])).toArray 70)) from
    ⟨heap_alloc2_old w _ _, heap_alloc2_new w _ _, ((Below.refl _ _).alloc (Nat.le_refl _) _).alloc (by simp) _⟩)
  change Code.wp _ _ _ _ ((w.alloc (.cells (u8s (pad 64 [])).toArray 70)).alloc (.cells (u8s (pad 64 [])).toArray 70))
  generalize (w.alloc (.cells (u8s (pad 64 [])).toArray 70)).alloc (.cells (u8s (pad 64 [])).toArray 70) = w1 at M0
  have fin : ∀ w2, KMem w.heap.size (kblock key) w w2 → Below w.heap.size w (w2.setCells w.heap.size 0 (u8s (kblock key)).toArray.toList) ∧ (w2.setCells w.heap.size 0 (u8s (kblock key)).toArray.toList).heap[w.heap.size]? = some (.cells (u8s (kblock key)).toArray 70 (0, 0)) := by
    intro w2 h
    refine ⟨below_setCells w.heap.size (Nat.le_refl _) _ 0 _ h.old, ?_⟩
    have := heap_setCells w.heap.size 70 (0, 0) (u8s (kblock key)) 0 w2 _ h.res (by rw [u8s_length, u8s_length, HKL.out]; decide)
    rw [this, Nat.zero_add, List.take_zero, List.nil_append, List.drop_of_length_le (by rw [u8s_length, u8s_length, HKL.out]; decide), List.append_nil]
  have FIN := Lib.hid fin
  have hsz : (u8s (kblock key)).toArray.size = 64 := by rw [List.size_toArray, u8s_length, HKL.out]
  have HSZ := Lib.hid hsz
  clear fin hsz
  by_cases h64 : 64 < n
  · have hd : decide ((64 : Int) < (n : Int)) = true := by simp; omega
    go_wp2_with fail
    refine (of_any [key] _ _ (one_part (bytes_below HB.out M0.out.old)) (by simpa using H8.out) (by have := HL.out; simp; omega) (by simp)).mono ?_
    rintro e w2 ⟨rfl, hb2⟩
    rw [show [key].flatten = key by simp]
    have M2 := Lib.hid ((M0.out.below ((Below.refl _ _).alloc (Nat.le_refl _) (.cells #[.slice ad n cap] 22))).below hb2)
    clear hb2 M0
    dsimp only
    rename_i hK
    refine hK _ _ ?_
    clear hK
    refine wpList_plain rfl (fun K hK => ?_)
    go_simp
    refine hK _ _ ?_
    clear hK K
    have hbk : (w2.alloc (.cells (u8s (pad 32 [])).toArray 55)).heap[w2.heap.size]? = some (.cells (u8s (pad 32 [])).toArray 55 (0, 0)) := heap_alloc_new w2 _
    have M3 := Lib.hid (M2.out.below ((Below.refl _ _).alloc (Nat.le_refl _) (.cells (u8s (pad 32 [])).toArray 55)))
    have hlt : w.heap.size + 2 ≤ w2.heap.size := lt_of_heap M2.out.blk
    change wpList _ _ _ _ _ (w2.alloc (.cells (u8s (pad 32 [])).toArray 55))
    generalize w2.alloc (.cells (u8s (pad 32 [])).toArray 55) = w3 at hbk M3
    clear M2
    generalize w2.heap.size = N at hbk hlt
    refine wpList_store_mid rfl 55 _ _ rfl N 0 _ rfl rfl (dg_there hbk _) (dg_info _) (u8s_cells _) ?_
    have D4 := Lib.hid (show DgAt (w3.setCells N 0 (u8s (digest key)).toArray.toList) N key from put_dg hbk _)
    have M4 := Lib.hid (show KMem w.heap.size (pad 64 []) w (w3.setCells N 0 (u8s (digest key)).toArray.toList) from
      ⟨((gsetCells N _ 0 w3).block _ (lt_of_heap M3.out.res) (by intro e; injection e with e; omega)).trans M3.out.res, ((gsetCells N _ 0 w3).block _ (lt_of_heap M3.out.blk) (by intro e; injection e with e; omega)).trans M3.out.blk, below_setCells N (by omega) _ 0 _ M3.out.old⟩)
    change wpList _ _ _ _ _ (w3.setCells N 0 (u8s (digest key)).toArray.toList)
    generalize w3.setCells N 0 (u8s (digest key)).toArray.toList = w4 at D4 M4
    clear hbk M3
    have HK := Lib.hid (show keyOf key = digest key by unfold keyOf; rw [if_pos (by rw [HL.out]; exact h64)])
    clear hd
    go_wp2_with fail
    go_still_tail 2, (by kernel_rfl)
    change wpList _ _ _ _ _ w4.drew
    have D5 := Lib.hid (show DgAt w4.drew N key from D4.out)
    have M5 := Lib.hid (M4.out.below ((Below.refl w4.heap.size w4).drew))
    generalize w4.drew = w5 at D5 M5
    refine copy_row rfl (.tmp 11) (.tmp 12) rfl 70 (w.heap.size + 1) 64 64 (pad 64 []) (keyOf key) (by decide) rfl _ rfl (by rw [HK.out]; exact (row_bytes D5.out (n := 32) (c := 32) (by rw [digest_len]; decide) (by decide))) M5.out.blk ?_
    intro w6 hb6 hg6
    rw [HP.out] at hb6
    have M6 := Lib.hid (show KMem w.heap.size (kblock key) w w6 from ⟨(hg6.block _ (lt_of_heap M5.out.res) (by simp)).trans M5.out.res, hb6, M5.out.old.grown hg6 (Nat.le_of_lt (lt_of_heap M5.out.res)) (by intro k hk; injection hk with hk; omega)⟩)
    clear hb6 hg6 M5 D5 M4 D4
    go_upto_region 6 with (fail)
    refine wp_region_lit ?_
    refine wpList_load_row rfl 70 _ rfl (w.heap.size + 1) rfl 70 _ _ _ M6.out.blk Tryd.underlying70 rfl (by rw [HSZ.out]; kernel_rfl) ?_
    refine wpList_store_mid rfl 70 _ _ rfl w.heap.size 0 _ rfl rfl (there_of_block M6.out.res 0 _ (by rw [HSZ.out]; decide)) (by rw [HSZ.out]; kernel_rfl) (u8s_cells _) ?_
    have FZ := Lib.hid (FIN.out w6 M6.out)
    generalize w6.setCells w.heap.size 0 (u8s (kblock key)).toArray.toList = wz at FZ
    go_wp2_with fail
    exact bodyPost_ret (v := .agg (u8s (kblock key)).toArray) (results_cell_row rfl _ _ w.heap.size 70 _ (0, 0) _ rfl FZ.out.2 Tryd.underlying70 rfl (by rw [HSZ.out]; kernel_rfl)) rfl ⟨rfl, FZ.out.1⟩
  · have hd : decide ((64 : Int) < (n : Int)) = false := by simp; omega
    have HK := Lib.hid (show keyOf key = key by unfold keyOf; rw [if_neg (by rw [HL.out]; omega)])
    have hz : n ≤ 64 := by omega
    clear h64
    go_upto_region 5 with (fail)
    refine wp_region_lit ?_
    refine wpList_plain rfl (fun K hK => ?_)
    go_simp
    refine hK _ _ ?_
    clear hK K
    refine wpList_plain rfl (fun K hK => ?_)
    go_simp
    refine hK _ _ ?_
    clear hK K
    refine copy_row rfl (.tmp 14) (.tmp 15) rfl 70 (w.heap.size + 1) 64 64 (pad 64 []) key (by decide) rfl _ rfl (bytes_below HB.out M0.out.old) M0.out.blk ?_
    intro w2 hb2 hg2
    rw [← HK.out, HP.out] at hb2
    have M2 := Lib.hid (show KMem w.heap.size (kblock key) w w2 from ⟨(hg2.block _ (lt_of_heap M0.out.res) (by simp)).trans M0.out.res, hb2, M0.out.old.grown hg2 (Nat.le_of_lt (lt_of_heap M0.out.res)) (by intro k hk; injection hk with hk; omega)⟩)
    clear hb2 hg2 M0
    go_upto_region 6 with (fail)
    refine wp_region_lit ?_
    refine wpList_load_row rfl 70 _ rfl (w.heap.size + 1) rfl 70 _ _ _ M2.out.blk Tryd.underlying70 rfl (by rw [HSZ.out]; kernel_rfl) ?_
    refine wpList_store_mid rfl 70 _ _ rfl w.heap.size 0 _ rfl rfl (there_of_block M2.out.res 0 _ (by rw [HSZ.out]; decide)) (by rw [HSZ.out]; kernel_rfl) (u8s_cells _) ?_
    have FZ := Lib.hid (FIN.out w2 M2.out)
    generalize w2.setCells w.heap.size 0 (u8s (kblock key)).toArray.toList = wz at FZ
    go_wp2_with fail
    exact bodyPost_ret (v := .agg (u8s (kblock key)).toArray) (results_cell_row rfl _ _ w.heap.size 70 _ (0, 0) _ rfl FZ.out.2 Tryd.underlying70 rfl (by rw [HSZ.out]; kernel_rfl)) rfl ⟨rfl, FZ.out.1⟩
end Sha
end Go.Proofs.YtdiidfkmmgcjmaaDoor
