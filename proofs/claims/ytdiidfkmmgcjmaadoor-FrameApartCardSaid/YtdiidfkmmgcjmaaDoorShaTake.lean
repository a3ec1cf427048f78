/- 'take' of package hash adds the bytes of a part to a sum. -/
import Derived.Test.YtdiidfkmmgcjmaaDoorShaInv
import Derived.Test.YtdiidfkmmgcjmaaDoorShaMixed
import Derived.Test.YtdiidfkmmgcjmaaDoorShaSpread
import Derived.Laws.CopyOwn
import Derived.Deep.RegionWith
import Derived.Deep.DrawnRows
set_option maxRecDepth 100000
namespace Go.Proofs.YtdiidfkmmgcjmaaDoor
open Go.RowKit
namespace Sha

def sumCells (st blk : List Nat) (len : Nat) : List Value := u32s st ++ (u8s blk ++ [.int .u64 (len : Int)])
structure SumIs (w : World) (b : Nat) (m blk : List Nat) : Prop where
  row : w.heap[b]? = some (.cells (sumCells (stOf m).list blk m.length).toArray 97 (0, 0))
  inv : Inv m blk
/-- Block b is the sum of the text m. -/
def SumAt (w : World) (b : Nat) (m : List Nat) : Prop := ∃ blk, SumIs w b m blk
/-- v is a slice of the bytes xs, none of them in block b. -/
def BytesAt (w : World) (b : Nat) (v : Value) (xs : List Nat) : Prop :=
  ∃ ad cap, v = .slice ad xs.length cap ∧ xs.length ≤ cap ∧ (xs = [] ∨ ∃ g off, ad = some ⟨g, off, none⟩ ∧ g ≠ b ∧ ∀ j, j < xs.length → w.cell? ⟨g, off + j, none⟩ = some (.int .u8 ((xs.getD j 0 : Nat) : Int)))
def sliceLen : Value → Nat | .slice _ n _ => n | _ => 0

theorem cell_len {w : World} {b : Nat} {m blk : List Nat} (h : SumIs w b m blk) : w.cell? ⟨b, 72, none⟩ = some (.int .u64 (m.length : Int)) := by
  have := h.inv.len
  rw [cell_of_row w b 72 _ _ _ h.row]
  simp [sumCells, u32s, u8s, St.list, this]

theorem drop_take_add (xs : List Nat) (k n : Nat) : (xs.drop k).take n = (xs.take (k + n)).drop k := by
  rw [List.drop_take]; congr 1; omega

theorem slice_from (b p : Nat) (hp : p < 64) (w : World) :
    (Instr.sliceAt 70 (.pointer (some ⟨b, 8, none⟩)) (some (.int .u64 (p : Int))) none none).run Tryd.prog w = .ok (.slice (some ⟨b, 8 + p, none⟩) (64 - p) (64 - p)) w := by
  have hs : ((sizeOf (Tryd.prog.elem 70)).run Tryd.prog w) = .ok 1 w := by kernel_rfl
  rw [run_sliceAt_array_l (P := Tryd.prog) w 70 _ arr_blk _ _ (by omega) (by rw [len_blk]; omega), len_blk, hs]
  simp only [Result.andThen, slicedAt, Addr.add]
  rw [if_neg (by omega)]
  simp
theorem sum_laid {st m blk l : List Nat} {L : Nat} (hst : st.length = 8) (h : Inv m blk) (hl : m.length % 64 + l.length ≤ 64) :
    (sumCells st blk L).toArray.toList.take (8 + m.length % 64) ++ (u8s l ++ (sumCells st blk L).toArray.toList.drop (8 + m.length % 64 + l.length)) = sumCells st (laid m blk l) L := by
  have hb := h.len
  have e1 : (u32s st).length = 8 := by rw [u32s_length, hst]
  have e2 : (u8s blk).length = 64 := by rw [u8s_length, hb]
  have t1 : (sumCells st blk L).take (8 + m.length % 64) = u32s st ++ (u8s blk).take (m.length % 64) := by
    rw [sumCells, ← e1, List.take_length_add_append, List.take_append_of_le_length (by omega)]
  have t2 : (sumCells st blk L).drop (8 + m.length % 64 + l.length) = (u8s blk).drop (m.length % 64 + l.length) ++ [.int .u64 (L : Int)] := by
    rw [sumCells, Nat.add_assoc, ← e1, List.drop_length_add_append, List.drop_append_of_le_length (by omega)]
  show (sumCells st blk L).take (8 + m.length % 64) ++ (u8s l ++ (sumCells st blk L).drop (8 + m.length % 64 + l.length)) = _
  rw [t1, t2, sumCells, laid]
  simp [u8s]

theorem copy_law {ops : Array Oper} {rest : List Oper} {o : Oper} {a : Act} {Q : Exit → Act → World → Prop} {w : World} {b g off p n cap : Nat} {m blk ys : List Nat}
    (hgd : o.guard = none) (d s : Operand) (ho : o.op = .call { callee := .builtin .copy, args := #[d, s], argTypes := #[22, 22] })
    (hd : a.eval d = .slice (some ⟨b, 8 + p, none⟩) (64 - p) (64 - p)) (hs : a.eval s = .slice (some ⟨g, off, none⟩) ys.length cap)
    (hR : SumIs w b m blk) (hp : p = m.length % 64) (hn : n = min ys.length (64 - p)) (hc : ∀ j, j < ys.length → w.cell? ⟨g, off + j, none⟩ = some (.int .u8 ((ys.getD j 0 : Nat) : Int)))
    (h : ∀ w1, w1.heap[b]? = some (.cells (sumCells (stOf m).list (laid m blk (ys.take n)) m.length).toArray 97 (0, 0)) → w.grownBy w1 (some b) → wpList Tryd.prog ops Q rest (a.put o.dst (.int .i64 (n : Int))) w1) :
    wpList Tryd.prog ops Q (o :: rest) a w := by
  have hp64 : p < 64 := by omega
  have hnl : (ys.take n).length = n := by rw [List.length_take]; omega
  have hcl : (u8s (ys.take n)).length = n := by rw [u8s_length, hnl]
  have hb := hR.inv.len
  refine wpList_copy_own hgd d s 22 22 ho 5 Tryd.underlying22 (by kernel_rfl) b (8 + p) (64 - p) (64 - p) ⟨g, off, none⟩ ys.length cap hd hs _ 97 hR.row (u8s (ys.take n)) ?_ ?_ ?_ ?_ ?_
  · rw [hcl, hn]
  · intro j v hj
    have hjl : j < (u8s (ys.take n)).length := by
      rcases Nat.lt_or_ge j (u8s (ys.take n)).length with h' | h'
      · exact h'
      · simp [h'] at hj
    rw [hcl] at hjl
    have hjy : j < ys.length := by omega
    rw [Addr.add_mid, hc j hjy, ← hj]
    simp [u8s, hjl, hjy]
  · rw [hcl]; simp [sumCells, u32s, u8s, St.list, hb]; omega
  · exact u8s_one _
  · rw [show goInt (u8s (ys.take n)).length = .int .i64 (n : Int) by rw [hcl]; rfl]
    refine h _ ?_ (gsetRow _ _ _)
    rw [setRow_heap w b _ _ 97 _ hR.row, hp, ← sum_laid (by rfl) hR.inv (l := ys.take n) (by omega), hnl, hcl]

/-- What is left of a part behind n of its bytes. -/
def rest (g off n Y cap : Nat) : Value := .slice (if cap = n then some ⟨g, off, none⟩ else some ⟨g, off + n, none⟩) (Y - n) (cap - n)
theorem run_rest (g off n Y cap : Nat) (hn : n ≤ Y) (w : World) :
    (Instr.sliceAt 22 (.slice (some ⟨g, off, none⟩) Y cap) (some (.int .i64 (n : Int))) none none).run Tryd.prog w = .ok (rest g off n Y cap) w := by
  have hu : Tryd.prog.underlying 22 = some (.slice (Tryd.prog.elem 22)) := by kernel_rfl
  have hs : ((sizeOf (Tryd.prog.elem 22)).run Tryd.prog w) = .ok 1 w := by kernel_rfl
  rw [run_sliceAt_slice (P := Tryd.prog) w _ _ _ _ _ hu, run_slice_l (P := Tryd.prog) w _ _ _ _ hu _ _ (by omega) (by omega), hs]
  simp only [Result.andThen, sliced, rest, Addr.add]
  by_cases hc : cap = n <;> simp [hc]
theorem bytes_rest {w : World} {b g off n cap : Nat} {ys : List Nat} (hgb : g ≠ b) (hcap : ys.length ≤ cap) (hn : n ≤ ys.length) (hc : ∀ j, j < ys.length → w.cell? ⟨g, off + j, none⟩ = some (.int .u8 ((ys.getD j 0 : Nat) : Int))) :
    BytesAt w b (rest g off n ys.length cap) (ys.drop n) := by
  refine ⟨_, cap - n, by rw [rest, List.length_drop], by simp; omega, ?_⟩
  by_cases h0 : n = ys.length
  · exact .inl (by simp [h0])
  · refine .inr ⟨g, off + n, by rw [if_neg (by omega)], hgb, fun j hj => ?_⟩
    simp only [List.length_drop] at hj
    rw [Nat.add_assoc, hc (n + j) (by omega)]
    simp [List.getD_eq_getElem?_getD]
theorem sum_len {st blk : List Nat} {L : Nat} (hst : st.length = 8) (hb : blk.length = 64) (v : Nat) :
    (sumCells st blk L).toArray.setIfInBounds 72 (.int .u64 (v : Int)) = (sumCells st blk v).toArray := by
  have e1 : (u32s st).length = 8 := by rw [u32s_length, hst]
  have e2 : (u8s blk).length = 64 := by rw [u8s_length, hb]
  have : (sumCells st blk L).set 72 (.int .u64 (v : Int)) = sumCells st blk v := by
    rw [sumCells, List.set_append_right _ _ (by omega), e1, List.set_append_right _ _ (by omega), e2]; rfl
  simp [this]
theorem bytes_grown {w w1 : World} {b : Nat} {v : Value} {xs : List Nat} (h : BytesAt w b v xs) (hg : w.grownBy w1 (some b)) : BytesAt w1 b v xs := by
  obtain ⟨ad, cap, rfl, hcap, hc⟩ := h
  refine ⟨ad, cap, rfl, hcap, ?_⟩
  rcases hc with h0 | ⟨g, off, rfl, hgb, hc⟩
  · exact .inl h0
  · exact .inr ⟨g, off, rfl, hgb, fun j hj => hg.cell (hc j hj) (by intro e; injection e with e; exact hgb e)⟩

theorem range_set {w : World} {b i : Nat} {v : Value} {cs : List Value} (h : w.rangeAt b 8 cs) (hi : i < 8) : (w.setCell ⟨b, i, none⟩ v).rangeAt b 8 cs := fun j u hj => keep_cell (by omega) (h j u hj)
theorem range_below {w w' : World} {b : Nat} {cs : List Value} (hb : Below w.heap.size w w') (hlt : b < w.heap.size) (h : w.rangeAt b 8 cs) : w'.rangeAt b 8 cs := fun j u hj => (hb.cell (p := ⟨b, 8 + j, none⟩) hlt).trans (h j u hj)
theorem bk {w w' : World} {b : Nat} (hb : Below w.heap.size w w') (hlt : b < w.heap.size) :
    (∀ o, w'.cell? ⟨b, o, none⟩ = w.cell? ⟨b, o, none⟩) ∧ (∀ o, w'.frozen? ⟨b, o, none⟩ = w.frozen? ⟨b, o, none⟩) ∧ b < w'.heap.size :=
  ⟨fun o => hb.cell (p := ⟨b, o, none⟩) hlt, fun o => hb.frozen (p := ⟨b, o, none⟩) hlt, Nat.lt_of_lt_of_le hlt hb.size⟩
theorem sum_stored {w : World} {b L : Nat} {st lb : List Nat} (hst : st.length = 8) (h : w.heap[b]? = some (.cells (sumCells st lb L).toArray 97 (0, 0))) (r1 r2 r3 r4 r5 r6 r7 r8 : Nat) :
    ((((((((w.setCell ⟨b, 0, none⟩ (.int .u32 (r1 : Int))).setCell ⟨b, 1, none⟩ (.int .u32 (r2 : Int))).setCell ⟨b, 2, none⟩ (.int .u32 (r3 : Int))).setCell ⟨b, 3, none⟩ (.int .u32 (r4 : Int))).setCell ⟨b, 4, none⟩ (.int .u32 (r5 : Int))).setCell ⟨b, 5, none⟩ (.int .u32 (r6 : Int))).setCell ⟨b, 6, none⟩ (.int .u32 (r7 : Int))).setCell ⟨b, 7, none⟩ (.int .u32 (r8 : Int))).heap[b]? =
      some (.cells (sumCells [r1, r2, r3, r4, r5, r6, r7, r8] lb L).toArray 97 (0, 0)) := by
  have e1 : (u32s st).length = 8 := by rw [u32s_length, hst]
  have := heap_setCells b 97 (0, 0) (u32s [r1, r2, r3, r4, r5, r6, r7, r8]) 0 w _ h (by simp [sumCells, e1, u32s_length])
  rw [show 0 + (u32s [r1, r2, r3, r4, r5, r6, r7, r8]).length = 8 by rfl, List.take_zero, List.nil_append, sumCells, ← e1, List.drop_left'] at this
  · exact this
  · rfl
theorem grown_stored (w : World) (b r1 r2 r3 r4 r5 r6 r7 r8 : Nat) :
    w.grownBy ((((((((w.setCell ⟨b, 0, none⟩ (.int .u32 (r1 : Int))).setCell ⟨b, 1, none⟩ (.int .u32 (r2 : Int))).setCell ⟨b, 2, none⟩ (.int .u32 (r3 : Int))).setCell ⟨b, 3, none⟩ (.int .u32 (r4 : Int))).setCell ⟨b, 4, none⟩ (.int .u32 (r5 : Int))).setCell ⟨b, 5, none⟩ (.int .u32 (r6 : Int))).setCell ⟨b, 6, none⟩ (.int .u32 (r7 : Int))).setCell ⟨b, 7, none⟩ (.int .u32 (r8 : Int))) (some b) :=
  gsetCells b (u32s [r1, r2, r3, r4, r5, r6, r7, r8]) 0 w
def ptrOf : Value → Addr | .pointer (some a) => a | _ => ⟨0, 0, none⟩
theorem load_blk {d : Option Tmp} {n : Tmp} {ty : TypeId} {pos : String} {af : Array Edge} {a : Act} {w : World} {K : Act → World → Prop} {Q : Exit → Act → World → Prop}
    (hx : a.eval (.tmp n) = .pointer (some ⟨(ptrOf (a.eval (.tmp n))).block, (ptrOf (a.eval (.tmp n))).off, none⟩)) (h : OkRow w (ptrOf (a.eval (.tmp n))).block (ptrOf (a.eval (.tmp n))).off 64) :
    Oper.wp Tryd.prog { dst := d, op := Op.load 70 (.tmp n), type := ty, pos := pos, after := af, guard := none } a w K Q =
      K (a.put d (.agg (rowAt w (ptrOf (a.eval (.tmp n))).block (ptrOf (a.eval (.tmp n))).off 64).toArray)) w := by
  generalize ptrOf (a.eval (.tmp n)) = p at *
  have e := run_loadVar_mid (P := Tryd.prog) w p.block p.off 70 _ _ (rowAt_range h) Tryd.underlying70 rfl (by rw [rowAt_length]; kernel_rfl)
  unfold Oper.wp execOp
  simp only [hx, Instr.loadAt, Instr.sureAddr, Sem.run_bind, Sem.run_pure, Result.andThen_ok, e, Oper.upon]
theorem mixed8 (s1 s2 s3 s4 s5 s6 s7 s8 : Nat) (ws : List Nat) (w : World) (hs : (⟨s1, s2, s3, s4, s5, s6, s7, s8⟩ : St).Ok) (hl : ws.length = 64) (hw : ∀ x ∈ ws, x < 4294967296) :
    Calls Tryd.prog 48 #[.agg #[.int .u32 (s1 : Int), .int .u32 (s2 : Int), .int .u32 (s3 : Int), .int .u32 (s4 : Int), .int .u32 (s5 : Int), .int .u32 (s6 : Int), .int .u32 (s7 : Int), .int .u32 (s8 : Int)], .agg (u32s ws).toArray] w fun e w' =>
      (∃ r1 r2 r3 r4 r5 r6 r7 r8 : Nat, mix ⟨s1, s2, s3, s4, s5, s6, s7, s8⟩ ws = ⟨r1, r2, r3, r4, r5, r6, r7, r8⟩ ∧ e = .returned (.agg #[.int .u32 (r1 : Int), .int .u32 (r2 : Int), .int .u32 (r3 : Int), .int .u32 (r4 : Int), .int .u32 (r5 : Int), .int .u32 (r6 : Int), .int .u32 (r7 : Int), .int .u32 (r8 : Int)])) ∧ Below w.heap.size w w' :=
  (mixed_any ⟨s1, s2, s3, s4, s5, s6, s7, s8⟩ ws w hs hl hw).mono fun _ _ ⟨he, hb⟩ => ⟨⟨_, _, _, _, _, _, _, _, rfl, he⟩, hb⟩

attribute [local go_sem] ptrOf
attribute [local go_sem ↓] Go.wp_at_zero Go.wp_at_succ load_blk
set_option maxRecDepth 100000 in
set_option maxHeartbeats 4000000 in
theorem take_any (b : Nat) (m xs : List Nat) (v : Value) (w : World) (hS : SumAt w b m) (hB : BytesAt w b v xs) (h8 : ∀ x ∈ xs, x < 256) (hm : m.length + xs.length < 1000000000) :
    Calls Tryd.prog 42 #[.pointer (some ⟨b, 0, none⟩), v] w fun e w' => e = .returned (.tuple #[]) ∧ SumAt w' b (m ++ xs) ∧ w.grownBy w' (some b) := by
  go_enter Tryd.func42, Tryd.ntmps42
  go_wp2_with fail
  go_loopw [1] (fun v wr => ∃ k : Nat, k ≤ xs.length ∧ SumAt wr b (m ++ xs.take k) ∧ BytesAt wr b v (xs.drop k) ∧ w.grownBy wr (some b)) (fun v _ => sliceLen v)
  case atStart => exact ⟨0, Nat.zero_le _, by simpa using hS, by simpa using hB, grefl _ _⟩
  case round =>
    obtain ⟨k, hk, ⟨blk, hs⟩, ⟨ad, cap, rfl, hcap, hcells⟩, hg⟩ := hrel
    by_cases hlt : k < xs.length
    · obtain ⟨ys, hys⟩ : ∃ ys, ys = xs.drop k := ⟨_, rfl⟩
      obtain ⟨m', hm'⟩ : ∃ m', m' = m ++ xs.take k := ⟨_, rfl⟩
      have hyl : ys.length = xs.length - k := by rw [hys]; simp
      have hml : m'.length = m.length + k := by rw [hm']; simp; omega
      have hy8 : ∀ x ∈ ys, x < 256 := fun x hx => h8 x (List.mem_of_mem_drop (by rw [← hys]; exact hx))
      rw [← hys] at hcap hcells
      rw [← hm'] at hs
      rw [← hys]
      rcases hcells with h0 | ⟨g, off, rfl, hgb, hcells⟩
      · simp [h0] at hyl; omega
      obtain ⟨p, hp⟩ : ∃ p, p = m'.length % 64 := ⟨_, rfl⟩
      obtain ⟨n, hn⟩ : ∃ n, n = min ys.length (64 - p) := ⟨_, rfl⟩
      have hp64 : p < 64 := by omega
      have hn0 : 0 < n := by omega
      have hn1 : n ≤ ys.length := by omega
      have hn2 : n ≤ 64 - p := by omega
      have HSL := Lib.hid (fun wx => slice_from b p hp64 wx)
      have HCL := Lib.hid (cell_len hs)
      have hm64 : ((m'.length : Nat) : Int) % 64 = (p : Int) := by omega
      have HR := Lib.hid hs
      have HC := Lib.hid hcells
      have HN := Lib.hid (show n = min ys.length (64 - p) from hn)
      have HP := Lib.hid hp
      have HY := Lib.hid hys
      have HM := Lib.hid hm'
      have HG := Lib.hid hg
      have HL := Lib.hid hyl
      have HML := Lib.hid hml
      have hbL : (m'.length : Int) < 1000000000 := by omega
      have hbY : (ys.length : Int) < 1000000000 := by omega
      have hbY0 : (0 : Int) < (ys.length : Int) := by omega
      have H8 := Lib.hid hy8
      clear hs hcells hn hp hys hm' hg hyl hml hy8 hm h8
      generalize hLL : m'.length = L at *
      generalize hYY : ys.length = Y at *
      have HLL := Lib.hid hLL
      have HYY := Lib.hid hYY
      have hq : 0 < Y := by omega
      have HM64 := Lib.hid hm64
      have HBY := Lib.hid hbY
      have HBL := Lib.hid hbL
      have HGB := Lib.hid hgb
      have HCAP := Lib.hid hcap
      have HK := Lib.hid (show k < xs.length from hlt)
      clear hLL hYY hlt hk hgb hbY0 hm64 hbY hbL hcap
      go_wp2_with fail
      have hcl := HCL.out
      have hsl := HSL.out
      have hm64 : ((L : Int)).tmod 64 = (p : Int) := by rw [Int.tmod_eq_emod_of_nonneg (by omega)]; exact HM64.out
      go_still_tail 10, (by kernel_rfl)
      change wpList _ _ _ _ _ wr.drew
      clear hcl hsl hm64
      refine copy_law rfl (.tmp 16) (.tmp 17) rfl rfl (by rw [HYY.out]; rfl) (n := n) (ys := ys) (m := m') (blk := blk) (p := p) ⟨HR.out.row, HR.out.inv⟩ (by rw [HLL.out]; exact HP.out) (by rw [HYY.out]; exact HN.out) (by rw [HYY.out]; exact HC.out) ?_
      intro w1 hr1 hg1
      have hb := laid_length HR.out.inv (l := ys.take n) (by rw [List.length_take, HLL.out, HYY.out, ← HP.out]; omega)
      have c72 : w1.cell? ⟨b, 72, none⟩ = some (.int .u64 (L : Int)) := by
        rw [cell_of_row w1 b 72 _ _ _ hr1, ← HLL.out]; simp [sumCells, u32s, u8s, St.list, hb]
      have f72 : w1.frozen? ⟨b, 72, none⟩ = false := frozen_of_row w1 b 72 _ _ hr1
      have hsl := run_rest g off n Y cap hn1 w1
      have R1 := Lib.hid hr1
      have G1 := Lib.hid (gtrans (gdrewN wr 1 (some b)) hg1)
      have HB := Lib.hid hb
      have hLb : (L : Int) + (n : Int) < 18446744073709551616 := by have := HBL.out; omega
      clear hr1 hg1 hb
      go_upto_region 4 with (fail)
      have hr2 : (w1.setCell ⟨b, 72, none⟩ (.int .u64 ((L : Int) + (n : Int)))).heap[b]? = some (.cells (sumCells (stOf m').list (laid m' blk (ys.take n)) (L + n)).toArray 97 (0, 0)) := by
        rw [heap_setCell_same w1 b 72 _ _ _ R1.out, show (L : Int) + (n : Int) = ((L + n : Nat) : Int) by simp, sum_len (by rfl) HB.out]
      have hg2 := gtrans G1.out (gsetCell w1 b 72 (.int .u64 ((L : Int) + (n : Int))))
      clear R1 G1 c72 f72 hsl
      generalize w1.setCell ⟨b, 72, none⟩ (.int .u64 ((L : Int) + (n : Int))) = w2 at hr2 hg2
      have hnl : (ys.take n).length = n := by rw [List.length_take, HYY.out]; omega
      have hm2 : (m' ++ ys.take n).length = L + n := by rw [List.length_append, HLL.out, hnl]
      have ht8 : ∀ x ∈ ys.take n, x < 256 := fun x hx => H8.out x (List.mem_of_mem_take hx)
      have hpn : m'.length % 64 + (ys.take n).length = p + n := by rw [HLL.out, hnl, ← HP.out]
      have hrel : ∀ w3, SumAt w3 b (m' ++ ys.take n) → w2.grownBy w3 (some b) →
          ∃ k2, k2 ≤ xs.length ∧ SumAt w3 b (m ++ xs.take k2) ∧ BytesAt w3 b (rest g off n Y cap) (xs.drop k2) ∧ w.grownBy w3 (some b) := by
        intro w3 h3 g3
        refine ⟨k + n, by have := HL.out; omega, ?_, ?_, gtrans HG.out (gtrans hg2 g3)⟩
        · rw [show m ++ xs.take (k + n) = m' ++ ys.take n by rw [HM.out, HY.out, List.append_assoc, List.take_add]]; exact h3
        · rw [← List.drop_drop, ← HY.out]
          have := bytes_rest (w := wr) (b := b) (g := g) (off := off) (n := n) (cap := cap) (ys := ys) HGB.out (by rw [HYY.out]; exact HCAP.out) (by rw [HYY.out]; exact hn1) (by rw [HYY.out]; exact HC.out)
          rw [HYY.out] at this
          exact bytes_grown this (gtrans hg2 g3)
      have HREL := Lib.hid hrel
      have R2 := Lib.hid hr2
      have c72 : w2.cell? ⟨b, 72, none⟩ = some (.int .u64 ((L : Int) + (n : Int))) := by
        rw [cell_of_row w2 b 72 _ _ _ hr2]; simp [sumCells, u32s, u8s, St.list, HB.out]
      by_cases hfull : p + n = 64
      · have hbit : (((L : Int) + (n : Int)) % 64 == 0) = true := by have := HP.out; simp; omega
        have HF := Lib.hid (step_full HR.out.inv ht8 (by rw [hpn]; exact hfull))
        have HM2 := Lib.hid hm2
        clear hrel hr2 hg2 hnl hm2 ht8 hpn hfull
        go_upto_region 5 with (fail)
        have hlb := HB.out
        have hl8 := laid_small HR.out.inv (l := ys.take n) (fun x hx => H8.out x (List.mem_of_mem_take hx))
        generalize laid m' blk (ys.take n) = lb at R2 HF hlb hl8 HB
        have hok := stOf_ok m'
        generalize stOf m' = st at R2 HF hok
        obtain ⟨s1, s2, s3, s4, s5, s6, s7, s8⟩ := st
        have hu := Tryd.underlying70
        have hi : (Tryd.prog.info? 70).map (·.size) = some (u8s lb).length := by rw [u8s_length, hlb]; kernel_rfl
        have hcl : (u8s lb).length = 64 := by rw [u8s_length, hlb]
        have h1c := u8s_one lb
        have q0 : w2.cell? ⟨b, 0, none⟩ = some (.int .u32 (s1 : Int)) := cell_of_row w2 b 0 _ _ _ R2.out
        have q1 : w2.cell? ⟨b, 1, none⟩ = some (.int .u32 (s2 : Int)) := cell_of_row w2 b 1 _ _ _ R2.out
        have q2 : w2.cell? ⟨b, 2, none⟩ = some (.int .u32 (s3 : Int)) := cell_of_row w2 b 2 _ _ _ R2.out
        have q3 : w2.cell? ⟨b, 3, none⟩ = some (.int .u32 (s4 : Int)) := cell_of_row w2 b 3 _ _ _ R2.out
        have q4 : w2.cell? ⟨b, 4, none⟩ = some (.int .u32 (s5 : Int)) := cell_of_row w2 b 4 _ _ _ R2.out
        have q5 : w2.cell? ⟨b, 5, none⟩ = some (.int .u32 (s6 : Int)) := cell_of_row w2 b 5 _ _ _ R2.out
        have q6 : w2.cell? ⟨b, 6, none⟩ = some (.int .u32 (s7 : Int)) := cell_of_row w2 b 6 _ _ _ R2.out
        have q7 : w2.cell? ⟨b, 7, none⟩ = some (.int .u32 (s8 : Int)) := cell_of_row w2 b 7 _ _ _ R2.out
        have f0 : w2.frozen? ⟨b, 0, none⟩ = false := frozen_of_row w2 b 0 _ _ R2.out
        have f1 : w2.frozen? ⟨b, 1, none⟩ = false := frozen_of_row w2 b 1 _ _ R2.out
        have f2 : w2.frozen? ⟨b, 2, none⟩ = false := frozen_of_row w2 b 2 _ _ R2.out
        have f3 : w2.frozen? ⟨b, 3, none⟩ = false := frozen_of_row w2 b 3 _ _ R2.out
        have f4 : w2.frozen? ⟨b, 4, none⟩ = false := frozen_of_row w2 b 4 _ _ R2.out
        have f5 : w2.frozen? ⟨b, 5, none⟩ = false := frozen_of_row w2 b 5 _ _ R2.out
        have f6 : w2.frozen? ⟨b, 6, none⟩ = false := frozen_of_row w2 b 6 _ _ R2.out
        have f7 : w2.frozen? ⟨b, 7, none⟩ = false := frozen_of_row w2 b 7 _ _ R2.out
        have hrg : w2.rangeAt b 8 (u8s lb) := by
          intro j v hj
          have hjl : j < 64 := by
            rcases Nat.lt_or_ge j 64 with h' | h'
            · exact h'
            · rw [List.getElem?_eq_none (by omega)] at hj; cases hj
          rw [cell_of_row w2 b (8 + j) _ _ _ R2.out]
          have e1 : (u32s (St.list ⟨s1, s2, s3, s4, s5, s6, s7, s8⟩)).length = 8 := rfl
          rw [List.getElem?_toArray, sumCells, List.getElem?_append_right (by omega), e1, Nat.add_sub_cancel_left, List.getElem?_append_left (by omega)]
          exact hj
        have hbl : b < w2.drew.heap.size := lt_of_heap R2.out
        have hok1 : OkRow w2.drew b 8 64 := okRow_of (w := w2.drew) hrg hcl
        have hrow1 : rowAt w2.drew b 8 64 = u8s lb := rowAt_eq (w := w2.drew) hrg hcl
        clear hrg h1c hu hi hcl hlb
        go_region_with (first | (go_at_call 49; refine (spread_any lb _ HB.out hl8).mono ?_; rintro e w' ⟨rfl, hb3⟩; obtain ⟨hc3, hf3, hl3⟩ := bk hb3 (by assumption)) | (go_at_call 48; refine (mixed8 s1 s2 s3 s4 s5 s6 s7 s8 (words lb) _ hok (words_length lb) (words_lt hl8)).mono ?_; rintro e w' ⟨⟨r1, r2, r3, r4, r5, r6, r7, r8, hmx, rfl⟩, hb4⟩; have HMX := Lib.hid hmx; clear hmx; obtain ⟨hc4, hf4, hl4⟩ := bk hb4 (by assumption)))
        all_goals
          have hr4 := (hb4.block b hl3).trans ((hb3.block b hbl).trans R2.out)
          have HS := Lib.hid (sum_stored (by rfl) hr4 r1 r2 r3 r4 r5 r6 r7 r8)
          have HGR := Lib.hid (gtrans (gdrewN w2 1 (some b)) (gtrans (gbelow hb3 (some b)) (gtrans (gbelow hb4 (some b)) (grown_stored _ b r1 r2 r3 r4 r5 r6 r7 r8))))
          clear hr4 hb3 hc3 hf3 hl3 hb4 hc4 hf4 hl4 q0 q1 q2 q3 q4 q5 q6 q7 f0 f1 f2 f3 f4 f5 f6 f7 hbl hok1 hrow1 hbit
          go_roundw
          case rel =>
            repeat apply Exists.intro
            refine ⟨HREL.out _ ⟨lb, ?_, HF.out.2⟩ HGR.out, rfl⟩
            rw [HF.out.1, HM2.out, HMX.out]
            exact HS.out
          case measure => simp [sliceLen, rest]; omega
      · have hbit : (((L : Int) + (n : Int)) % 64 == 0) = false := by have := HP.out; simp; omega
        have HF := Lib.hid (step_part HR.out.inv ht8 (by rw [hpn]; omega))
        have HM2 := Lib.hid hm2
        clear hrel hr2 hg2 hnl hm2 ht8 hpn hfull
        go_wp2_with fail
        go_roundw
        case rel =>
          refine HREL.out _ ⟨_, ?_, HF.out.2⟩ (grefl _ _)
          rw [HF.out.1, HM2.out]
          exact R2.out
        case measure => simp [sliceLen, rest]; omega
    · have e : xs.take k = xs := List.take_of_length_le (by omega)
      rw [e] at hs
      have HR := Lib.hid hs
      have HG := Lib.hid hg
      clear hs hg hcells e
      go_wp2_with fail
      go_end0
      exact ⟨rfl, ⟨blk, HR.out⟩, HG.out⟩
end Sha
end Go.Proofs.YtdiidfkmmgcjmaaDoor
