/- Mem, Bytes, SixSpec, SixWord, Keep, Own, Append, CutB, Cells, Lit, Blk, EqD, Same, Flip, OrdWf in one text (by tools/bundle.py). -/
import Derived.WalkKit
import Derived.Deep.MidRow
import Derived.Deep.Quiet
import Derived.Below
import Derived.OpenShut
import Derived.Test.YtoiidedigbfnaaaDoorProg
import Derived.LaidEql
import Derived.RowKitTokens
import Derived.Lib.Hide
import Derived.Deep.QuietTactic
import Derived.BigQuiet
import Derived.IntWalk
import Derived.Laws.OwnMore
import Derived.OwnWalk
import Derived.Laws.AppendOwnNone
import Derived.Laws.ResultCell
import Derived.Laws.Rows
/- Small laws on memory and rows of numbers; no program is named here. -/
namespace Go.Proofs.YtoiidedigbfnaaaDoor
open Go.RowKit
namespace Sha
/-- The cells of a row of numbers. -/
def u8s (l : List Nat) : List Value := l.map fun (x : Nat) => .int .u8 (x : Int)
def u32s (l : List Nat) : List Value := l.map fun (x : Nat) => .int .u32 (x : Int)
def pad (n : Nat) (l : List Nat) : List Nat := l ++ List.replicate (n - l.length) 0
theorem u8s_at {l : List Nat} {i : Nat} (h : i < l.length) : (u8s l).toArray[i]? = some (.int .u8 ((l.getD i 0 : Nat) : Int)) := by
  simp [u8s, h]
theorem u32s_at {l : List Nat} {i : Nat} (h : i < l.length) : (u32s l).toArray[i]? = some (.int .u32 ((l.getD i 0 : Nat) : Int)) := by
  simp [u32s, h]
theorem pad_length {n : Nat} {l : List Nat} (h : l.length ≤ n) : (pad n l).length = n := by simp [pad]; omega
theorem pad_getD {n : Nat} {l : List Nat} {i : Nat} (h : i < l.length) : (pad n l).getD i 0 = l.getD i 0 := by
  simp [pad, List.getD_eq_getElem?_getD, List.getElem?_append_left h]
theorem pad_snoc {n : Nat} {l : List Nat} (v : Nat) (h : l.length < n) : (pad n l).set l.length v = pad n (l ++ [v]) := by
  unfold pad
  rw [List.set_append_right _ _ (Nat.le_refl _), Nat.sub_self]
  have e : n - l.length = (n - (l ++ [v]).length) + 1 := by simp; omega
  rw [e, List.replicate_succ, List.set_cons_zero]; simp
theorem pad_full {n : Nat} {l : List Nat} (h : l.length = n) : pad n l = l := by simp [pad, h]
theorem u32s_set (l : List Nat) (i v : Nat) : (u32s l).toArray.setIfInBounds i (.int .u32 (v : Int)) = (u32s (l.set i v)).toArray := by
  simp [u32s, List.map_set]
theorem u8s_set (l : List Nat) (i v : Nat) : (u8s l).toArray.setIfInBounds i (.int .u8 (v : Int)) = (u8s (l.set i v)).toArray := by
  simp [u8s, List.map_set]
theorem zeros32 (n : Nat) : (u32s (pad n [])).toArray = Array.replicate n (.int .u32 0) := by
  simp [u32s, pad]
theorem zeros8 (n : Nat) : (u8s (pad n [])).toArray = Array.replicate n (.int .u8 0) := by
  simp [u8s, pad]
theorem keep_cell {w : World} {B i j : Nat} {u v : Value} (h : j ≠ i) (hc : w.cell? ⟨B, j, none⟩ = some u) : (w.setCell ⟨B, i, none⟩ v).cell? ⟨B, j, none⟩ = some u := by
  have e : (⟨B, i, none⟩ : Addr) ≠ ⟨B, j, none⟩ := by intro e; injection e with _ e; exact h e.symm
  rw [World.cell?_setCell_other (h := e)]
  exact hc
theorem heap_setCell_same' (w : World) (b i : Nat) (C : Array Value) (t : TypeId) (fr : Nat × Nat) (v : Value) (h : w.heap[b]? = some (.cells C t fr)) :
    (w.setCell ⟨b, i, none⟩ v).heap[b]? = some (.cells (C.setIfInBounds i v) t fr) := by
  simp [World.setCell, Array.getElem?_modify, h]
/-- A row that is written into a block that is known whole. -/
theorem heap_setCells (b : Nat) (t : TypeId) (fr : Nat × Nat) : ∀ (vs : List Value) (o : Nat) (w : World) (C : List Value), w.heap[b]? = some (.cells C.toArray t fr) → o + vs.length ≤ C.length →
    (w.setCells b o vs).heap[b]? = some (.cells (C.take o ++ vs ++ C.drop (o + vs.length)).toArray t fr)
  | [], o, w, C, h, _ => by simpa [World.setCells] using h
  | v :: r, o, w, C, h, hl => by
    simp only [List.length_cons] at hl
    have h1 : (w.setCell ⟨b, o, none⟩ v).heap[b]? = some (.cells (C.set o v).toArray t fr) := by
      rw [heap_setCell_same' w b o _ t fr v h]; simp
    have h2 := heap_setCells b t fr r (o + 1) (w.setCell ⟨b, o, none⟩ v) (C.set o v) h1 (by simp; omega)
    rw [World.setCells, h2]
    congr 3
    have e1 : (C.set o v).take (o + 1) = C.take o ++ [v] := by
      rw [List.take_succ_eq_append_getElem (by simp; omega), List.take_set_of_le (Nat.le_refl _)]; simp
    have e2 : (C.set o v).drop (o + 1 + r.length) = C.drop (o + (r.length + 1)) := by
      rw [List.drop_set_of_lt (by omega)]; congr 1; omega
    rw [e1, e2]; simp
theorem there_of_block {w : World} {b : Nat} {C : Array Value} {t : TypeId} (h : w.heap[b]? = some (.cells C t (0, 0))) (o n : Nat) (hl : o + n ≤ C.size) : w.there b o n := fun j hj => by
  refine ⟨?_, frozen_of_row w b (o + j) C t h⟩
  rw [cell_of_row w b (o + j) C t (0, 0) h]
  simp; omega
theorem u8s_cells (l : List Nat) : (u8s l).toArray.all (·.oneCell') = true := all_oneCell_toArray (by intro v hv; simp [u8s] at hv; obtain ⟨x, _, rfl⟩ := hv; rfl)
theorem u32s_cells (l : List Nat) : (u32s l).toArray.all (·.oneCell') = true := all_oneCell_toArray (by intro v hv; simp [u32s] at hv; obtain ⟨x, _, rfl⟩ := hv; rfl)
theorem u8s_one (l : List Nat) : ∀ v ∈ u8s l, v.oneCell' = true := by intro v hv; simp [u8s] at hv; obtain ⟨x, _, rfl⟩ := hv; rfl
theorem u32s_one (l : List Nat) : ∀ v ∈ u32s l, v.oneCell' = true := by intro v hv; simp [u32s] at hv; obtain ⟨x, _, rfl⟩ := hv; rfl
theorem u8s_length (l : List Nat) : (u8s l).length = l.length := by simp [u8s]
theorem u32s_length (l : List Nat) : (u32s l).length = l.length := by simp [u32s]
theorem below_setCells {B : Nat} {w0 : World} (b : Nat) (hB : B ≤ b) : ∀ (vs : List Value) (o : Nat) (w : World), Below B w0 w → Below B w0 (w.setCells b o vs)
  | [], _, _, h => h
  | v :: r, o, _, h => below_setCells b hB r (o + 1) _ (h.setCell hB v)
theorem gtrans {w w1 w2 : World} {r : Option Nat} (h : w.grownBy w1 r) (k : w1.grownBy w2 r) : w.grownBy w2 r :=
  ⟨k.os.trans h.os, k.tape.trans h.tape, k.output.trans h.output, Nat.le_trans h.size k.size, fun i hi hr => (k.block i (Nat.lt_of_lt_of_le hi h.size) hr).trans (h.block i hi hr)⟩
theorem grefl (w : World) (r : Option Nat) : w.grownBy w r := ⟨rfl, rfl, rfl, Nat.le_refl _, fun _ _ _ => rfl⟩
theorem gdrewN (w : World) (n : Nat) (r : Option Nat) : w.grownBy (w.drewN n) r := ⟨rfl, rfl, rfl, Nat.le_refl _, fun _ _ _ => rfl⟩
theorem gbelow {w w1 : World} (h : Below w.heap.size w w1) (r : Option Nat) : w.grownBy w1 r := ⟨h.os, h.tape, h.output, h.size, fun k hk _ => h.block k hk⟩
theorem belowg {w w1 : World} (h : w.grownBy w1 none) : Below w.heap.size w w1 := ⟨h.os, h.tape, h.output, h.size, fun k hk => h.block k hk (by simp)⟩
theorem gsetCell (w : World) (b i : Nat) (v : Value) : w.grownBy (w.setCell ⟨b, i, none⟩ v) (some b) :=
  ⟨rfl, rfl, rfl, by simp [World.setCell], fun k _ hr => heap_setCell_other w ⟨b, i, none⟩ k v (by intro e; exact hr (by rw [e]))⟩
theorem gsetRow (w : World) (b : Nat) (cs : Array Value) : w.grownBy (w.setRow b cs) (some b) :=
  ⟨rfl, rfl, rfl, by simp [World.setRow], fun k _ hr => setRow_other w b k cs (by intro e; exact hr (by rw [e]))⟩
theorem gsetCells (b : Nat) : ∀ (vs : List Value) (o : Nat) (w : World), w.grownBy (w.setCells b o vs) (some b)
  | [], _, _ => grefl _ _
  | v :: r, o, w => gtrans (gsetCell w b o v) (gsetCells b r (o + 1) _)
theorem heap_alloc3 (w : World) (A B C : Obj) : (((w.alloc A).alloc B).alloc C).heap[w.heap.size]? = some A ∧ (((w.alloc A).alloc B).alloc C).heap[w.heap.size + 1]? = some B ∧ (((w.alloc A).alloc B).alloc C).heap[w.heap.size + 2]? = some C := by
  have s1 : (w.alloc A).heap.size = w.heap.size + 1 := by show (w.heap.push A).size = _; simp
  have s2 : ((w.alloc A).alloc B).heap.size = w.heap.size + 2 := by show ((w.alloc A).heap.push B).size = _; simp [s1]
  refine ⟨?_, ?_, ?_⟩
  · rw [heap_alloc_old _ _ (by omega)]; exact heap_alloc2_old w A B
  · rw [heap_alloc_old _ _ (by omega)]; exact heap_alloc2_new w A B
  · have := heap_alloc_new ((w.alloc A).alloc B) C
    rwa [s2] at this
/-- The cells of a row, as the world has them. -/
def rowAt (w : World) (b o n : Nat) : List Value := (List.range n).map fun j => (w.cell? ⟨b, o + j, none⟩).getD undef
def OkRow (w : World) (b o n : Nat) : Prop := ∀ j, j < n → (w.cell? ⟨b, o + j, none⟩).isSome = true
theorem rowAt_range {w : World} {b o n : Nat} (h : OkRow w b o n) : w.rangeAt b o (rowAt w b o n) := by
  intro j v hj
  have hjn : j < n := by
    rcases Nat.lt_or_ge j n with h' | h'
    · exact h'
    · rw [List.getElem?_eq_none (by simp [rowAt]; omega)] at hj; cases hj
  have := h j hjn
  obtain ⟨u, hu⟩ := Option.isSome_iff_exists.1 this
  simp [rowAt, hjn, hu] at hj
  rw [hu, hj]
theorem rowAt_length (w : World) (b o n : Nat) : (rowAt w b o n).length = n := by simp [rowAt]
theorem rowAt_eq {w : World} {b o n : Nat} {cs : List Value} (h : w.rangeAt b o cs) (hl : cs.length = n) : rowAt w b o n = cs := by
  apply List.ext_getElem?
  intro j
  by_cases hj : j < n
  · have hc := h j cs[j] (List.getElem?_eq_getElem (by omega))
    simp [rowAt, hj, hc, List.getElem?_eq_getElem (show j < cs.length by omega)]
  · rw [List.getElem?_eq_none (by rw [rowAt_length]; omega), List.getElem?_eq_none (by omega)]
theorem okRow_of {w : World} {b o n : Nat} {cs : List Value} (h : w.rangeAt b o cs) (hl : cs.length = n) : OkRow w b o n := fun j hj => by
  rw [h j cs[j] (List.getElem?_eq_getElem (by omega))]; rfl
end Sha
end Go.Proofs.YtoiidedigbfnaaaDoor
/- Slices of bytes in memory; no program is named here. -/
namespace Go.Proofs.YtoiidedigbfnaaaDoor
open Go.RowKit
namespace Sha
/-- v is a slice of the bytes xs. -/
def BytesIn (w : World) (v : Value) (xs : List Nat) : Prop :=
  ∃ ad cap, v = .slice ad xs.length cap ∧ xs.length ≤ cap ∧ (xs = [] ∨ ∃ g off, ad = some ⟨g, off, none⟩ ∧ ∀ j, j < xs.length → w.cell? ⟨g, off + j, none⟩ = some (.int .u8 ((xs.getD j 0 : Nat) : Int)))
theorem bytes_below {w w1 : World} {v : Value} {xs : List Nat} (h : BytesIn w v xs) (hb : Below w.heap.size w w1) : BytesIn w1 v xs := by
  obtain ⟨ad, cap, rfl, hcap, hc⟩ := h
  refine ⟨ad, cap, rfl, hcap, ?_⟩
  rcases hc with h0 | ⟨g, off, rfl, hc⟩
  · exact .inl h0
  · exact .inr ⟨g, off, rfl, fun j hj => (hb.cell (p := ⟨g, off + j, none⟩) (block_lt_of_cell (hc j hj))).trans (hc j hj)⟩
/-- A slice of integers that came in. -/
def IsRow (k : IntKind) (w : World) (a : Option Addr) (len cap : Nat) (zs : List Int) : Prop :=
  (a = none ∧ len = 0 ∧ cap = 0 ∧ zs = []) ∨
  ∃ x, a = some x ∧ len ≤ cap ∧ cap ≤ maxLen ∧ zs.length = cap ∧ (∀ i, i < zs.length → w.cell? (x.add i) = some (.int k (zs.getD i 0))) ∧ ∀ n ∈ zs, (Lit.int k n).wf = true
theorem isRow_le {k : IntKind} {w : World} {a : Option Addr} {len cap : Nat} {zs : List Int} (h : IsRow k w a len cap zs) : len ≤ maxLen := by
  rcases h with ⟨_, rfl, _, _⟩ | ⟨x, _, h1, h2, _⟩
  · exact Nat.zero_le _
  · omega
theorem spot_of_cell {w : World} {a : Addr} {v : Value} (h : w.cell? a = some v) : a = ⟨a.block, a.off, none⟩ := by
  obtain ⟨b, o, s⟩ := a
  cases s with
  | none => rfl
  | some s => simp [World.cell?] at h; split at h <;> simp at h
theorem isRow_bytes {w : World} {a : Option Addr} {len cap : Nat} {zs : List Int} (h : IsRow .u8 w a len cap zs) :
    ∃ xs : List Nat, xs.length = len ∧ (∀ x ∈ xs, x < 256) ∧ BytesIn w (.slice a len cap) xs := by
  rcases h with ⟨rfl, rfl, rfl, rfl⟩ | ⟨x, rfl, hlc, hcm, hz, hc, hw⟩
  · exact ⟨[], rfl, by simp, none, 0, rfl, Nat.le_refl _, .inl rfl⟩
  · have hwb : ∀ n ∈ zs, 0 ≤ n ∧ n < 256 := fun n hn => by
      have := bounds_u8 (hw n hn); omega
    refine ⟨(zs.take len).map Int.toNat, by simp; omega, ?_, some x, cap, by simp; omega, by simp; omega, ?_⟩
    · intro y hy
      simp only [List.mem_map] at hy
      obtain ⟨n, hn, rfl⟩ := hy
      have := hwb n (List.mem_of_mem_take hn); omega
    · by_cases h0 : len = 0
      · exact .inl (by simp [h0])
      · have hx : x = ⟨x.block, x.off, none⟩ := by
          have := hc 0 (by omega)
          rw [show x.add 0 = x from rfl] at this
          exact spot_of_cell this
        refine .inr ⟨x.block, x.off, by rw [← hx], fun j hj => ?_⟩
        simp only [List.length_map, List.length_take] at hj
        have h1 := hc j (by omega)
        rw [hx, Addr.add_mid] at h1
        rw [h1]
        have hj2 : j < zs.length := by omega
        have hb := hwb zs[j] (List.getElem_mem hj2)
        have hjl : j < len := by omega
        simp [List.getD_eq_getElem?_getD, hj2, hjl]
        omega

theorem isRow_nil {k : IntKind} {w : World} {a : Option Addr} {len cap : Nat} {zs : List Int} (h : IsRow k w a len cap zs) : a = none → len = 0 ∧ cap = 0 := by
  rcases h with ⟨_, h1, h2, _⟩ | ⟨x, h1, _⟩
  · exact fun _ => ⟨h1, h2⟩
  · intro h; rw [h] at h1; cases h1
theorem byte_lt {l : List Nat} {N : Nat} (h : ∀ x ∈ l, x < N) (h0 : 0 < N) (i : Nat) : l.getD i 0 < N := by
  rcases Nat.lt_or_ge i l.length with hi | hi
  · rw [List.getD_eq_getElem?_getD, List.getElem?_eq_getElem hi]; exact h _ (List.getElem_mem hi)
  · rw [List.getD_eq_getElem?_getD, List.getElem?_eq_none hi]; exact h0
end Sha
end Go.Proofs.YtoiidedigbfnaaaDoor
/- Plain: the graphic bytes of the numbers 0 to 63. -/
namespace Go.Proofs.YtoiidedigbfnaaaDoor
namespace Six
def graphic : List Nat := [0x40, 0xc1, 0xc2, 0xc3, 0xc4, 0xc5, 0xc6, 0xc7, 0xc8, 0xc9, 0x4a, 0x4b, 0x4c, 0x4d, 0x4e, 0x4f, 0x50, 0xd1, 0xd2, 0xd3, 0xd4, 0xd5, 0xd6, 0xd7, 0xd8, 0xd9, 0x5a, 0x5b, 0x5c, 0x5d, 0x5e, 0x5f, 0x60, 0x61, 0xe2, 0xe3, 0xe4, 0xe5, 0xe6, 0xe7, 0xe8, 0xe9, 0x6a, 0x6b, 0x6c, 0x6d, 0x6e, 0x6f, 0xf0, 0xf1, 0xf2, 0xf3, 0xf4, 0xf5, 0xf6, 0xf7, 0xf8, 0xf9, 0x7a, 0x7b, 0x7c, 0x7d, 0x7e, 0x7f]
/-- A number's graphic byte. -/
def put (n : Nat) : Nat := graphic.getD n 0
/-- A digit's sign. -/
def sign (d : Nat) : Nat := if d < 10 then d + 48 else d + 87
/-- What a digit stands for. -/
def value (c : Nat) : Nat := if 97 ≤ c then c - 87 else c - 48
/-- The digits of all graphic bytes, one behind the other. -/
def digits (i : Nat) : Nat := sign (if i % 2 = 0 then put (i / 2) / 16 else put (i / 2) % 16)
/-- A byte is graphic. -/
def isGraphic (b : Nat) : Bool := put (b % 64) == b

theorem put_lt : ∀ n, n < 64 → put n < 256 := by decide
theorem put_low : ∀ n, n < 64 → put n % 64 = n := by decide
theorem put_digits : ∀ n, n < 64 → 16 * value (digits (2 * n)) + value (digits (2 * n + 1)) = put n := by decide
theorem digits_hex : ∀ i, i < 128 → (48 ≤ digits i ∧ digits i ≤ 57) ∨ (97 ≤ digits i ∧ digits i ≤ 102) := by decide
theorem value_lt : ∀ i, i < 128 → value (digits i) < 16 := by decide
theorem put_inj (m n : Nat) (hm : m < 64) (hn : n < 64) (h : put m = put n) : m = n := by
  rw [← put_low m hm, ← put_low n hn, h]
theorem put_or : ∀ n, n < 64 → (value (digits (2 * n)) * 16) ||| value (digits (2 * n + 1)) = put n := by decide
theorem graphic_put (n : Nat) (h : n < 64) : isGraphic (put n) = true := by
  unfold isGraphic; rw [put_low n h]; simp
theorem put_of_graphic {b : Nat} (h : isGraphic b = true) : put (b % 64) = b := by
  unfold isGraphic at h; simpa using h
theorem not_graphic {b : Nat} (h : isGraphic b = false) (n : Nat) (hn : n < 64) : put n ≠ b := by
  intro e
  subst e
  rw [graphic_put n hn] at h; cases h
end Six
end Go.Proofs.YtoiidedigbfnaaaDoor
/- Words that serve all that draws: quiet calls, drawn worlds, answers. (Split off SixLeaf: no code of package six.) -/
namespace Go.Proofs.YtoiidedigbfnaaaDoor
open Go.RowKit
namespace Six
theorem quiet_same {P : Program} {f : FuncId} {args : Array Value} {w : World} {n : Nat} {v : Value}
    (h : Calls P f args (w.drewN n) fun e w' => e = .returned v ∧ w.drewN n = w') : Calls P f args (w.drewN n) fun e w'' => e = .returned v ∧ ∃ m, w'' = w.drewN m :=
  h.mono fun _ _ ⟨he, hm⟩ => ⟨he, n, hm.symm⟩
theorem below_drewN (B m : Nat) (w : World) : Below B w (w.drewN m) := by
  induction m with
  | zero => exact Below.refl _ _
  | succ m ih => exact ih.drew
theorem ret_i64 {a b : Int} (h : a = b) : Ending.returned (.int .i64 a) = .returned (.int .i64 b) := by rw [h]
theorem ret_put {a b : Int} (h : a = b) : Ending.returned (.tuple #[.int .u8 a, .nilIface]) = .returned (.tuple #[.int .u8 b, .nilIface]) := by rw [h]
theorem ofInt_8 (a : Nat) (ha : a < 256) : (BitVec.ofInt 8 (a : Int)).toNat = a := by
  rw [BitVec.ofInt_natCast, BitVec.toNat_ofNat]; exact Nat.mod_eq_of_lt (by omega)
theorem u8_or_nat (a b : Nat) (ha : a < 256) (hb : b < 256) : bits .or .u8 (a : Int) (b : Int) = ((a ||| b : Nat) : Int) := by
  have hx : a ||| b < 2 ^ 8 := Nat.or_lt_two_pow ha hb
  show IntKind.u8.wrap ((BitVec.ofInt 8 (a : Int) ||| BitVec.ofInt 8 (b : Int)).toNat : Int) = _
  rw [BitVec.toNat_or, ofInt_8 a ha, ofInt_8 b hb, IntWalk.u8_in]
  omega
theorem u8_and_nat (a b : Nat) (ha : a < 256) (hb : b < 256) : bits .and .u8 (a : Int) (b : Int) = ((a &&& b : Nat) : Int) := by
  have hx : a &&& b ≤ a := Nat.and_le_left
  show IntKind.u8.wrap ((BitVec.ofInt 8 (a : Int) &&& BitVec.ofInt 8 (b : Int)).toNat : Int) = _
  rw [BitVec.toNat_and, ofInt_8 a ha, ofInt_8 b hb, IntWalk.u8_in]
  omega
theorem put_bits (n : Nat) (hn : n < 64) : bits .or .u8 ((value (digits (2 * n)) : Int) * 16 % 256) (value (digits (2 * n + 1)) : Int) = (put n : Int) := by
  have h0 := value_lt (2 * n) (by omega)
  have h1 := value_lt (2 * n + 1) (by omega)
  have h2 := put_or n hn
  rw [show ((value (digits (2 * n)) : Int) * 16 % 256) = ((value (digits (2 * n)) * 16 : Nat) : Int) by omega, u8_or_nat _ _ (by omega) (by omega), h2]
theorem ret_u8 {a b : Int} (h : a = b) : Ending.returned (.int .u8 a) = .returned (.int .u8 b) := by rw [h]
end Six
namespace Att
theorem ret_bool {a b : Bool} (h : a = b) : Ending.returned (.bool a) = .returned (.bool b) := by rw [h]
end Att
end Go.Proofs.YtoiidedigbfnaaaDoor
/- Steps of a law's walk: what lay before lies behind a call (no handle: serves the plain seats too). -/
namespace Go.Proofs.YtoiidedigbfnaaaDoor
open Go.RowKit
namespace Err
theorem kept_trans {a b c : World} (h : Below a.heap.size a b) (k : Below b.heap.size b c) : Below a.heap.size a c := h.trans (k.mono h.size)
theorem kept_hid {a b c : World} (h : Hid (Below a.heap.size a b)) (k : Below b.heap.size b c) : Hid (Below a.heap.size a c) := kept_trans h k
theorem kept_draw {a b : World} (h : Hid (Below a.heap.size a b)) (m : Nat) : Hid (Below a.heap.size a (b.drewN m)) := kept_trans h (Six.below_drewN _ _ _)
theorem kept_alloc {a b : World} (h : Hid (Below a.heap.size a b)) (o : Obj) : Hid (Below a.heap.size a (b.alloc o)) := kept_trans h ((Below.refl _ _).alloc (Nat.le_refl _) _)
end Err
end Go.Proofs.YtoiidedigbfnaaaDoor
/- Rows and blocks of the call's own, whatever their elements, behind calls that make memory or change one block. -/
namespace Go.Proofs.YtoiidedigbfnaaaDoor
open Go.RowKit Sha
namespace Cut
theorem al_any (w : World) (o : Obj) : Below w.heap.size w (w.alloc o) := (Below.refl _ _).alloc (Nat.le_refl _) _
theorem own_below {w w1 : World} {base e size n : Nat} {v : Value} {xs : List Value} (h : w.ownsRow base e size v n xs) (hb : Below w.heap.size w w1) : w1.ownsRow base e size v n xs :=
  h.kept (gbelow hb none) (by cases hv : v.ownBlock <;> simp)
theorem own_ge {w : World} {base e size n : Nat} {v : Value} {xs : List Value} (h : w.ownsRow base e size v n xs) : ∀ k, v.ownBlock = some k → base ≤ k := by
  intro k hk
  rcases h.2 with ⟨rfl, _⟩ | ⟨g, cap, cur, rfl, hg, _⟩
  · simp [Value.ownBlock] at hk
  · simp [Value.ownBlock] at hk; omega
theorem own_ne {w : World} {base b e size n : Nat} {v : Value} {xs : List Value} (h : w.ownsRow base e size v n xs) (hb : b < base) : v.ownBlock ≠ some b := by
  intro hk; have := own_ge h b hk; omega
theorem own_other {w w1 : World} {base b e size n : Nat} {v : Value} {xs : List Value} (h : w.ownsRow base e size v n xs) (hg : w.grownBy w1 (some b)) (hb : b < base) : w1.ownsRow base e size v n xs :=
  h.kept hg (.inr (own_ne h hb))
theorem own_spot {w : World} {base e size n : Nat} {v : Value} {xs : List Value} (h : w.ownsRow base e size v n xs) : ∃ ad c, v = .slice ad n c ∧ (ad = none → n = 0 ∧ c = 0) ∧ ∀ a, ad = some a → a = ⟨a.block, 0, none⟩ ∧ base ≤ a.block ∧ a.block < w.heap.size := by
  rcases h.2 with ⟨rfl, h0⟩ | ⟨g, cap, cur, rfl, hg, hh, _⟩
  · exact ⟨none, 0, by rw [h0], fun _ => ⟨h0, rfl⟩, nofun⟩
  · refine ⟨_, cap, rfl, nofun, fun a ha => ?_⟩
    injection ha with ha
    subst ha
    refine ⟨rfl, hg, ?_⟩
    rcases Nat.lt_or_ge g w.heap.size with h' | h'
    · exact h'
    · simp [Array.getElem?_eq_none h'] at hh
theorem own_mono {w : World} {b base e size n : Nat} {v : Value} {xs : List Value} (h : w.ownsRow base e size v n xs) (hb : b ≤ base) : w.ownsRow b e size v n xs := by
  refine ⟨h.1, ?_⟩
  rcases h.2 with h0 | ⟨g, cap, cur, h1, h2, h3⟩
  · exact .inl h0
  · exact .inr ⟨g, cap, cur, h1, Nat.le_trans hb h2, h3⟩
theorem below_own {w a b : World} {v : Value} {e size n : Nat} {xs : List Value} (h : Below w.heap.size w a) (hg : a.grownBy b v.ownBlock) (ho : a.ownsRow w.heap.size e size v n xs) : Below w.heap.size w b :=
  h.grown hg h.size (own_ge ho)
theorem there_lt {w : World} {b : Nat} {x : Obj} (h : w.heap[b]? = some x) : b < w.heap.size := by
  rcases Nat.lt_or_ge b w.heap.size with h0 | h0
  · exact h0
  · simp [Array.getElem?_eq_none h0] at h
theorem blk {w w' : World} {B : Nat} {x : Obj} (g : w.heap[B]? = some x) (hb : Below w.heap.size w w') : w'.heap[B]? = some x := by
  have hB : B < w.heap.size := by
    rcases Nat.lt_or_ge B w.heap.size with h0 | h0
    · exact h0
    · simp [Array.getElem?_eq_none h0] at g
  exact (hb.block B hB).trans g
/-- A new block, behind another one and a call. -/
theorem blk2 {w w' : World} {x y : Obj} (hb : Below ((w.alloc x).alloc y).heap.size ((w.alloc x).alloc y) w') : w'.heap[w.heap.size]? = some x ∧ Below w.heap.size w w' :=
  ⟨blk (blk (heap_alloc_new w x) (al_any _ y)) hb, (al_any w x).trans (((al_any _ y).mono (by simp)).trans (hb.mono (by simp; omega)))⟩
theorem gnew {w a b : World} {r : Option Nat} {B : Nat} (h : w.grownBy a r) (hg : a.grownBy b (some B)) (hB : w.heap.size ≤ B) : w.grownBy b r :=
  ⟨hg.os.trans h.os, hg.tape.trans h.tape, hg.output.trans h.output, Nat.le_trans h.size hg.size, fun i hi hr => (hg.block i (Nat.lt_of_lt_of_le hi h.size) (by intro e; injection e with e; omega)).trans (h.block i hi hr)⟩
theorem galloc {w a : World} {r : Option Nat} (h : w.grownBy a r) (o : Obj) : w.grownBy (a.alloc o) r := gtrans h (gbelow (al_any a o) r)
theorem blk_g {w w' : World} {B : Nat} {x : Obj} {r : Option Nat} (g : w.heap[B]? = some x) (hg : w.grownBy w' r) (hB : some B ≠ r) : w'.heap[B]? = some x :=
  (hg.block B (there_lt g) hB).trans g
end Cut
namespace Apd
/-- The walk stops here: the goal is hidden. -/
theorem wpList_mark {ops : Array Oper} {rest : List Oper} {o : Oper} {a : Act} {Q : Exit → Act → World → Prop} {w : World} (h : Hid (wpList Tryd.prog ops Q (o :: rest) a w)) : wpList Tryd.prog ops Q (o :: rest) a w := h.out
theorem own_form {w : World} {base e size n : Nat} {v : Value} {xs : List Value} (h : w.ownsRow base e size v n xs) : ∃ ad c, v = .slice ad n c := by
  rcases h.2 with ⟨rfl, h0⟩ | ⟨g, cap, cur, rfl, _⟩
  · exact ⟨none, 0, by rw [h0]⟩
  · exact ⟨_, _, rfl⟩
end Apd
end Go.Proofs.YtoiidedigbfnaaaDoor
/- append of bytes to a slice of the call's own. -/
namespace Go.Proofs.YtoiidedigbfnaaaDoor
open Go.RowKit
namespace Apd
open Sha
theorem info8 : (Tryd.prog.info? 5).map (fun i => (i.zero, i.size, i.bytes)) = some (some (.int .u8 0), 1, 1) := by kernel_rfl
theorem append_own {ops : Array Oper} {rest : List Oper} {o : Oper} {a : Act} {Q : Exit → Act → World → Prop} {w : World} (hgd : o.guard = none) (s x : Operand)
    (ho : o.op = .call { callee := .builtin .append, args := #[s, x], argTypes := #[22, 22] }) (base : Nat) (v : Value) (n : Nat) (xs : List Value) (hs : a.eval s = v) (hown : w.ownsRow base 5 1 v n xs)
    (ao : Option Addr) (m c : Nat) (news : List Nat) (hx : a.eval x = .slice ao m c) (hl : news.length = m) (hnone : ao = none → m = 0 ∧ c = 0)
    (hnews : ∀ ad, ao = some ad → ∀ j u, (u8s news)[j]? = some u → w.cell? (ad.add j) = some u) (h63 : n + m < 100000000000) (hbase : base ≤ w.heap.size)
    (h : ∀ v' w', w'.ownsRow base 5 1 v' (n + m) (xs ++ u8s news) → w.grownBy w' v.ownBlock → (v' = .slice none 0 0 ↔ v = .slice none 0 0 ∧ m = 0) → wpList Tryd.prog ops Q rest (a.put o.dst v') w') : wpList Tryd.prog ops Q (o :: rest) a w := by
  obtain ⟨i0, hi, hz0, hz1, hz2⟩ := info_parts info8
  cases ao with
  | none =>
    obtain ⟨rfl, rfl⟩ := hnone rfl
    have hn : news = [] := List.eq_nil_of_length_eq_zero hl
    subst hn
    exact wpList_append_own_none hgd s x 22 ho base 5 i0 1 Tryd.underlying22 hi v n xs hs hown hx (h v w (by simpa [u8s] using hown) (grefl _ _) (by simp))
  | some ad =>
    exact wpList_append_own _ hgd s x 22 ho base 5 i0 (.int .u8 0) 1 1 Tryd.underlying22 hi hz0 hz1 hz2 rfl (by decide) v n xs hs hown ad m c (u8s news) hx (by rw [u8s_length, hl, Nat.mul_one]) (hnews ad rfl) (u8s_one _) (by unfold maxLen; omega) (by omega) hbase h
theorem bytes_src {w : World} {ao : Option Addr} {len cap : Nat} {xs : List Nat} (h : BytesIn w (.slice ao len cap) xs) : ∀ ad, ao = some ad → ∀ j u, (u8s xs)[j]? = some u → w.cell? (ad.add j) = some u := by
  intro ad hA j u hj
  have hjl : j < xs.length := by
    rcases Nat.lt_or_ge j xs.length with h' | h'
    · exact h'
    · rw [List.getElem?_eq_none (by rw [u8s_length]; exact h')] at hj; cases hj
  obtain ⟨ad2, cap2, hv, _, hc⟩ := h
  injection hv with h1 h2 h3
  subst h1
  rcases hc with h0 | ⟨g, off, hg, hc⟩
  · rw [h0] at hjl; simp at hjl
  · rw [hA] at hg
    injection hg with hg
    rw [hg, Addr.add_mid, hc j hjl, ← hj]
    have e := u8s_at hjl
    rw [List.getElem?_toArray] at e
    exact e.symm
end Apd
end Go.Proofs.YtoiidedigbfnaaaDoor
/- Slices of bytes that are cut: what is left of them, and what the walk's own operation says. (No hash is needed.) -/
namespace Go.Proofs.YtoiidedigbfnaaaDoor
open Go.RowKit Sha
namespace Cut
def cutA (a : Option Addr) (k cap : Nat) : Option Addr := if cap = k then a else a.map (·.add k)
theorem cutA_none {a : Option Addr} {k cap : Nat} (h : cutA a k cap = none) : a = none := by
  unfold cutA at h
  split at h
  · exact h
  · simpa using h
theorem run_l (a : Option Addr) (len cap k : Nat) (hk : k ≤ len) (w : World) :
    (Instr.slice 22 (.slice a len cap) (some (.int .i64 (k : Int))) none none).run Tryd.prog w = .ok (.slice (cutA a k cap) (len - k) (cap - k)) w := by
  have hu : Tryd.prog.underlying 22 = some (.slice (Tryd.prog.elem 22)) := by kernel_rfl
  have hs : ((sizeOf (Tryd.prog.elem 22)).run Tryd.prog w) = .ok 1 w := by kernel_rfl
  rw [run_slice_l (P := Tryd.prog) w _ _ _ _ hu _ _ (by omega) (by omega), hs]
  simp [Result.andThen, sliced, cutA]
theorem run_lh (a : Option Addr) (len cap k n : Nat) (hk : k + n ≤ cap) (w : World) :
    (Instr.slice 22 (.slice a len cap) (some (.int .i64 (k : Int))) (some (.int .i64 ((k : Int) + (n : Int)))) none).run Tryd.prog w = .ok (.slice (cutA a k cap) n (cap - k)) w := by
  have hu : Tryd.prog.underlying 22 = some (.slice (Tryd.prog.elem 22)) := by kernel_rfl
  have hs : ((sizeOf (Tryd.prog.elem 22)).run Tryd.prog w) = .ok 1 w := by kernel_rfl
  rw [run_slice_lh (P := Tryd.prog) w _ _ _ _ hu _ _ _ _ (by omega) (by omega) (by omega), hs]
  have e : ((k : Int) + (n : Int)).toNat - k = n := by omega
  simp only [Result.andThen, sliced, cutA, Int.toNat_natCast, Nat.mul_one, e]
theorem bytes_lh {w : World} {a : Option Addr} {len cap k n : Nat} {xs : List Nat} (h : BytesIn w (.slice a len cap) xs) (hk : k + n ≤ len) : BytesIn w (.slice (cutA a k cap) n (cap - k)) ((xs.drop k).take n) := by
  obtain ⟨ad, c, hv, hcap, hc⟩ := h
  injection hv with e1 e2 e3
  subst e1 e2 e3
  have hl : ((xs.drop k).take n).length = n := by rw [List.length_take, List.length_drop]; omega
  refine ⟨cutA a k cap, cap - k, by rw [hl], by omega, ?_⟩
  rcases hc with h0 | ⟨g, off, rfl, hc⟩
  · exact .inl (by rw [h0]; simp)
  · by_cases hn : n = 0
    · exact .inl (by rw [hn]; simp)
    · have hne : ¬ cap = k := by omega
      refine .inr ⟨g, off + k, by rw [cutA, if_neg hne, Option.map_some, Addr.add_mid], fun j hj => ?_⟩
      rw [hl] at hj
      rw [Nat.add_assoc, hc (k + j) (by omega)]
      simp [List.getD_eq_getElem?_getD, hj]
theorem bytes_l {w : World} {a : Option Addr} {len cap k : Nat} {xs : List Nat} (h : BytesIn w (.slice a len cap) xs) (hk : k ≤ len) : BytesIn w (.slice (cutA a k cap) (len - k) (cap - k)) (xs.drop k) := by
  have hl : xs.length = len := by
    obtain ⟨_, _, hv, _⟩ := h
    injection hv with _ e2 _
    exact e2.symm
  have := bytes_lh (k := k) (n := len - k) h (by omega)
  rwa [List.take_of_length_le (by rw [List.length_drop]; omega)] at this
/-- A row of bytes that the call has made holds them. -/
theorem own_bytes {w : World} {base n : Nat} {v : Value} {m : List Nat} (h : w.ownsRow base 5 1 v n (u8s m)) : BytesIn w v m := by
  have hl : m.length = n := by have := h.1; rwa [u8s_length, Nat.mul_one] at this
  subst hl
  rcases h.2 with ⟨rfl, h0⟩ | ⟨g, cap, cur, rfl, _, hh, hnc, _, _, htk⟩
  · exact ⟨none, 0, by rw [h0], by omega, .inl (List.eq_nil_of_length_eq_zero h0)⟩
  · refine ⟨_, cap, rfl, hnc, .inr ⟨g, 0, rfl, fun j hj => ?_⟩⟩
    rw [cell_of_row w g (0 + j) cur _ _ hh, Nat.zero_add]
    have e := u8s_at hj
    rw [List.getElem?_toArray, ← htk, List.getElem?_take, if_pos (by omega)] at e
    simpa using e
theorem own_len {w : World} {base n : Nat} {v : Value} {m : List Nat} (h : w.ownsRow base 5 1 v n (u8s m)) : m.length = n := by
  have := h.1; rwa [u8s_length, Nat.mul_one] at this
end Cut
end Go.Proofs.YtoiidedigbfnaaaDoor
/- A struct's cells in a block of the call's own; a struct and another value as results. Plain laws, whatever program. -/
namespace Go.Proofs.YtoiidedigbfnaaaDoor
open Go.RowKit
namespace Err
theorem results_cell_row_tmp {fn : Func} {p u : Tmp} {ty : TypeId} (h : fn.results = #[.cell p ty, .tmp u]) (tmps : Array Value) (P : Program) (w : World) (g : Nat) (cs : Array Value)
    (hp : tmps.getD p undef = .pointer (some ⟨g, 0, none⟩)) (hl : (loadVar ty ⟨g, 0, none⟩).run P w = .ok (.agg cs) w) (x : Value) (hx : tmps.getD u undef = x) :
    (results fn tmps).run P w = .ok (.tuple #[.agg cs, x]) w := by
  subst hx
  have hp' : tmps[p]?.getD undef = .pointer (some ⟨g, 0, none⟩) := by simpa using hp
  rw [results_cell_tmp h]
  simp [hp', asAddr, hl, Result.andThen]
theorem drewN_below (B m : Nat) (w : World) : Below B w (w.drewN m) := by
  induction m with
  | zero => exact Below.refl _ _
  | succ m ih => exact ih.drew
theorem set3 (w : World) (m : Nat) (t : TypeId) (a0 a1 a2 u0 u1 u2 : Value) :
    (((((w.alloc (.cells #[a0, a1, a2] t)).drewN m).setCell ⟨w.heap.size, 0, none⟩ u0).setCell ⟨w.heap.size, 1, none⟩ u1).setCell ⟨w.heap.size, 2, none⟩ u2).heap[w.heap.size]? = some (.cells #[u0, u1, u2] t (0, 0))
    ∧ Below w.heap.size w (((((w.alloc (.cells #[a0, a1, a2] t)).drewN m).setCell ⟨w.heap.size, 0, none⟩ u0).setCell ⟨w.heap.size, 1, none⟩ u1).setCell ⟨w.heap.size, 2, none⟩ u2) := by
  have h : ((w.alloc (.cells #[a0, a1, a2] t)).drewN m).heap[w.heap.size]? = some (.cells #[a0, a1, a2] t (0, 0)) := by
    show (w.alloc (.cells #[a0, a1, a2] t)).heap[w.heap.size]? = _
    exact heap_alloc_new w _
  have h := heap_setCell_same _ w.heap.size 0 _ t u0 h
  have h := heap_setCell_same _ w.heap.size 1 _ t u1 h
  have h := heap_setCell_same _ w.heap.size 2 _ t u2 h
  refine ⟨h, ?_⟩
  have hb : Below w.heap.size w ((w.alloc (.cells #[a0, a1, a2] t)).drewN m) := ((Below.refl _ _).alloc (Nat.le_refl _) _).trans (drewN_below _ _ _)
  have hb := hb.setCell (p := ⟨w.heap.size, 0, none⟩) (Nat.le_refl _) u0
  have hb := hb.setCell (p := ⟨w.heap.size, 1, none⟩) (Nat.le_refl _) u1
  have hb := hb.setCell (p := ⟨w.heap.size, 2, none⟩) (Nat.le_refl _) u2
  exact hb
theorem set4 (w : World) (m : Nat) (t : TypeId) (a0 a1 a2 a3 u0 u1 u2 u3 : Value) :
    ((((((w.alloc (.cells #[a0, a1, a2, a3] t)).drewN m).setCell ⟨w.heap.size, 0, none⟩ u0).setCell ⟨w.heap.size, 1, none⟩ u1).setCell ⟨w.heap.size, 2, none⟩ u2).setCell ⟨w.heap.size, 3, none⟩ u3).heap[w.heap.size]? = some (.cells #[u0, u1, u2, u3] t (0, 0))
    ∧ Below w.heap.size w ((((((w.alloc (.cells #[a0, a1, a2, a3] t)).drewN m).setCell ⟨w.heap.size, 0, none⟩ u0).setCell ⟨w.heap.size, 1, none⟩ u1).setCell ⟨w.heap.size, 2, none⟩ u2).setCell ⟨w.heap.size, 3, none⟩ u3) := by
  have h : ((w.alloc (.cells #[a0, a1, a2, a3] t)).drewN m).heap[w.heap.size]? = some (.cells #[a0, a1, a2, a3] t (0, 0)) := by
    show (w.alloc (.cells #[a0, a1, a2, a3] t)).heap[w.heap.size]? = _
    exact heap_alloc_new w _
  have h := heap_setCell_same _ w.heap.size 0 _ t u0 h
  have h := heap_setCell_same _ w.heap.size 1 _ t u1 h
  have h := heap_setCell_same _ w.heap.size 2 _ t u2 h
  have h := heap_setCell_same _ w.heap.size 3 _ t u3 h
  refine ⟨h, ?_⟩
  have hb : Below w.heap.size w ((w.alloc (.cells #[a0, a1, a2, a3] t)).drewN m) := ((Below.refl _ _).alloc (Nat.le_refl _) _).trans (drewN_below _ _ _)
  have hb := hb.setCell (p := ⟨w.heap.size, 0, none⟩) (Nat.le_refl _) u0
  have hb := hb.setCell (p := ⟨w.heap.size, 1, none⟩) (Nat.le_refl _) u1
  have hb := hb.setCell (p := ⟨w.heap.size, 2, none⟩) (Nat.le_refl _) u2
  have hb := hb.setCell (p := ⟨w.heap.size, 3, none⟩) (Nat.le_refl _) u3
  exact hb
theorem over3 (w : World) (B : Nat) (t : TypeId) (a0 a1 a2 u0 u1 u2 : Value) (h : w.heap[B]? = some (.cells #[a0, a1, a2] t (0, 0))) :
    (((w.setCell ⟨B, 0, none⟩ u0).setCell ⟨B, 1, none⟩ u1).setCell ⟨B, 2, none⟩ u2).heap[B]? = some (.cells #[u0, u1, u2] t (0, 0)) ∧ Below B w (((w.setCell ⟨B, 0, none⟩ u0).setCell ⟨B, 1, none⟩ u1).setCell ⟨B, 2, none⟩ u2) := by
  have h := heap_setCell_same _ B 0 _ t u0 h
  have h := heap_setCell_same _ B 1 _ t u1 h
  have h := heap_setCell_same _ B 2 _ t u2 h
  refine ⟨h, ?_⟩
  have hb := Below.refl B w
  have hb := hb.setCell (p := ⟨B, 0, none⟩) (Nat.le_refl _) u0
  have hb := hb.setCell (p := ⟨B, 1, none⟩) (Nat.le_refl _) u1
  have hb := hb.setCell (p := ⟨B, 2, none⟩) (Nat.le_refl _) u2
  exact hb
theorem cells3 {w : World} {B : Nat} {t : TypeId} {a0 a1 a2 : Value} (h : w.heap[B]? = some (.cells #[a0, a1, a2] t (0, 0))) :
    w.cell? ⟨B, 0, none⟩ = some a0 ∧ w.cell? ⟨B, 1, none⟩ = some a1 ∧ w.cell? ⟨B, 2, none⟩ = some a2 :=
  ⟨cell_of_row _ _ 0 _ _ _ h, cell_of_row _ _ 1 _ _ _ h, cell_of_row _ _ 2 _ _ _ h⟩
theorem free3 {w : World} {B : Nat} {t : TypeId} {cs : Array Value} (h : w.heap[B]? = some (.cells cs t (0, 0))) :
    w.frozen? ⟨B, 0, none⟩ = false ∧ w.frozen? ⟨B, 1, none⟩ = false ∧ w.frozen? ⟨B, 2, none⟩ = false :=
  ⟨frozen_of_row _ _ 0 _ _ h, frozen_of_row _ _ 1 _ _ h, frozen_of_row _ _ 2 _ _ h⟩
theorem over4 (w : World) (B : Nat) (t : TypeId) (a0 a1 a2 a3 u0 u1 u2 u3 : Value) (h : w.heap[B]? = some (.cells #[a0, a1, a2, a3] t (0, 0))) :
    ((((w.setCell ⟨B, 0, none⟩ u0).setCell ⟨B, 1, none⟩ u1).setCell ⟨B, 2, none⟩ u2).setCell ⟨B, 3, none⟩ u3).heap[B]? = some (.cells #[u0, u1, u2, u3] t (0, 0)) ∧ Below B w ((((w.setCell ⟨B, 0, none⟩ u0).setCell ⟨B, 1, none⟩ u1).setCell ⟨B, 2, none⟩ u2).setCell ⟨B, 3, none⟩ u3) := by
  have h := heap_setCell_same _ B 0 _ t u0 h
  have h := heap_setCell_same _ B 1 _ t u1 h
  have h := heap_setCell_same _ B 2 _ t u2 h
  have h := heap_setCell_same _ B 3 _ t u3 h
  refine ⟨h, ?_⟩
  have hb := Below.refl B w
  have hb := hb.setCell (p := ⟨B, 0, none⟩) (Nat.le_refl _) u0
  have hb := hb.setCell (p := ⟨B, 1, none⟩) (Nat.le_refl _) u1
  have hb := hb.setCell (p := ⟨B, 2, none⟩) (Nat.le_refl _) u2
  have hb := hb.setCell (p := ⟨B, 3, none⟩) (Nat.le_refl _) u3
  exact hb
theorem cells4 {w : World} {B : Nat} {t : TypeId} {a0 a1 a2 a3 : Value} (h : w.heap[B]? = some (.cells #[a0, a1, a2, a3] t (0, 0))) :
    w.cell? ⟨B, 0, none⟩ = some a0 ∧ w.cell? ⟨B, 1, none⟩ = some a1 ∧ w.cell? ⟨B, 2, none⟩ = some a2 ∧ w.cell? ⟨B, 3, none⟩ = some a3 :=
  ⟨cell_of_row _ _ 0 _ _ _ h, cell_of_row _ _ 1 _ _ _ h, cell_of_row _ _ 2 _ _ _ h, cell_of_row _ _ 3 _ _ _ h⟩
theorem free4 {w : World} {B : Nat} {t : TypeId} {cs : Array Value} (h : w.heap[B]? = some (.cells cs t (0, 0))) :
    w.frozen? ⟨B, 0, none⟩ = false ∧ w.frozen? ⟨B, 1, none⟩ = false ∧ w.frozen? ⟨B, 2, none⟩ = false ∧ w.frozen? ⟨B, 3, none⟩ = false :=
  ⟨frozen_of_row _ _ 0 _ _ h, frozen_of_row _ _ 1 _ _ h, frozen_of_row _ _ 2 _ _ h, frozen_of_row _ _ 3 _ _ h⟩
theorem held3 {w1 w' : World} {B : Nat} {t : TypeId} {a0 a1 a2 : Value} (k : w1.heap[B]? = some (.cells #[a0, a1, a2] t (0, 0))) (h : Below w1.heap.size w1 w') :
    Below w1.heap.size w1 w' ∧ w'.cell? ⟨B, 0, none⟩ = some a0 ∧ w'.cell? ⟨B, 1, none⟩ = some a1 ∧ w'.cell? ⟨B, 2, none⟩ = some a2 := by
  have hB : B < w1.heap.size := by
    rcases Nat.lt_or_ge B w1.heap.size with h0 | h0
    · exact h0
    · simp [Array.getElem?_eq_none h0] at k
  exact ⟨h, cells3 ((h.block B hB).trans k)⟩
theorem held4 {w1 w' : World} {B : Nat} {t : TypeId} {a0 a1 a2 a3 : Value} (k : w1.heap[B]? = some (.cells #[a0, a1, a2, a3] t (0, 0))) (h : Below w1.heap.size w1 w') :
    Below w1.heap.size w1 w' ∧ w'.cell? ⟨B, 0, none⟩ = some a0 ∧ w'.cell? ⟨B, 1, none⟩ = some a1 ∧ w'.cell? ⟨B, 2, none⟩ = some a2 ∧ w'.cell? ⟨B, 3, none⟩ = some a3 := by
  have hB : B < w1.heap.size := by
    rcases Nat.lt_or_ge B w1.heap.size with h0 | h0
    · exact h0
    · simp [Array.getElem?_eq_none h0] at k
  exact ⟨h, cells4 ((h.block B hB).trans k)⟩
end Err
end Go.Proofs.YtoiidedigbfnaaaDoor
/- Rows of bytes that a call has made: literals, a lower base, worlds that have grown by them. -/
namespace Go.Proofs.YtoiidedigbfnaaaDoor
open Go.RowKit Sha Apd
namespace Cut
theorem lit_in (w : World) (l : List Nat) : BytesIn (w.alloc (.cells (u8s l).toArray 5)) (.slice (some ⟨w.heap.size, 0, none⟩) l.length l.length) l := by
  refine ⟨_, _, rfl, Nat.le_refl _, .inr ⟨w.heap.size, 0, rfl, fun j hj => ?_⟩⟩
  rw [cell_of_row _ _ (0 + j) _ _ _ (heap_alloc_new w _), Nat.zero_add]
  exact u8s_at hj
theorem lit_in1 (w : World) (o : Obj) (l : List Nat) : BytesIn ((w.alloc o).alloc (.cells (u8s l).toArray 5)) (.slice (some ⟨w.heap.size + 1, 0, none⟩) l.length l.length) l := by
  have h := lit_in (w.alloc o) l
  rwa [World.size_alloc] at h
theorem own_lit (w : World) (base : Nat) (l : List Nat) (hb : base ≤ w.heap.size) (hl : l.length < 1000000) : (w.alloc (.cells (u8s l).toArray 5)).ownsRow base 5 1 (.slice (some ⟨w.heap.size, 0, none⟩) l.length l.length) l.length (u8s l) := by
  have := World.ownsRow_lit (base := base) (e := 5) (size := 1) w (u8s l).toArray l.length hb (by unfold maxLen; omega) (by simp [u8s])
  simpa using this
theorem own_nil {w : World} {base n : Nat} {ad : Option Addr} {c : Nat} {m : List Nat} (h : w.ownsRow base 5 1 (.slice ad n c) n (u8s m)) : ad = none → n = 0 ∧ c = 0 := by
  obtain ⟨_, _, hv, hn, _⟩ := own_spot h
  injection hv with e1 _ e3
  subst e1 e3
  exact hn
/-- Two bytes of an array, as a slice. -/
theorem two_in {w : World} {T x y : Nat} {t : TypeId} (h : w.heap[T]? = some (.cells #[.int .u8 (x : Int), .int .u8 (y : Int)] t (0, 0))) : BytesIn w (.slice (some ⟨T, 0, none⟩) 2 2) [x, y] := by
  refine ⟨_, _, rfl, Nat.le_refl _, .inr ⟨T, 0, rfl, fun j hj => ?_⟩⟩
  have hj2 : j = 0 ∨ j = 1 := by simp at hj; omega
  rcases hj2 with rfl | rfl
  · exact cell_of_row _ _ 0 _ _ _ h
  · exact cell_of_row _ _ 1 _ _ _ h
end Cut
end Go.Proofs.YtoiidedigbfnaaaDoor
/- Blocks that are known whole, behind calls that make memory or change one block. -/
namespace Go.Proofs.YtoiidedigbfnaaaDoor
open Go.RowKit Sha
namespace Cut
theorem cells8 {w : World} {B : Nat} {t : TypeId} {a0 a1 a2 a3 a4 a5 a6 a7 : Value} (h : w.heap[B]? = some (.cells #[a0, a1, a2, a3, a4, a5, a6, a7] t (0, 0))) :
    w.cell? ⟨B, 0, none⟩ = some a0 ∧ w.cell? ⟨B, 1, none⟩ = some a1 ∧ w.cell? ⟨B, 2, none⟩ = some a2 ∧ w.cell? ⟨B, 3, none⟩ = some a3 ∧ w.cell? ⟨B, 4, none⟩ = some a4 ∧ w.cell? ⟨B, 5, none⟩ = some a5 ∧ w.cell? ⟨B, 6, none⟩ = some a6 ∧ w.cell? ⟨B, 7, none⟩ = some a7 :=
  ⟨cell_of_row _ _ 0 _ _ _ h, cell_of_row _ _ 1 _ _ _ h, cell_of_row _ _ 2 _ _ _ h, cell_of_row _ _ 3 _ _ _ h, cell_of_row _ _ 4 _ _ _ h, cell_of_row _ _ 5 _ _ _ h, cell_of_row _ _ 6 _ _ _ h, cell_of_row _ _ 7 _ _ _ h⟩
theorem held8 {w1 w' : World} {B : Nat} {t : TypeId} {a0 a1 a2 a3 a4 a5 a6 a7 : Value} (k : w1.heap[B]? = some (.cells #[a0, a1, a2, a3, a4, a5, a6, a7] t (0, 0))) (h : Below w1.heap.size w1 w') :
    Below w1.heap.size w1 w' ∧ w'.cell? ⟨B, 0, none⟩ = some a0 ∧ w'.cell? ⟨B, 1, none⟩ = some a1 ∧ w'.cell? ⟨B, 2, none⟩ = some a2 ∧ w'.cell? ⟨B, 3, none⟩ = some a3 ∧ w'.cell? ⟨B, 4, none⟩ = some a4 ∧ w'.cell? ⟨B, 5, none⟩ = some a5 ∧ w'.cell? ⟨B, 6, none⟩ = some a6 ∧ w'.cell? ⟨B, 7, none⟩ = some a7 := ⟨h, cells8 (blk k h)⟩
theorem free8 {w : World} {B : Nat} {t : TypeId} {cs : Array Value} (h : w.heap[B]? = some (.cells cs t (0, 0))) :
    w.frozen? ⟨B, 0, none⟩ = false ∧ w.frozen? ⟨B, 1, none⟩ = false ∧ w.frozen? ⟨B, 2, none⟩ = false ∧ w.frozen? ⟨B, 3, none⟩ = false ∧ w.frozen? ⟨B, 4, none⟩ = false ∧ w.frozen? ⟨B, 5, none⟩ = false ∧ w.frozen? ⟨B, 6, none⟩ = false ∧ w.frozen? ⟨B, 7, none⟩ = false :=
  ⟨frozen_of_row _ _ 0 _ _ h, frozen_of_row _ _ 1 _ _ h, frozen_of_row _ _ 2 _ _ h, frozen_of_row _ _ 3 _ _ h, frozen_of_row _ _ 4 _ _ h, frozen_of_row _ _ 5 _ _ h, frozen_of_row _ _ 6 _ _ h, frozen_of_row _ _ 7 _ _ h⟩
/-- Eight cells of a block, stored one behind the other. -/
theorem over8 (a : World) (B : Nat) (t : TypeId) (a0 a1 a2 a3 a4 a5 a6 a7 u0 u1 u2 u3 u4 u5 u6 u7 : Value) (h : a.heap[B]? = some (.cells #[a0, a1, a2, a3, a4, a5, a6, a7] t (0, 0))) :
    ((((((((a.setCell ⟨B, 0, none⟩ u0).setCell ⟨B, 1, none⟩ u1).setCell ⟨B, 2, none⟩ u2).setCell ⟨B, 3, none⟩ u3).setCell ⟨B, 4, none⟩ u4).setCell ⟨B, 5, none⟩ u5).setCell ⟨B, 6, none⟩ u6).setCell ⟨B, 7, none⟩ u7).heap[B]? = some (.cells #[u0, u1, u2, u3, u4, u5, u6, u7] t (0, 0)) ∧
    a.grownBy ((((((((a.setCell ⟨B, 0, none⟩ u0).setCell ⟨B, 1, none⟩ u1).setCell ⟨B, 2, none⟩ u2).setCell ⟨B, 3, none⟩ u3).setCell ⟨B, 4, none⟩ u4).setCell ⟨B, 5, none⟩ u5).setCell ⟨B, 6, none⟩ u6).setCell ⟨B, 7, none⟩ u7) (some B) := by
  have g0 := gsetCell a B 0 u0
  have h : (a.setCell ⟨B, 0, none⟩ u0).heap[B]? = some (.cells #[u0, a1, a2, a3, a4, a5, a6, a7] t (0, 0)) := heap_setCell_same _ B 0 _ t u0 h
  generalize a.setCell ⟨B, 0, none⟩ u0 = b0 at *
  have g1 := gsetCell b0 B 1 u1
  have h : (b0.setCell ⟨B, 1, none⟩ u1).heap[B]? = some (.cells #[u0, u1, a2, a3, a4, a5, a6, a7] t (0, 0)) := heap_setCell_same _ B 1 _ t u1 h
  generalize b0.setCell ⟨B, 1, none⟩ u1 = b1 at *
  have g2 := gsetCell b1 B 2 u2
  have h : (b1.setCell ⟨B, 2, none⟩ u2).heap[B]? = some (.cells #[u0, u1, u2, a3, a4, a5, a6, a7] t (0, 0)) := heap_setCell_same _ B 2 _ t u2 h
  generalize b1.setCell ⟨B, 2, none⟩ u2 = b2 at *
  have g3 := gsetCell b2 B 3 u3
  have h : (b2.setCell ⟨B, 3, none⟩ u3).heap[B]? = some (.cells #[u0, u1, u2, u3, a4, a5, a6, a7] t (0, 0)) := heap_setCell_same _ B 3 _ t u3 h
  generalize b2.setCell ⟨B, 3, none⟩ u3 = b3 at *
  have g4 := gsetCell b3 B 4 u4
  have h : (b3.setCell ⟨B, 4, none⟩ u4).heap[B]? = some (.cells #[u0, u1, u2, u3, u4, a5, a6, a7] t (0, 0)) := heap_setCell_same _ B 4 _ t u4 h
  generalize b3.setCell ⟨B, 4, none⟩ u4 = b4 at *
  have g5 := gsetCell b4 B 5 u5
  have h : (b4.setCell ⟨B, 5, none⟩ u5).heap[B]? = some (.cells #[u0, u1, u2, u3, u4, u5, a6, a7] t (0, 0)) := heap_setCell_same _ B 5 _ t u5 h
  generalize b4.setCell ⟨B, 5, none⟩ u5 = b5 at *
  have g6 := gsetCell b5 B 6 u6
  have h : (b5.setCell ⟨B, 6, none⟩ u6).heap[B]? = some (.cells #[u0, u1, u2, u3, u4, u5, u6, a7] t (0, 0)) := heap_setCell_same _ B 6 _ t u6 h
  generalize b5.setCell ⟨B, 6, none⟩ u6 = b6 at *
  have g7 := gsetCell b6 B 7 u7
  have h : (b6.setCell ⟨B, 7, none⟩ u7).heap[B]? = some (.cells #[u0, u1, u2, u3, u4, u5, u6, u7] t (0, 0)) := heap_setCell_same _ B 7 _ t u7 h
  generalize b6.setCell ⟨B, 7, none⟩ u7 = b7 at *
  exact ⟨h, gtrans g0 (gtrans g1 (gtrans g2 (gtrans g3 (gtrans g4 (gtrans g5 (gtrans g6 g7))))))⟩
end Cut
end Go.Proofs.YtoiidedigbfnaaaDoor
/- Lists of numbers by their members. -/
namespace Go.Proofs.YtoiidedigbfnaaaDoor
namespace Sam
theorem eq_of_getD {xs ys : List Nat} (hl : xs.length = ys.length) (h : ∀ i, i < xs.length → xs.getD i 0 = ys.getD i 0) : xs = ys := by
  apply List.ext_getElem hl
  intro i h1 h2
  have := h i h1
  simpa [List.getD_eq_getElem?_getD, h1, h2] using this
end Sam
end Go.Proofs.YtoiidedigbfnaaaDoor
/- 'Same' of the document's answer tells whether two lists of bytes are alike (no hash is needed). -/
namespace Go.Proofs.YtoiidedigbfnaaaDoor
open Go.RowKit
namespace Sam
open Sha
set_option maxRecDepth 100000 in
set_option maxHeartbeats 1000000 in
theorem same_any (v1 v2 : Value) (xs : List Nat) (w : World) (h1 : BytesIn w v1 xs) (h2 : BytesIn w v2 xs) (hx8 : ∀ x ∈ xs, x < 256) (hl : xs.length < 1000000) :
    Calls Tryd.prog 11 #[v1, v2] w fun e w' => e = .returned (.bool true) ∧ ∃ k, w' = w.drewN k := by
  obtain ⟨ad1, c1, rfl, _, h1⟩ := h1
  obtain ⟨ad2, c2, rfl, _, h2⟩ := h2
  have H1 := Lib.hid h1
  have H2 := Lib.hid h2
  clear h1 h2
  go_enter Tryd.func11, Tryd.ntmps11
  go_wp2_with fail
  go_loopw [5] (fun i wr => ∃ k : Nat, k ≤ xs.length ∧ i = .int .i64 k ∧ ∃ n, wr = w.drewN n) (fun i _ => xs.length - (intOf i).toNat)
  case atStart => exact ⟨0, Nat.zero_le _, rfl, 0, rfl⟩
  case round =>
    obtain ⟨k, hk, rfl, n, rfl⟩ := hrel
    by_cases hlt : k < xs.length
    · rcases H1.out with h0 | ⟨g1, o1, rfl, hc1⟩
      · rw [h0] at hlt; simp at hlt
      rcases H2.out with h0 | ⟨g2, o2, rfl, hc2⟩
      · rw [h0] at hlt; simp at hlt
      have d1 := hc1 k hlt
      have d2 := hc2 k hlt
      have hx := byte_lt hx8 (by decide) k
      generalize xs.getD k 0 = x at d1 d2 hx
      have hi0 : (0 : Int) ≤ (k : Int) := by omega
      have hi1 : (k : Int) < (xs.length : Int) := by omega
      clear hc1 hc2
      go_wp2_with fail
      go_quiet (fail)
      go_wp2_with fail
      go_roundw
      case rel => exact ⟨k + 1, by omega, by go_num, n + nq, rfl⟩
      case measure => simp [intOf]; omega
    · have hge : xs.length ≤ k := by omega
      clear hlt
      go_wp2_with fail
      go_ret
      exact ⟨rfl, n, rfl⟩

set_option maxRecDepth 100000 in
set_option maxHeartbeats 1000000 in
theorem same_gen (v1 v2 : Value) (xs ys : List Nat) (w : World) (h1 : BytesIn w v1 xs) (h2 : BytesIn w v2 ys) (hx8 : ∀ x ∈ xs, x < 256) (hy8 : ∀ x ∈ ys, x < 256) (hl : xs.length < 1000000) :
    Calls Tryd.prog 11 #[v1, v2] w fun e w' => e = .returned (.bool (decide (xs = ys))) ∧ ∃ k, w' = w.drewN k := by
  by_cases heq : xs = ys
  · subst heq
    refine (same_any v1 v2 xs w h1 h2 hx8 hl).mono fun e w' ⟨he, hw⟩ => ⟨?_, hw⟩
    rw [he, decide_eq_true rfl]
  have HF := Lib.hid (show decide (xs = ys) = false by simpa using heq)
  obtain ⟨ad1, c1, rfl, _, h1⟩ := h1
  obtain ⟨ad2, c2, rfl, _, h2⟩ := h2
  have H1 := Lib.hid h1
  have H2 := Lib.hid h2
  clear h1 h2
  by_cases hne : xs.length = ys.length
  · have HQ := Lib.hid (fun h => heq (eq_of_getD (xs := xs) (ys := ys) hne h))
    have HL := Lib.hid hne
    rw [← hne]
    clear hne heq
    go_enter Tryd.func11, Tryd.ntmps11
    go_wp2_with fail
    go_loopw [5] (fun i wr => ∃ k : Nat, k ≤ xs.length ∧ i = .int .i64 k ∧ (∀ i, i < k → xs.getD i 0 = ys.getD i 0) ∧ ∃ n, wr = w.drewN n) (fun i _ => xs.length - (intOf i).toNat)
    case atStart => exact ⟨0, Nat.zero_le _, rfl, fun i hi => absurd hi (by omega), 0, rfl⟩
    case round =>
      obtain ⟨k, hk, rfl, hall, n, rfl⟩ := hrel
      by_cases hlt : k < xs.length
      · rcases H1.out with h0 | ⟨g1, o1, rfl, hc1⟩
        · rw [h0] at hlt; simp at hlt
        rcases H2.out with h0 | ⟨g2, o2, rfl, hc2⟩
        · have := HL.out; rw [h0, List.length_nil] at this; omega
        have d1 := hc1 k hlt
        have d2 := hc2 k (by have := HL.out; omega)
        have hx := byte_lt hx8 (by decide) k
        have hy := byte_lt hy8 (by decide) k
        have HA := Lib.hid (show xs.getD k 0 = ys.getD k 0 → ∀ i, i < k + 1 → xs.getD i 0 = ys.getD i 0 from fun h i hi => by
          rcases Nat.lt_or_ge i k with h' | h'
          · exact hall i h'
          · obtain rfl : i = k := by omega
            exact h)
        generalize xs.getD k 0 = x at d1 hx HA
        generalize ys.getD k 0 = y at d2 hy HA
        have hi0 : (0 : Int) ≤ (k : Int) := by omega
        have hi1 : (k : Int) < (xs.length : Int) := by omega
        clear hc1 hc2 hall
        by_cases hxy : x = y
        · subst hxy
          go_wp2_with fail
          go_quiet (fail)
          go_wp2_with fail
          go_roundw
          case rel => exact ⟨k + 1, by omega, by go_num, HA.out (by first | trivial | rfl), n + nq, rfl⟩
          case measure => simp [intOf]; omega
        · have hb : ((x : Int) != (y : Int)) = true := by simp; omega
          have hb2 : ((x : Int) == (y : Int)) = false := by simp; omega
          clear hxy
          go_wp2_with fail
          go_quiet (fail)
          go_wp2_with fail
          go_ret
          refine ⟨?_, n + nq, by first | rfl | simp [World.drewN, Nat.add_assoc]⟩
          rw [HF.out]; rfl
      · exact absurd (fun i hi => hall i (by omega)) HQ.out
  · have HNE := Lib.hid hne
    clear hne heq
    go_enter Tryd.func11, Tryd.ntmps11
    go_wp2_with fail
    · go_ret
      refine ⟨?_, 0, rfl⟩
      rw [HF.out]; rfl
    · exfalso
      have h : ((xs.length : Int) != (ys.length : Int)) = false := by assumption
      have := HNE.out
      simp at h
      omega
theorem same_b (v1 v2 : Value) (xs : List Nat) (w : World) (h1 : BytesIn w v1 xs) (h2 : BytesIn w v2 xs) (hx8 : ∀ x ∈ xs, x < 256) (hl : xs.length < 1000000) :
    Calls Tryd.prog 11 #[v1, v2] w fun e w' => e = .returned (.bool true) ∧ Below w.heap.size w w' :=
  (same_any v1 v2 xs w h1 h2 hx8 hl).mono fun _ _ ⟨he, m, hw⟩ => ⟨he, by rw [hw]; exact Six.below_drewN _ _ _⟩
theorem same_gb (v1 v2 : Value) (xs ys : List Nat) (w : World) (h1 : BytesIn w v1 xs) (h2 : BytesIn w v2 ys) (hx8 : ∀ x ∈ xs, x < 256) (hy8 : ∀ x ∈ ys, x < 256) (hl : xs.length < 1000000) :
    Calls Tryd.prog 11 #[v1, v2] w fun e w' => e = .returned (.bool (decide (xs = ys))) ∧ Below w.heap.size w w' :=
  (same_gen v1 v2 xs ys w h1 h2 hx8 hy8 hl).mono fun _ _ ⟨he, m, hw⟩ => ⟨he, by rw [hw]; exact Six.below_drewN _ _ _⟩
end Sam
end Go.Proofs.YtoiidedigbfnaaaDoor
/- Bytes of a row of the call's own, flipped one behind the other. -/
namespace Go.Proofs.YtoiidedigbfnaaaDoor
open Go.RowKit Sha
namespace Cut
theorem u8_flip (a : Nat) (ha : a < 256) : bits .xor .u8 (a : Int) 255 = ((a ^^^ 255 : Nat) : Int) := by
  have hx : a ^^^ 255 < 2 ^ 8 := Nat.xor_lt_two_pow ha (by decide)
  have e1 : (BitVec.ofInt 8 (a : Int)).toNat = a := by rw [BitVec.ofInt_natCast, BitVec.toNat_ofNat]; exact Nat.mod_eq_of_lt (by omega)
  show IntKind.u8.wrap ((BitVec.ofInt 8 (a : Int) ^^^ BitVec.ofInt 8 255).toNat : Int) = _
  have e2 : (BitVec.ofInt 8 255).toNat = 255 := by decide
  rw [BitVec.toNat_xor, e1, e2, IntWalk.u8_in]
  omega
/-- The first k bytes are flipped. -/
def flipTo (xs : List Nat) (k : Nat) : List Nat := (xs.take k).map (· ^^^ 255) ++ xs.drop k
theorem flip_lt {xs : List Nat} (h8 : ∀ x ∈ xs, x < 256) (k : Nat) : ∀ x ∈ flipTo xs k, x < 256 := by
  intro x hx
  rcases List.mem_append.1 hx with h | h
  · obtain ⟨y, hy, rfl⟩ := List.mem_map.1 h
    exact Nat.xor_lt_two_pow (n := 8) (h8 y (List.mem_of_mem_take hy)) (by decide)
  · exact h8 x (List.mem_of_mem_drop h)
theorem flip_len (xs : List Nat) (k : Nat) : (flipTo xs k).length = xs.length := by
  simp only [flipTo, List.length_append, List.length_map, List.length_take, List.length_drop]; omega
theorem flip_at {xs : List Nat} {k : Nat} (hk : k < xs.length) : (flipTo xs k).getD k 0 = xs.getD k 0 ∧ (flipTo xs k).set k (xs.getD k 0 ^^^ 255) = flipTo xs (k + 1) := by
  have hl : ((xs.take k).map (· ^^^ 255)).length = k := by rw [List.length_map, List.length_take]; omega
  constructor
  · simp only [flipTo, List.getD_eq_getElem?_getD]
    rw [List.getElem?_append_right (by omega), hl]
    simp
  · have hd : xs.drop k = xs.getD k 0 :: xs.drop (k + 1) := by
      rw [List.drop_eq_getElem_cons hk, List.getD_eq_getElem?_getD, List.getElem?_eq_getElem hk]; rfl
    have ht : xs.take (k + 1) = xs.take k ++ [xs.getD k 0] := by
      rw [List.take_succ_eq_append_getElem hk, List.getD_eq_getElem?_getD, List.getElem?_eq_getElem hk]; rfl
    rw [flipTo, flipTo, hd, ht, List.set_append_right _ _ (by omega), hl]
    simp
theorem own_put {w : World} {base g c n i v : Nat} {m : List Nat} (h : w.ownsRow base 5 1 (.slice (some ⟨g, 0, none⟩) n c) n (u8s m)) :
    (w.setCell ⟨g, i, none⟩ (.int .u8 (v : Int))).ownsRow base 5 1 (.slice (some ⟨g, 0, none⟩) n c) n (u8s (m.set i v)) := by
  have := (h.stored i (.int .u8 (v : Int))).1
  have e : (u8s m).set i (.int .u8 (v : Int)) = u8s (m.set i v) := by simp [u8s, List.map_set]
  rwa [e] at this
theorem own_free {w : World} {base e size n g c i : Nat} {xs : List Value} (h : w.ownsRow base e size (.slice (some ⟨g, 0, none⟩) n c) n xs) : w.frozen? ⟨g, i, none⟩ = false := by
  rcases h.2 with ⟨h1, _⟩ | ⟨g', cap, cur, h1, _, hh, _⟩
  · cases h1
  · injection h1 with e1 _ _
    injection e1 with e1
    injection e1 with e1
    subst e1
    exact frozen_of_row w g i cur _ hh
theorem own_apart {w w1 : World} {base b e size n c : Nat} {ad : Option Addr} {xs : List Value} (h : w.ownsRow base e size (.slice ad n c) n xs) (hg : w.grownBy w1 (some b)) (hb : ∀ a, ad = some a → a.block ≠ b) : w1.ownsRow base e size (.slice ad n c) n xs := by
  refine h.kept hg ?_
  cases ad with
  | none => exact .inl rfl
  | some a => exact .inr (by simpa [Value.ownBlock] using hb a rfl)
theorem own_blocks {w : World} {base e size n c : Nat} {ad : Option Addr} {xs : List Value} (h : w.ownsRow base e size (.slice ad n c) n xs) : ∀ a, ad = some a → base ≤ a.block ∧ a.block < w.heap.size := by
  obtain ⟨_, _, hv, _, hs⟩ := own_spot h
  injection hv with e1 _ _
  subst e1
  exact fun a ha => (hs a ha).2
end Cut
end Go.Proofs.YtoiidedigbfnaaaDoor
/- What a literal of a kind can be. -/
namespace Go.Proofs.YtoiidedigbfnaaaDoor
open Go.RowKit
namespace Ord
theorem wf_u8 {c : Int} (h : (Lit.int .u8 c).wf = true) : 0 ≤ c ∧ c < 256 := by
  have h1 : IntKind.u8.min ≤ c ∧ c ≤ IntKind.u8.max := by simpa [Lit.wf] using h
  have h2 : IntKind.u8.min = 0 := by decide
  have h3 : IntKind.u8.max = 255 := by decide
  omega
theorem wf_u16 {c : Int} (h : (Lit.int .u16 c).wf = true) : 0 ≤ c ∧ c < 65536 := by
  have h1 : IntKind.u16.min ≤ c ∧ c ≤ IntKind.u16.max := by simpa [Lit.wf] using h
  have h2 : IntKind.u16.min = 0 := by decide
  have h3 : IntKind.u16.max = 65535 := by decide
  omega
end Ord
end Go.Proofs.YtoiidedigbfnaaaDoor
