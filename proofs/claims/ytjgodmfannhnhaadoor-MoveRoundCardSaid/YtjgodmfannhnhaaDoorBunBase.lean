/- Mem, Bytes, SixSpec, SixWord, Keep, Own, Cells, EqD, OrdWf in one text (by tools/bundle.py). -/
import Derived.WalkKit
import Derived.Deep.MidRow
import Derived.Deep.Quiet
import Derived.Below
import Derived.OpenShut
import Derived.Test.YtjgodmfannhnhaaDoorProg
import Derived.LaidEql
import Derived.RowKitTokens
import Derived.Lib.Hide
import Derived.Deep.QuietTactic
import Derived.BigQuiet
import Derived.IntWalk
import Derived.Laws.OwnMore
import Derived.OwnWalk
import Derived.Laws.ResultCell
import Derived.Laws.Rows
/- Small laws on memory and rows of numbers; no program is named here. -/
namespace Go.Proofs.YtjgodmfannhnhaaDoor
open Go.RowKit
namespace Sha
/-- The cells of a row of numbers. -/
def u8s (l : List Nat) : List Value := l.map fun (x : Nat) => .int .u8 (x : Int)
def u32s (l : List Nat) : List Value := l.map fun (x : Nat) => .int .u32 (x : Int)
def pad (n : Nat) (l : List Nat) : List Nat := l ++ List.replicate (n - l.length) 0
theorem u8s_at {l : List Nat} {i : Nat} (h : i < l.length) : (u8s l).toArray[i]? = some (.int .u8 ((l.getD i 0 : Nat) : Int)) := by
  simp [u8s, h]
theorem u32s_at {l : List Nat} {i : Nat} (h : i < l.length) : (u32s l).toArray[i]? = some (.int .u32 ((l.getD i 0 : Nat) : Int)) := by
  simp [u32s, h]
theorem pad_length {n : Nat} {l : List Nat} (h : l.length ≤ n) : (pad n l).length = n := by simp [pad]; omega
theorem pad_getD {n : Nat} {l : List Nat} {i : Nat} (h : i < l.length) : (pad n l).getD i 0 = l.getD i 0 := by
  simp [pad, List.getD_eq_getElem?_getD, List.getElem?_append_left h]
theorem pad_snoc {n : Nat} {l : List Nat} (v : Nat) (h : l.length < n) : (pad n l).set l.length v = pad n (l ++ [v]) := by
  unfold pad
  rw [List.set_append_right _ _ (Nat.le_refl _), Nat.sub_self]
  have e : n - l.length = (n - (l ++ [v]).length) + 1 := by simp; omega
  rw [e, List.replicate_succ, List.set_cons_zero]; simp
theorem pad_full {n : Nat} {l : List Nat} (h : l.length = n) : pad n l = l := by simp [pad, h]
theorem u32s_set (l : List Nat) (i v : Nat) : (u32s l).toArray.setIfInBounds i (.int .u32 (v : Int)) = (u32s (l.set i v)).toArray := by
  simp [u32s, List.map_set]
theorem u8s_set (l : List Nat) (i v : Nat) : (u8s l).toArray.setIfInBounds i (.int .u8 (v : Int)) = (u8s (l.set i v)).toArray := by
  simp [u8s, List.map_set]
theorem zeros32 (n : Nat) : (u32s (pad n [])).toArray = Array.replicate n (.int .u32 0) := by
  simp [u32s, pad]
theorem zeros8 (n : Nat) : (u8s (pad n [])).toArray = Array.replicate n (.int .u8 0) := by
  simp [u8s, pad]
theorem keep_cell {w : World} {B i j : Nat} {u v : Value} (h : j ≠ i) (hc : w.cell? ⟨B, j, none⟩ = some u) : (w.setCell ⟨B, i, none⟩ v).cell? ⟨B, j, none⟩ = some u := by
  have e : (⟨B, i, none⟩ : Addr) ≠ ⟨B, j, none⟩ := by intro e; injection e with _ e; exact h e.symm
  rw [World.cell?_setCell_other (h := e)]
  exact hc
theorem heap_setCell_same' (w : World) (b i : Nat) (C : Array Value) (t : TypeId) (fr : Nat × Nat) (v : Value) (h : w.heap[b]? = some (.cells C t fr)) :
    (w.setCell ⟨b, i, none⟩ v).heap[b]? = some (.cells (C.setIfInBounds i v) t fr) := by
  simp [World.setCell, Array.getElem?_modify, h]
/-- A row that is written into a block that is known whole. -/
theorem heap_setCells (b : Nat) (t : TypeId) (fr : Nat × Nat) : ∀ (vs : List Value) (o : Nat) (w : World) (C : List Value), w.heap[b]? = some (.cells C.toArray t fr) → o + vs.length ≤ C.length →
    (w.setCells b o vs).heap[b]? = some (.cells (C.take o ++ vs ++ C.drop (o + vs.length)).toArray t fr)
  | [], o, w, C, h, _ => by simpa [World.setCells] using h
  | v :: r, o, w, C, h, hl => by
    simp only [List.length_cons] at hl
    have h1 : (w.setCell ⟨b, o, none⟩ v).heap[b]? = some (.cells (C.set o v).toArray t fr) := by
      rw [heap_setCell_same' w b o _ t fr v h]; simp
    have h2 := heap_setCells b t fr r (o + 1) (w.setCell ⟨b, o, none⟩ v) (C.set o v) h1 (by simp; omega)
    rw [World.setCells, h2]
    congr 3
    have e1 : (C.set o v).take (o + 1) = C.take o ++ [v] := by
      rw [List.take_succ_eq_append_getElem (by simp; omega), List.take_set_of_le (Nat.le_refl _)]; simp
    have e2 : (C.set o v).drop (o + 1 + r.length) = C.drop (o + (r.length + 1)) := by
      rw [List.drop_set_of_lt (by omega)]; congr 1; omega
    rw [e1, e2]; simp
theorem there_of_block {w : World} {b : Nat} {C : Array Value} {t : TypeId} (h : w.heap[b]? = some (.cells C t (0, 0))) (o n : Nat) (hl : o + n ≤ C.size) : w.there b o n := fun j hj => by
  refine ⟨?_, frozen_of_row w b (o + j) C t h⟩
  rw [cell_of_row w b (o + j) C t (0, 0) h]
  simp; omega
theorem u8s_cells (l : List Nat) : (u8s l).toArray.all (·.oneCell') = true := all_oneCell_toArray (by intro v hv; simp [u8s] at hv; obtain ⟨x, _, rfl⟩ := hv; rfl)
theorem u32s_cells (l : List Nat) : (u32s l).toArray.all (·.oneCell') = true := all_oneCell_toArray (by intro v hv; simp [u32s] at hv; obtain ⟨x, _, rfl⟩ := hv; rfl)
theorem u8s_one (l : List Nat) : ∀ v ∈ u8s l, v.oneCell' = true := by intro v hv; simp [u8s] at hv; obtain ⟨x, _, rfl⟩ := hv; rfl
theorem u32s_one (l : List Nat) : ∀ v ∈ u32s l, v.oneCell' = true := by intro v hv; simp [u32s] at hv; obtain ⟨x, _, rfl⟩ := hv; rfl
theorem u8s_length (l : List Nat) : (u8s l).length = l.length := by simp [u8s]
theorem u32s_length (l : List Nat) : (u32s l).length = l.length := by simp [u32s]
theorem below_setCells {B : Nat} {w0 : World} (b : Nat) (hB : B ≤ b) : ∀ (vs : List Value) (o : Nat) (w : World), Below B w0 w → Below B w0 (w.setCells b o vs)
  | [], _, _, h => h
  | v :: r, o, _, h => below_setCells b hB r (o + 1) _ (h.setCell hB v)
theorem gtrans {w w1 w2 : World} {r : Option Nat} (h : w.grownBy w1 r) (k : w1.grownBy w2 r) : w.grownBy w2 r :=
  ⟨k.os.trans h.os, k.tape.trans h.tape, k.output.trans h.output, Nat.le_trans h.size k.size, fun i hi hr => (k.block i (Nat.lt_of_lt_of_le hi h.size) hr).trans (h.block i hi hr)⟩
theorem grefl (w : World) (r : Option Nat) : w.grownBy w r := ⟨rfl, rfl, rfl, Nat.le_refl _, fun _ _ _ => rfl⟩
theorem gdrewN (w : World) (n : Nat) (r : Option Nat) : w.grownBy (w.drewN n) r := ⟨rfl, rfl, rfl, Nat.le_refl _, fun _ _ _ => rfl⟩
theorem gbelow {w w1 : World} (h : Below w.heap.size w w1) (r : Option Nat) : w.grownBy w1 r := ⟨h.os, h.tape, h.output, h.size, fun k hk _ => h.block k hk⟩
theorem belowg {w w1 : World} (h : w.grownBy w1 none) : Below w.heap.size w w1 := ⟨h.os, h.tape, h.output, h.size, fun k hk => h.block k hk (by simp)⟩
theorem gsetCell (w : World) (b i : Nat) (v : Value) : w.grownBy (w.setCell ⟨b, i, none⟩ v) (some b) :=
  ⟨rfl, rfl, rfl, by simp [World.setCell], fun k _ hr => heap_setCell_other w ⟨b, i, none⟩ k v (by intro e; exact hr (by rw [e]))⟩
theorem gsetRow (w : World) (b : Nat) (cs : Array Value) : w.grownBy (w.setRow b cs) (some b) :=
  ⟨rfl, rfl, rfl, by simp [World.setRow], fun k _ hr => setRow_other w b k cs (by intro e; exact hr (by rw [e]))⟩
theorem gsetCells (b : Nat) : ∀ (vs : List Value) (o : Nat) (w : World), w.grownBy (w.setCells b o vs) (some b)
  | [], _, _ => grefl _ _
  | v :: r, o, w => gtrans (gsetCell w b o v) (gsetCells b r (o + 1) _)
theorem heap_alloc3 (w : World) (A B C : Obj) : (((w.alloc A).alloc B).alloc C).heap[w.heap.size]? = some A ∧ (((w.alloc A).alloc B).alloc C).heap[w.heap.size + 1]? = some B ∧ (((w.alloc A).alloc B).alloc C).heap[w.heap.size + 2]? = some C := by
  have s1 : (w.alloc A).heap.size = w.heap.size + 1 := by show (w.heap.push A).size = _; simp
  have s2 : ((w.alloc A).alloc B).heap.size = w.heap.size + 2 := by show ((w.alloc A).heap.push B).size = _; simp [s1]
  refine ⟨?_, ?_, ?_⟩
  · rw [heap_alloc_old _ _ (by omega)]; exact heap_alloc2_old w A B
  · rw [heap_alloc_old _ _ (by omega)]; exact heap_alloc2_new w A B
  · have := heap_alloc_new ((w.alloc A).alloc B) C
    rwa [s2] at this
/-- The cells of a row, as the world has them. -/
def rowAt (w : World) (b o n : Nat) : List Value := (List.range n).map fun j => (w.cell? ⟨b, o + j, none⟩).getD undef
def OkRow (w : World) (b o n : Nat) : Prop := ∀ j, j < n → (w.cell? ⟨b, o + j, none⟩).isSome = true
theorem rowAt_range {w : World} {b o n : Nat} (h : OkRow w b o n) : w.rangeAt b o (rowAt w b o n) := by
  intro j v hj
  have hjn : j < n := by
    rcases Nat.lt_or_ge j n with h' | h'
    · exact h'
    · rw [List.getElem?_eq_none (by simp [rowAt]; omega)] at hj; cases hj
  have := h j hjn
  obtain ⟨u, hu⟩ := Option.isSome_iff_exists.1 this
  simp [rowAt, hjn, hu] at hj
  rw [hu, hj]
theorem rowAt_length (w : World) (b o n : Nat) : (rowAt w b o n).length = n := by simp [rowAt]
theorem rowAt_eq {w : World} {b o n : Nat} {cs : List Value} (h : w.rangeAt b o cs) (hl : cs.length = n) : rowAt w b o n = cs := by
  apply List.ext_getElem?
  intro j
  by_cases hj : j < n
  · have hc := h j cs[j] (List.getElem?_eq_getElem (by omega))
    simp [rowAt, hj, hc, List.getElem?_eq_getElem (show j < cs.length by omega)]
  · rw [List.getElem?_eq_none (by rw [rowAt_length]; omega), List.getElem?_eq_none (by omega)]
theorem okRow_of {w : World} {b o n : Nat} {cs : List Value} (h : w.rangeAt b o cs) (hl : cs.length = n) : OkRow w b o n := fun j hj => by
  rw [h j cs[j] (List.getElem?_eq_getElem (by omega))]; rfl
end Sha
end Go.Proofs.YtjgodmfannhnhaaDoor
/- Slices of bytes in memory; no program is named here. -/
namespace Go.Proofs.YtjgodmfannhnhaaDoor
open Go.RowKit
namespace Sha
/-- v is a slice of the bytes xs. -/
def BytesIn (w : World) (v : Value) (xs : List Nat) : Prop :=
  ∃ ad cap, v = .slice ad xs.length cap ∧ xs.length ≤ cap ∧ (xs = [] ∨ ∃ g off, ad = some ⟨g, off, none⟩ ∧ ∀ j, j < xs.length → w.cell? ⟨g, off + j, none⟩ = some (.int .u8 ((xs.getD j 0 : Nat) : Int)))
theorem bytes_below {w w1 : World} {v : Value} {xs : List Nat} (h : BytesIn w v xs) (hb : Below w.heap.size w w1) : BytesIn w1 v xs := by
  obtain ⟨ad, cap, rfl, hcap, hc⟩ := h
  refine ⟨ad, cap, rfl, hcap, ?_⟩
  rcases hc with h0 | ⟨g, off, rfl, hc⟩
  · exact .inl h0
  · exact .inr ⟨g, off, rfl, fun j hj => (hb.cell (p := ⟨g, off + j, none⟩) (block_lt_of_cell (hc j hj))).trans (hc j hj)⟩
/-- A slice of integers that came in. -/
def IsRow (k : IntKind) (w : World) (a : Option Addr) (len cap : Nat) (zs : List Int) : Prop :=
  (a = none ∧ len = 0 ∧ cap = 0 ∧ zs = []) ∨
  ∃ x, a = some x ∧ len ≤ cap ∧ cap ≤ maxLen ∧ zs.length = cap ∧ (∀ i, i < zs.length → w.cell? (x.add i) = some (.int k (zs.getD i 0))) ∧ ∀ n ∈ zs, (Lit.int k n).wf = true
theorem isRow_le {k : IntKind} {w : World} {a : Option Addr} {len cap : Nat} {zs : List Int} (h : IsRow k w a len cap zs) : len ≤ maxLen := by
  rcases h with ⟨_, rfl, _, _⟩ | ⟨x, _, h1, h2, _⟩
  · exact Nat.zero_le _
  · omega
theorem spot_of_cell {w : World} {a : Addr} {v : Value} (h : w.cell? a = some v) : a = ⟨a.block, a.off, none⟩ := by
  obtain ⟨b, o, s⟩ := a
  cases s with
  | none => rfl
  | some s => simp [World.cell?] at h; split at h <;> simp at h
theorem isRow_bytes {w : World} {a : Option Addr} {len cap : Nat} {zs : List Int} (h : IsRow .u8 w a len cap zs) :
    ∃ xs : List Nat, xs.length = len ∧ (∀ x ∈ xs, x < 256) ∧ BytesIn w (.slice a len cap) xs := by
  rcases h with ⟨rfl, rfl, rfl, rfl⟩ | ⟨x, rfl, hlc, hcm, hz, hc, hw⟩
  · exact ⟨[], rfl, by simp, none, 0, rfl, Nat.le_refl _, .inl rfl⟩
  · have hwb : ∀ n ∈ zs, 0 ≤ n ∧ n < 256 := fun n hn => by
      have := bounds_u8 (hw n hn); omega
    refine ⟨(zs.take len).map Int.toNat, by simp; omega, ?_, some x, cap, by simp; omega, by simp; omega, ?_⟩
    · intro y hy
      simp only [List.mem_map] at hy
      obtain ⟨n, hn, rfl⟩ := hy
      have := hwb n (List.mem_of_mem_take hn); omega
    · by_cases h0 : len = 0
      · exact .inl (by simp [h0])
      · have hx : x = ⟨x.block, x.off, none⟩ := by
          have := hc 0 (by omega)
          rw [show x.add 0 = x from rfl] at this
          exact spot_of_cell this
        refine .inr ⟨x.block, x.off, by rw [← hx], fun j hj => ?_⟩
        simp only [List.length_map, List.length_take] at hj
        have h1 := hc j (by omega)
        rw [hx, Addr.add_mid] at h1
        rw [h1]
        have hj2 : j < zs.length := by omega
        have hb := hwb zs[j] (List.getElem_mem hj2)
        have hjl : j < len := by omega
        simp [List.getD_eq_getElem?_getD, hj2, hjl]
        omega

theorem isRow_nil {k : IntKind} {w : World} {a : Option Addr} {len cap : Nat} {zs : List Int} (h : IsRow k w a len cap zs) : a = none → len = 0 ∧ cap = 0 := by
  rcases h with ⟨_, h1, h2, _⟩ | ⟨x, h1, _⟩
  · exact fun _ => ⟨h1, h2⟩
  · intro h; rw [h] at h1; cases h1
theorem byte_lt {l : List Nat} {N : Nat} (h : ∀ x ∈ l, x < N) (h0 : 0 < N) (i : Nat) : l.getD i 0 < N := by
  rcases Nat.lt_or_ge i l.length with hi | hi
  · rw [List.getD_eq_getElem?_getD, List.getElem?_eq_getElem hi]; exact h _ (List.getElem_mem hi)
  · rw [List.getD_eq_getElem?_getD, List.getElem?_eq_none hi]; exact h0
end Sha
end Go.Proofs.YtjgodmfannhnhaaDoor
/- Plain: the graphic bytes of the numbers 0 to 63. -/
namespace Go.Proofs.YtjgodmfannhnhaaDoor
namespace Six
def graphic : List Nat := [0x40, 0xc1, 0xc2, 0xc3, 0xc4, 0xc5, 0xc6, 0xc7, 0xc8, 0xc9, 0x4a, 0x4b, 0x4c, 0x4d, 0x4e, 0x4f, 0x50, 0xd1, 0xd2, 0xd3, 0xd4, 0xd5, 0xd6, 0xd7, 0xd8, 0xd9, 0x5a, 0x5b, 0x5c, 0x5d, 0x5e, 0x5f, 0x60, 0x61, 0xe2, 0xe3, 0xe4, 0xe5, 0xe6, 0xe7, 0xe8, 0xe9, 0x6a, 0x6b, 0x6c, 0x6d, 0x6e, 0x6f, 0xf0, 0xf1, 0xf2, 0xf3, 0xf4, 0xf5, 0xf6, 0xf7, 0xf8, 0xf9, 0x7a, 0x7b, 0x7c, 0x7d, 0x7e, 0x7f]
/-- A number's graphic byte. -/
def put (n : Nat) : Nat := graphic.getD n 0
/-- A digit's sign. -/
def sign (d : Nat) : Nat := if d < 10 then d + 48 else d + 87
/-- What a digit stands for. -/
def value (c : Nat) : Nat := if 97 ≤ c then c - 87 else c - 48
/-- The digits of all graphic bytes, one behind the other. -/
def digits (i : Nat) : Nat := sign (if i % 2 = 0 then put (i / 2) / 16 else put (i / 2) % 16)
/-- A byte is graphic. -/
def isGraphic (b : Nat) : Bool := put (b % 64) == b

theorem put_lt : ∀ n, n < 64 → put n < 256 := by decide
theorem put_low : ∀ n, n < 64 → put n % 64 = n := by decide
theorem put_digits : ∀ n, n < 64 → 16 * value (digits (2 * n)) + value (digits (2 * n + 1)) = put n := by decide
theorem digits_hex : ∀ i, i < 128 → (48 ≤ digits i ∧ digits i ≤ 57) ∨ (97 ≤ digits i ∧ digits i ≤ 102) := by decide
theorem value_lt : ∀ i, i < 128 → value (digits i) < 16 := by decide
theorem put_inj (m n : Nat) (hm : m < 64) (hn : n < 64) (h : put m = put n) : m = n := by
  rw [← put_low m hm, ← put_low n hn, h]
theorem put_or : ∀ n, n < 64 → (value (digits (2 * n)) * 16) ||| value (digits (2 * n + 1)) = put n := by decide
theorem graphic_put (n : Nat) (h : n < 64) : isGraphic (put n) = true := by
  unfold isGraphic; rw [put_low n h]; simp
theorem put_of_graphic {b : Nat} (h : isGraphic b = true) : put (b % 64) = b := by
  unfold isGraphic at h; simpa using h
theorem not_graphic {b : Nat} (h : isGraphic b = false) (n : Nat) (hn : n < 64) : put n ≠ b := by
  intro e
  subst e
  rw [graphic_put n hn] at h; cases h
end Six
end Go.Proofs.YtjgodmfannhnhaaDoor
/- Words that serve all that draws: quiet calls, drawn worlds, answers. (Split off SixLeaf: no code of package six.) -/
namespace Go.Proofs.YtjgodmfannhnhaaDoor
open Go.RowKit
namespace Six
theorem quiet_same {P : Program} {f : FuncId} {args : Array Value} {w : World} {n : Nat} {v : Value}
    (h : Calls P f args (w.drewN n) fun e w' => e = .returned v ∧ w.drewN n = w') : Calls P f args (w.drewN n) fun e w'' => e = .returned v ∧ ∃ m, w'' = w.drewN m :=
  h.mono fun _ _ ⟨he, hm⟩ => ⟨he, n, hm.symm⟩
theorem below_drewN (B m : Nat) (w : World) : Below B w (w.drewN m) := by
  induction m with
  | zero => exact Below.refl _ _
  | succ m ih => exact ih.drew
theorem ret_i64 {a b : Int} (h : a = b) : Ending.returned (.int .i64 a) = .returned (.int .i64 b) := by rw [h]
theorem ret_put {a b : Int} (h : a = b) : Ending.returned (.tuple #[.int .u8 a, .nilIface]) = .returned (.tuple #[.int .u8 b, .nilIface]) := by rw [h]
theorem ofInt_8 (a : Nat) (ha : a < 256) : (BitVec.ofInt 8 (a : Int)).toNat = a := by
  rw [BitVec.ofInt_natCast, BitVec.toNat_ofNat]; exact Nat.mod_eq_of_lt (by omega)
theorem u8_or_nat (a b : Nat) (ha : a < 256) (hb : b < 256) : bits .or .u8 (a : Int) (b : Int) = ((a ||| b : Nat) : Int) := by
  have hx : a ||| b < 2 ^ 8 := Nat.or_lt_two_pow ha hb
  show IntKind.u8.wrap ((BitVec.ofInt 8 (a : Int) ||| BitVec.ofInt 8 (b : Int)).toNat : Int) = _
  rw [BitVec.toNat_or, ofInt_8 a ha, ofInt_8 b hb, IntWalk.u8_in]
  omega
theorem u8_and_nat (a b : Nat) (ha : a < 256) (hb : b < 256) : bits .and .u8 (a : Int) (b : Int) = ((a &&& b : Nat) : Int) := by
  have hx : a &&& b ≤ a := Nat.and_le_left
  show IntKind.u8.wrap ((BitVec.ofInt 8 (a : Int) &&& BitVec.ofInt 8 (b : Int)).toNat : Int) = _
  rw [BitVec.toNat_and, ofInt_8 a ha, ofInt_8 b hb, IntWalk.u8_in]
  omega
theorem put_bits (n : Nat) (hn : n < 64) : bits .or .u8 ((value (digits (2 * n)) : Int) * 16 % 256) (value (digits (2 * n + 1)) : Int) = (put n : Int) := by
  have h0 := value_lt (2 * n) (by omega)
  have h1 := value_lt (2 * n + 1) (by omega)
  have h2 := put_or n hn
  rw [show ((value (digits (2 * n)) : Int) * 16 % 256) = ((value (digits (2 * n)) * 16 : Nat) : Int) by omega, u8_or_nat _ _ (by omega) (by omega), h2]
theorem ret_u8 {a b : Int} (h : a = b) : Ending.returned (.int .u8 a) = .returned (.int .u8 b) := by rw [h]
end Six
namespace Att
theorem ret_bool {a b : Bool} (h : a = b) : Ending.returned (.bool a) = .returned (.bool b) := by rw [h]
end Att
end Go.Proofs.YtjgodmfannhnhaaDoor
/- Steps of a law's walk: what lay before lies behind a call (no handle: serves the plain seats too). -/
namespace Go.Proofs.YtjgodmfannhnhaaDoor
open Go.RowKit
namespace Err
theorem kept_trans {a b c : World} (h : Below a.heap.size a b) (k : Below b.heap.size b c) : Below a.heap.size a c := h.trans (k.mono h.size)
theorem kept_hid {a b c : World} (h : Hid (Below a.heap.size a b)) (k : Below b.heap.size b c) : Hid (Below a.heap.size a c) := kept_trans h k
theorem kept_draw {a b : World} (h : Hid (Below a.heap.size a b)) (m : Nat) : Hid (Below a.heap.size a (b.drewN m)) := kept_trans h (Six.below_drewN _ _ _)
theorem kept_alloc {a b : World} (h : Hid (Below a.heap.size a b)) (o : Obj) : Hid (Below a.heap.size a (b.alloc o)) := kept_trans h ((Below.refl _ _).alloc (Nat.le_refl _) _)
end Err
end Go.Proofs.YtjgodmfannhnhaaDoor
/- Rows and blocks of the call's own, whatever their elements, behind calls that make memory or change one block. -/
namespace Go.Proofs.YtjgodmfannhnhaaDoor
open Go.RowKit Sha
namespace Cut
theorem al_any (w : World) (o : Obj) : Below w.heap.size w (w.alloc o) := (Below.refl _ _).alloc (Nat.le_refl _) _
theorem own_below {w w1 : World} {base e size n : Nat} {v : Value} {xs : List Value} (h : w.ownsRow base e size v n xs) (hb : Below w.heap.size w w1) : w1.ownsRow base e size v n xs :=
  h.kept (gbelow hb none) (by cases hv : v.ownBlock <;> simp)
theorem own_ge {w : World} {base e size n : Nat} {v : Value} {xs : List Value} (h : w.ownsRow base e size v n xs) : ∀ k, v.ownBlock = some k → base ≤ k := by
  intro k hk
  rcases h.2 with ⟨rfl, _⟩ | ⟨g, cap, cur, rfl, hg, _⟩
  · simp [Value.ownBlock] at hk
  · simp [Value.ownBlock] at hk; omega
theorem own_ne {w : World} {base b e size n : Nat} {v : Value} {xs : List Value} (h : w.ownsRow base e size v n xs) (hb : b < base) : v.ownBlock ≠ some b := by
  intro hk; have := own_ge h b hk; omega
theorem own_other {w w1 : World} {base b e size n : Nat} {v : Value} {xs : List Value} (h : w.ownsRow base e size v n xs) (hg : w.grownBy w1 (some b)) (hb : b < base) : w1.ownsRow base e size v n xs :=
  h.kept hg (.inr (own_ne h hb))
theorem own_spot {w : World} {base e size n : Nat} {v : Value} {xs : List Value} (h : w.ownsRow base e size v n xs) : ∃ ad c, v = .slice ad n c ∧ (ad = none → n = 0 ∧ c = 0) ∧ ∀ a, ad = some a → a = ⟨a.block, 0, none⟩ ∧ base ≤ a.block ∧ a.block < w.heap.size := by
  rcases h.2 with ⟨rfl, h0⟩ | ⟨g, cap, cur, rfl, hg, hh, _⟩
  · exact ⟨none, 0, by rw [h0], fun _ => ⟨h0, rfl⟩, nofun⟩
  · refine ⟨_, cap, rfl, nofun, fun a ha => ?_⟩
    injection ha with ha
    subst ha
    refine ⟨rfl, hg, ?_⟩
    rcases Nat.lt_or_ge g w.heap.size with h' | h'
    · exact h'
    · simp [Array.getElem?_eq_none h'] at hh
theorem own_mono {w : World} {b base e size n : Nat} {v : Value} {xs : List Value} (h : w.ownsRow base e size v n xs) (hb : b ≤ base) : w.ownsRow b e size v n xs := by
  refine ⟨h.1, ?_⟩
  rcases h.2 with h0 | ⟨g, cap, cur, h1, h2, h3⟩
  · exact .inl h0
  · exact .inr ⟨g, cap, cur, h1, Nat.le_trans hb h2, h3⟩
theorem below_own {w a b : World} {v : Value} {e size n : Nat} {xs : List Value} (h : Below w.heap.size w a) (hg : a.grownBy b v.ownBlock) (ho : a.ownsRow w.heap.size e size v n xs) : Below w.heap.size w b :=
  h.grown hg h.size (own_ge ho)
theorem there_lt {w : World} {b : Nat} {x : Obj} (h : w.heap[b]? = some x) : b < w.heap.size := by
  rcases Nat.lt_or_ge b w.heap.size with h0 | h0
  · exact h0
  · simp [Array.getElem?_eq_none h0] at h
theorem blk {w w' : World} {B : Nat} {x : Obj} (g : w.heap[B]? = some x) (hb : Below w.heap.size w w') : w'.heap[B]? = some x := by
  have hB : B < w.heap.size := by
    rcases Nat.lt_or_ge B w.heap.size with h0 | h0
    · exact h0
    · simp [Array.getElem?_eq_none h0] at g
  exact (hb.block B hB).trans g
/-- A new block, behind another one and a call. -/
theorem blk2 {w w' : World} {x y : Obj} (hb : Below ((w.alloc x).alloc y).heap.size ((w.alloc x).alloc y) w') : w'.heap[w.heap.size]? = some x ∧ Below w.heap.size w w' :=
  ⟨blk (blk (heap_alloc_new w x) (al_any _ y)) hb, (al_any w x).trans (((al_any _ y).mono (by simp)).trans (hb.mono (by simp; omega)))⟩
theorem gnew {w a b : World} {r : Option Nat} {B : Nat} (h : w.grownBy a r) (hg : a.grownBy b (some B)) (hB : w.heap.size ≤ B) : w.grownBy b r :=
  ⟨hg.os.trans h.os, hg.tape.trans h.tape, hg.output.trans h.output, Nat.le_trans h.size hg.size, fun i hi hr => (hg.block i (Nat.lt_of_lt_of_le hi h.size) (by intro e; injection e with e; omega)).trans (h.block i hi hr)⟩
theorem galloc {w a : World} {r : Option Nat} (h : w.grownBy a r) (o : Obj) : w.grownBy (a.alloc o) r := gtrans h (gbelow (al_any a o) r)
theorem blk_g {w w' : World} {B : Nat} {x : Obj} {r : Option Nat} (g : w.heap[B]? = some x) (hg : w.grownBy w' r) (hB : some B ≠ r) : w'.heap[B]? = some x :=
  (hg.block B (there_lt g) hB).trans g
end Cut
namespace Apd
/-- The walk stops here: the goal is hidden. -/
theorem wpList_mark {ops : Array Oper} {rest : List Oper} {o : Oper} {a : Act} {Q : Exit → Act → World → Prop} {w : World} (h : Hid (wpList Tryd.prog ops Q (o :: rest) a w)) : wpList Tryd.prog ops Q (o :: rest) a w := h.out
theorem own_form {w : World} {base e size n : Nat} {v : Value} {xs : List Value} (h : w.ownsRow base e size v n xs) : ∃ ad c, v = .slice ad n c := by
  rcases h.2 with ⟨rfl, h0⟩ | ⟨g, cap, cur, rfl, _⟩
  · exact ⟨none, 0, by rw [h0]⟩
  · exact ⟨_, _, rfl⟩
end Apd
end Go.Proofs.YtjgodmfannhnhaaDoor
/- A struct's cells in a block of the call's own; a struct and another value as results. Plain laws, whatever program. -/
namespace Go.Proofs.YtjgodmfannhnhaaDoor
open Go.RowKit
namespace Err
theorem results_cell_row_tmp {fn : Func} {p u : Tmp} {ty : TypeId} (h : fn.results = #[.cell p ty, .tmp u]) (tmps : Array Value) (P : Program) (w : World) (g : Nat) (cs : Array Value)
    (hp : tmps.getD p undef = .pointer (some ⟨g, 0, none⟩)) (hl : (loadVar ty ⟨g, 0, none⟩).run P w = .ok (.agg cs) w) (x : Value) (hx : tmps.getD u undef = x) :
    (results fn tmps).run P w = .ok (.tuple #[.agg cs, x]) w := by
  subst hx
  have hp' : tmps[p]?.getD undef = .pointer (some ⟨g, 0, none⟩) := by simpa using hp
  rw [results_cell_tmp h]
  simp [hp', asAddr, hl, Result.andThen]
theorem drewN_below (B m : Nat) (w : World) : Below B w (w.drewN m) := by
  induction m with
  | zero => exact Below.refl _ _
  | succ m ih => exact ih.drew
theorem set3 (w : World) (m : Nat) (t : TypeId) (a0 a1 a2 u0 u1 u2 : Value) :
    (((((w.alloc (.cells #[a0, a1, a2] t)).drewN m).setCell ⟨w.heap.size, 0, none⟩ u0).setCell ⟨w.heap.size, 1, none⟩ u1).setCell ⟨w.heap.size, 2, none⟩ u2).heap[w.heap.size]? = some (.cells #[u0, u1, u2] t (0, 0))
    ∧ Below w.heap.size w (((((w.alloc (.cells #[a0, a1, a2] t)).drewN m).setCell ⟨w.heap.size, 0, none⟩ u0).setCell ⟨w.heap.size, 1, none⟩ u1).setCell ⟨w.heap.size, 2, none⟩ u2) := by
  have h : ((w.alloc (.cells #[a0, a1, a2] t)).drewN m).heap[w.heap.size]? = some (.cells #[a0, a1, a2] t (0, 0)) := by
    show (w.alloc (.cells #[a0, a1, a2] t)).heap[w.heap.size]? = _
    exact heap_alloc_new w _
  have h := heap_setCell_same _ w.heap.size 0 _ t u0 h
  have h := heap_setCell_same _ w.heap.size 1 _ t u1 h
  have h := heap_setCell_same _ w.heap.size 2 _ t u2 h
  refine ⟨h, ?_⟩
  have hb : Below w.heap.size w ((w.alloc (.cells #[a0, a1, a2] t)).drewN m) := ((Below.refl _ _).alloc (Nat.le_refl _) _).trans (drewN_below _ _ _)
  have hb := hb.setCell (p := ⟨w.heap.size, 0, none⟩) (Nat.le_refl _) u0
  have hb := hb.setCell (p := ⟨w.heap.size, 1, none⟩) (Nat.le_refl _) u1
  have hb := hb.setCell (p := ⟨w.heap.size, 2, none⟩) (Nat.le_refl _) u2
  exact hb
theorem set4 (w : World) (m : Nat) (t : TypeId) (a0 a1 a2 a3 u0 u1 u2 u3 : Value) :
    ((((((w.alloc (.cells #[a0, a1, a2, a3] t)).drewN m).setCell ⟨w.heap.size, 0, none⟩ u0).setCell ⟨w.heap.size, 1, none⟩ u1).setCell ⟨w.heap.size, 2, none⟩ u2).setCell ⟨w.heap.size, 3, none⟩ u3).heap[w.heap.size]? = some (.cells #[u0, u1, u2, u3] t (0, 0))
    ∧ Below w.heap.size w ((((((w.alloc (.cells #[a0, a1, a2, a3] t)).drewN m).setCell ⟨w.heap.size, 0, none⟩ u0).setCell ⟨w.heap.size, 1, none⟩ u1).setCell ⟨w.heap.size, 2, none⟩ u2).setCell ⟨w.heap.size, 3, none⟩ u3) := by
  have h : ((w.alloc (.cells #[a0, a1, a2, a3] t)).drewN m).heap[w.heap.size]? = some (.cells #[a0, a1, a2, a3] t (0, 0)) := by
    show (w.alloc (.cells #[a0, a1, a2, a3] t)).heap[w.heap.size]? = _
    exact heap_alloc_new w _
  have h := heap_setCell_same _ w.heap.size 0 _ t u0 h
  have h := heap_setCell_same _ w.heap.size 1 _ t u1 h
  have h := heap_setCell_same _ w.heap.size 2 _ t u2 h
  have h := heap_setCell_same _ w.heap.size 3 _ t u3 h
  refine ⟨h, ?_⟩
  have hb : Below w.heap.size w ((w.alloc (.cells #[a0, a1, a2, a3] t)).drewN m) := ((Below.refl _ _).alloc (Nat.le_refl _) _).trans (drewN_below _ _ _)
  have hb := hb.setCell (p := ⟨w.heap.size, 0, none⟩) (Nat.le_refl _) u0
  have hb := hb.setCell (p := ⟨w.heap.size, 1, none⟩) (Nat.le_refl _) u1
  have hb := hb.setCell (p := ⟨w.heap.size, 2, none⟩) (Nat.le_refl _) u2
  have hb := hb.setCell (p := ⟨w.heap.size, 3, none⟩) (Nat.le_refl _) u3
  exact hb
theorem over3 (w : World) (B : Nat) (t : TypeId) (a0 a1 a2 u0 u1 u2 : Value) (h : w.heap[B]? = some (.cells #[a0, a1, a2] t (0, 0))) :
    (((w.setCell ⟨B, 0, none⟩ u0).setCell ⟨B, 1, none⟩ u1).setCell ⟨B, 2, none⟩ u2).heap[B]? = some (.cells #[u0, u1, u2] t (0, 0)) ∧ Below B w (((w.setCell ⟨B, 0, none⟩ u0).setCell ⟨B, 1, none⟩ u1).setCell ⟨B, 2, none⟩ u2) := by
  have h := heap_setCell_same _ B 0 _ t u0 h
  have h := heap_setCell_same _ B 1 _ t u1 h
  have h := heap_setCell_same _ B 2 _ t u2 h
  refine ⟨h, ?_⟩
  have hb := Below.refl B w
  have hb := hb.setCell (p := ⟨B, 0, none⟩) (Nat.le_refl _) u0
  have hb := hb.setCell (p := ⟨B, 1, none⟩) (Nat.le_refl _) u1
  have hb := hb.setCell (p := ⟨B, 2, none⟩) (Nat.le_refl _) u2
  exact hb
theorem cells3 {w : World} {B : Nat} {t : TypeId} {a0 a1 a2 : Value} (h : w.heap[B]? = some (.cells #[a0, a1, a2] t (0, 0))) :
    w.cell? ⟨B, 0, none⟩ = some a0 ∧ w.cell? ⟨B, 1, none⟩ = some a1 ∧ w.cell? ⟨B, 2, none⟩ = some a2 :=
  ⟨cell_of_row _ _ 0 _ _ _ h, cell_of_row _ _ 1 _ _ _ h, cell_of_row _ _ 2 _ _ _ h⟩
theorem free3 {w : World} {B : Nat} {t : TypeId} {cs : Array Value} (h : w.heap[B]? = some (.cells cs t (0, 0))) :
    w.frozen? ⟨B, 0, none⟩ = false ∧ w.frozen? ⟨B, 1, none⟩ = false ∧ w.frozen? ⟨B, 2, none⟩ = false :=
  ⟨frozen_of_row _ _ 0 _ _ h, frozen_of_row _ _ 1 _ _ h, frozen_of_row _ _ 2 _ _ h⟩
theorem over4 (w : World) (B : Nat) (t : TypeId) (a0 a1 a2 a3 u0 u1 u2 u3 : Value) (h : w.heap[B]? = some (.cells #[a0, a1, a2, a3] t (0, 0))) :
    ((((w.setCell ⟨B, 0, none⟩ u0).setCell ⟨B, 1, none⟩ u1).setCell ⟨B, 2, none⟩ u2).setCell ⟨B, 3, none⟩ u3).heap[B]? = some (.cells #[u0, u1, u2, u3] t (0, 0)) ∧ Below B w ((((w.setCell ⟨B, 0, none⟩ u0).setCell ⟨B, 1, none⟩ u1).setCell ⟨B, 2, none⟩ u2).setCell ⟨B, 3, none⟩ u3) := by
  have h := heap_setCell_same _ B 0 _ t u0 h
  have h := heap_setCell_same _ B 1 _ t u1 h
  have h := heap_setCell_same _ B 2 _ t u2 h
  have h := heap_setCell_same _ B 3 _ t u3 h
  refine ⟨h, ?_⟩
  have hb := Below.refl B w
  have hb := hb.setCell (p := ⟨B, 0, none⟩) (Nat.le_refl _) u0
  have hb := hb.setCell (p := ⟨B, 1, none⟩) (Nat.le_refl _) u1
  have hb := hb.setCell (p := ⟨B, 2, none⟩) (Nat.le_refl _) u2
  have hb := hb.setCell (p := ⟨B, 3, none⟩) (Nat.le_refl _) u3
  exact hb
theorem cells4 {w : World} {B : Nat} {t : TypeId} {a0 a1 a2 a3 : Value} (h : w.heap[B]? = some (.cells #[a0, a1, a2, a3] t (0, 0))) :
    w.cell? ⟨B, 0, none⟩ = some a0 ∧ w.cell? ⟨B, 1, none⟩ = some a1 ∧ w.cell? ⟨B, 2, none⟩ = some a2 ∧ w.cell? ⟨B, 3, none⟩ = some a3 :=
  ⟨cell_of_row _ _ 0 _ _ _ h, cell_of_row _ _ 1 _ _ _ h, cell_of_row _ _ 2 _ _ _ h, cell_of_row _ _ 3 _ _ _ h⟩
theorem free4 {w : World} {B : Nat} {t : TypeId} {cs : Array Value} (h : w.heap[B]? = some (.cells cs t (0, 0))) :
    w.frozen? ⟨B, 0, none⟩ = false ∧ w.frozen? ⟨B, 1, none⟩ = false ∧ w.frozen? ⟨B, 2, none⟩ = false ∧ w.frozen? ⟨B, 3, none⟩ = false :=
  ⟨frozen_of_row _ _ 0 _ _ h, frozen_of_row _ _ 1 _ _ h, frozen_of_row _ _ 2 _ _ h, frozen_of_row _ _ 3 _ _ h⟩
theorem held3 {w1 w' : World} {B : Nat} {t : TypeId} {a0 a1 a2 : Value} (k : w1.heap[B]? = some (.cells #[a0, a1, a2] t (0, 0))) (h : Below w1.heap.size w1 w') :
    Below w1.heap.size w1 w' ∧ w'.cell? ⟨B, 0, none⟩ = some a0 ∧ w'.cell? ⟨B, 1, none⟩ = some a1 ∧ w'.cell? ⟨B, 2, none⟩ = some a2 := by
  have hB : B < w1.heap.size := by
    rcases Nat.lt_or_ge B w1.heap.size with h0 | h0
    · exact h0
    · simp [Array.getElem?_eq_none h0] at k
  exact ⟨h, cells3 ((h.block B hB).trans k)⟩
theorem held4 {w1 w' : World} {B : Nat} {t : TypeId} {a0 a1 a2 a3 : Value} (k : w1.heap[B]? = some (.cells #[a0, a1, a2, a3] t (0, 0))) (h : Below w1.heap.size w1 w') :
    Below w1.heap.size w1 w' ∧ w'.cell? ⟨B, 0, none⟩ = some a0 ∧ w'.cell? ⟨B, 1, none⟩ = some a1 ∧ w'.cell? ⟨B, 2, none⟩ = some a2 ∧ w'.cell? ⟨B, 3, none⟩ = some a3 := by
  have hB : B < w1.heap.size := by
    rcases Nat.lt_or_ge B w1.heap.size with h0 | h0
    · exact h0
    · simp [Array.getElem?_eq_none h0] at k
  exact ⟨h, cells4 ((h.block B hB).trans k)⟩
end Err
end Go.Proofs.YtjgodmfannhnhaaDoor
/- Lists of numbers by their members. -/
namespace Go.Proofs.YtjgodmfannhnhaaDoor
namespace Sam
theorem eq_of_getD {xs ys : List Nat} (hl : xs.length = ys.length) (h : ∀ i, i < xs.length → xs.getD i 0 = ys.getD i 0) : xs = ys := by
  apply List.ext_getElem hl
  intro i h1 h2
  have := h i h1
  simpa [List.getD_eq_getElem?_getD, h1, h2] using this
end Sam
end Go.Proofs.YtjgodmfannhnhaaDoor
/- What a literal of a kind can be. -/
namespace Go.Proofs.YtjgodmfannhnhaaDoor
open Go.RowKit
namespace Ord
theorem wf_u8 {c : Int} (h : (Lit.int .u8 c).wf = true) : 0 ≤ c ∧ c < 256 := by
  have h1 : IntKind.u8.min ≤ c ∧ c ≤ IntKind.u8.max := by simpa [Lit.wf] using h
  have h2 : IntKind.u8.min = 0 := by decide
  have h3 : IntKind.u8.max = 255 := by decide
  omega
theorem wf_u16 {c : Int} (h : (Lit.int .u16 c).wf = true) : 0 ≤ c ∧ c < 65536 := by
  have h1 : IntKind.u16.min ≤ c ∧ c ≤ IntKind.u16.max := by simpa [Lit.wf] using h
  have h2 : IntKind.u16.min = 0 := by decide
  have h3 : IntKind.u16.max = 65535 := by decide
  omega
end Ord
end Go.Proofs.YtjgodmfannhnhaaDoor
