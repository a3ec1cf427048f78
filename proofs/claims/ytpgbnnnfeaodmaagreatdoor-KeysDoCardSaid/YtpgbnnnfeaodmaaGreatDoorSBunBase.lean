/- Mem, Bytes, SixSpec, SixWord, Keep, Own, Append, CutB, Cells, ErrForm, Lit, Blk, EqD, Flip, OrdWf in one text (by tools/bundle.py). -/
import Derived.WalkKit
import Derived.Deep.MidRow
import Derived.Deep.Quiet
import Derived.Below
import Derived.OpenShut
import Derived.Test.YtpgbnnnfeaodmaaGreatDoorProg
import Derived.LaidEql
import Derived.RowKitTokens
import Derived.Lib.Hide
import Derived.Deep.QuietTactic
import Derived.BigQuiet
import Derived.IntWalk
import Derived.Laws.OwnMore
import Derived.OwnWalk
import Derived.Laws.AppendOwnNone
import Derived.Laws.ResultCell
import Derived.Laws.Rows
/- Small laws on memory and rows of numbers; no program is named here. -/
namespace Go.Proofs.YtpgbnnnfeaodmaaGreatDoor
open Go.RowKit
namespace Sha
def u8s (l : List Nat) : List Value := l.map fun (x : Nat) => .int .u8 (x : Int)
theorem u8s_at {l : List Nat} {i : Nat} (h : i < l.length) : (u8s l).toArray[i]? = some (.int .u8 ((l.getD i 0 : Nat) : Int)) := by
  simp [u8s, h]
theorem u8s_one (l : List Nat) : ∀ v ∈ u8s l, v.oneCell' = true := by intro v hv; simp [u8s] at hv; obtain ⟨x, _, rfl⟩ := hv; rfl
theorem u8s_length (l : List Nat) : (u8s l).length = l.length := by simp [u8s]
theorem gtrans {w w1 w2 : World} {r : Option Nat} (h : w.grownBy w1 r) (k : w1.grownBy w2 r) : w.grownBy w2 r :=
  ⟨k.os.trans h.os, k.tape.trans h.tape, k.output.trans h.output, Nat.le_trans h.size k.size, fun i hi hr => (k.block i (Nat.lt_of_lt_of_le hi h.size) hr).trans (h.block i hi hr)⟩
theorem grefl (w : World) (r : Option Nat) : w.grownBy w r := ⟨rfl, rfl, rfl, Nat.le_refl _, fun _ _ _ => rfl⟩
theorem gbelow {w w1 : World} (h : Below w.heap.size w w1) (r : Option Nat) : w.grownBy w1 r := ⟨h.os, h.tape, h.output, h.size, fun k hk _ => h.block k hk⟩
theorem belowg {w w1 : World} (h : w.grownBy w1 none) : Below w.heap.size w w1 := ⟨h.os, h.tape, h.output, h.size, fun k hk => h.block k hk (by simp)⟩
theorem gsetCell (w : World) (b i : Nat) (v : Value) : w.grownBy (w.setCell ⟨b, i, none⟩ v) (some b) :=
  ⟨rfl, rfl, rfl, by simp [World.setCell], fun k _ hr => heap_setCell_other w ⟨b, i, none⟩ k v (by intro e; exact hr (by rw [e]))⟩
theorem gsetCells (b : Nat) : ∀ (vs : List Value) (o : Nat) (w : World), w.grownBy (w.setCells b o vs) (some b)
  | [], _, _ => grefl _ _
  | v :: r, o, w => gtrans (gsetCell w b o v) (gsetCells b r (o + 1) _)
theorem heap_alloc3 (w : World) (A B C : Obj) : (((w.alloc A).alloc B).alloc C).heap[w.heap.size]? = some A ∧ (((w.alloc A).alloc B).alloc C).heap[w.heap.size + 1]? = some B ∧ (((w.alloc A).alloc B).alloc C).heap[w.heap.size + 2]? = some C := by
  have s1 : (w.alloc A).heap.size = w.heap.size + 1 := by show (w.heap.push A).size = _; simp
  have s2 : ((w.alloc A).alloc B).heap.size = w.heap.size + 2 := by show ((w.alloc A).heap.push B).size = _; simp [s1]
  refine ⟨?_, ?_, ?_⟩
  · rw [heap_alloc_old _ _ (by omega)]; exact heap_alloc2_old w A B
  · rw [heap_alloc_old _ _ (by omega)]; exact heap_alloc2_new w A B
  · have := heap_alloc_new ((w.alloc A).alloc B) C
    rwa [s2] at this
end Sha
end Go.Proofs.YtpgbnnnfeaodmaaGreatDoor
/- Slices of bytes in memory; no program is named here. -/
namespace Go.Proofs.YtpgbnnnfeaodmaaGreatDoor
open Go.RowKit
namespace Sha
def BytesIn (w : World) (v : Value) (xs : List Nat) : Prop :=
  ∃ ad cap, v = .slice ad xs.length cap ∧ xs.length ≤ cap ∧ (xs = [] ∨ ∃ g off, ad = some ⟨g, off, none⟩ ∧ ∀ j, j < xs.length → w.cell? ⟨g, off + j, none⟩ = some (.int .u8 ((xs.getD j 0 : Nat) : Int)))
theorem bytes_below {w w1 : World} {v : Value} {xs : List Nat} (h : BytesIn w v xs) (hb : Below w.heap.size w w1) : BytesIn w1 v xs := by
  obtain ⟨ad, cap, rfl, hcap, hc⟩ := h
  refine ⟨ad, cap, rfl, hcap, ?_⟩
  rcases hc with h0 | ⟨g, off, rfl, hc⟩
  · exact .inl h0
  · exact .inr ⟨g, off, rfl, fun j hj => (hb.cell (p := ⟨g, off + j, none⟩) (block_lt_of_cell (hc j hj))).trans (hc j hj)⟩
theorem spot_of_cell {w : World} {a : Addr} {v : Value} (h : w.cell? a = some v) : a = ⟨a.block, a.off, none⟩ := by
  obtain ⟨b, o, s⟩ := a
  cases s with
  | none => rfl
  | some s => simp [World.cell?] at h; split at h <;> simp at h
theorem byte_lt {l : List Nat} {N : Nat} (h : ∀ x ∈ l, x < N) (h0 : 0 < N) (i : Nat) : l.getD i 0 < N := by
  rcases Nat.lt_or_ge i l.length with hi | hi
  · rw [List.getD_eq_getElem?_getD, List.getElem?_eq_getElem hi]; exact h _ (List.getElem_mem hi)
  · rw [List.getD_eq_getElem?_getD, List.getElem?_eq_none hi]; exact h0
end Sha
end Go.Proofs.YtpgbnnnfeaodmaaGreatDoor
/- Plain: the graphic bytes of the numbers 0 to 63. -/
namespace Go.Proofs.YtpgbnnnfeaodmaaGreatDoor
namespace Six
def graphic : List Nat := [0x40, 0xc1, 0xc2, 0xc3, 0xc4, 0xc5, 0xc6, 0xc7, 0xc8, 0xc9, 0x4a, 0x4b, 0x4c, 0x4d, 0x4e, 0x4f, 0x50, 0xd1, 0xd2, 0xd3, 0xd4, 0xd5, 0xd6, 0xd7, 0xd8, 0xd9, 0x5a, 0x5b, 0x5c, 0x5d, 0x5e, 0x5f, 0x60, 0x61, 0xe2, 0xe3, 0xe4, 0xe5, 0xe6, 0xe7, 0xe8, 0xe9, 0x6a, 0x6b, 0x6c, 0x6d, 0x6e, 0x6f, 0xf0, 0xf1, 0xf2, 0xf3, 0xf4, 0xf5, 0xf6, 0xf7, 0xf8, 0xf9, 0x7a, 0x7b, 0x7c, 0x7d, 0x7e, 0x7f]
def put (n : Nat) : Nat := graphic.getD n 0
def sign (d : Nat) : Nat := if d < 10 then d + 48 else d + 87
def value (c : Nat) : Nat := if 97 ≤ c then c - 87 else c - 48
def digits (i : Nat) : Nat := sign (if i % 2 = 0 then put (i / 2) / 16 else put (i / 2) % 16)
theorem put_lt : ∀ n, n < 64 → put n < 256 := by decide
theorem digits_hex : ∀ i, i < 128 → (48 ≤ digits i ∧ digits i ≤ 57) ∨ (97 ≤ digits i ∧ digits i ≤ 102) := by decide
theorem value_lt : ∀ i, i < 128 → value (digits i) < 16 := by decide
theorem put_or : ∀ n, n < 64 → (value (digits (2 * n)) * 16) ||| value (digits (2 * n + 1)) = put n := by decide
end Six
end Go.Proofs.YtpgbnnnfeaodmaaGreatDoor
/- Words that serve all that draws: quiet calls, drawn worlds, answers. (Split off SixLeaf: no code of package six.) -/
namespace Go.Proofs.YtpgbnnnfeaodmaaGreatDoor
open Go.RowKit
namespace Six
theorem quiet_same {P : Program} {f : FuncId} {args : Array Value} {w : World} {n : Nat} {v : Value}
    (h : Calls P f args (w.drewN n) fun e w' => e = .returned v ∧ w.drewN n = w') : Calls P f args (w.drewN n) fun e w'' => e = .returned v ∧ ∃ m, w'' = w.drewN m :=
  h.mono fun _ _ ⟨he, hm⟩ => ⟨he, n, hm.symm⟩
theorem below_drewN (B m : Nat) (w : World) : Below B w (w.drewN m) := by
  induction m with
  | zero => exact Below.refl _ _
  | succ m ih => exact ih.drew
theorem ret_i64 {a b : Int} (h : a = b) : Ending.returned (.int .i64 a) = .returned (.int .i64 b) := by rw [h]
theorem ret_put {a b : Int} (h : a = b) : Ending.returned (.tuple #[.int .u8 a, .nilIface]) = .returned (.tuple #[.int .u8 b, .nilIface]) := by rw [h]
theorem ofInt_8 (a : Nat) (ha : a < 256) : (BitVec.ofInt 8 (a : Int)).toNat = a := by
  rw [BitVec.ofInt_natCast, BitVec.toNat_ofNat]; exact Nat.mod_eq_of_lt (by omega)
theorem u8_or_nat (a b : Nat) (ha : a < 256) (hb : b < 256) : bits .or .u8 (a : Int) (b : Int) = ((a ||| b : Nat) : Int) := by
  have hx : a ||| b < 2 ^ 8 := Nat.or_lt_two_pow ha hb
  show IntKind.u8.wrap ((BitVec.ofInt 8 (a : Int) ||| BitVec.ofInt 8 (b : Int)).toNat : Int) = _
  rw [BitVec.toNat_or, ofInt_8 a ha, ofInt_8 b hb, IntWalk.u8_in]
  omega
theorem put_bits (n : Nat) (hn : n < 64) : bits .or .u8 ((value (digits (2 * n)) : Int) * 16 % 256) (value (digits (2 * n + 1)) : Int) = (put n : Int) := by
  have h0 := value_lt (2 * n) (by omega)
  have h1 := value_lt (2 * n + 1) (by omega)
  have h2 := put_or n hn
  rw [show ((value (digits (2 * n)) : Int) * 16 % 256) = ((value (digits (2 * n)) * 16 : Nat) : Int) by omega, u8_or_nat _ _ (by omega) (by omega), h2]
theorem ret_u8 {a b : Int} (h : a = b) : Ending.returned (.int .u8 a) = .returned (.int .u8 b) := by rw [h]
end Six
namespace Att
theorem ret_bool {a b : Bool} (h : a = b) : Ending.returned (.bool a) = .returned (.bool b) := by rw [h]
end Att
end Go.Proofs.YtpgbnnnfeaodmaaGreatDoor
/- Steps of a law's walk: what lay before lies behind a call (no handle: serves the plain seats too). -/
namespace Go.Proofs.YtpgbnnnfeaodmaaGreatDoor
open Go.RowKit
namespace Err
theorem kept_trans {a b c : World} (h : Below a.heap.size a b) (k : Below b.heap.size b c) : Below a.heap.size a c := h.trans (k.mono h.size)
theorem kept_hid {a b c : World} (h : Hid (Below a.heap.size a b)) (k : Below b.heap.size b c) : Hid (Below a.heap.size a c) := kept_trans h k
theorem kept_alloc {a b : World} (h : Hid (Below a.heap.size a b)) (o : Obj) : Hid (Below a.heap.size a (b.alloc o)) := kept_trans h ((Below.refl _ _).alloc (Nat.le_refl _) _)
end Err
end Go.Proofs.YtpgbnnnfeaodmaaGreatDoor
/- Rows and blocks of the call's own, whatever their elements, behind calls that make memory or change one block. -/
namespace Go.Proofs.YtpgbnnnfeaodmaaGreatDoor
open Go.RowKit Sha
namespace Cut
theorem al_any (w : World) (o : Obj) : Below w.heap.size w (w.alloc o) := (Below.refl _ _).alloc (Nat.le_refl _) _
theorem own_below {w w1 : World} {base e size n : Nat} {v : Value} {xs : List Value} (h : w.ownsRow base e size v n xs) (hb : Below w.heap.size w w1) : w1.ownsRow base e size v n xs :=
  h.kept (gbelow hb none) (by cases hv : v.ownBlock <;> simp)
theorem own_ge {w : World} {base e size n : Nat} {v : Value} {xs : List Value} (h : w.ownsRow base e size v n xs) : ∀ k, v.ownBlock = some k → base ≤ k := by
  intro k hk
  rcases h.2 with ⟨rfl, _⟩ | ⟨g, cap, cur, rfl, hg, _⟩
  · simp [Value.ownBlock] at hk
  · simp [Value.ownBlock] at hk; omega
theorem own_ne {w : World} {base b e size n : Nat} {v : Value} {xs : List Value} (h : w.ownsRow base e size v n xs) (hb : b < base) : v.ownBlock ≠ some b := by
  intro hk; have := own_ge h b hk; omega
theorem own_spot {w : World} {base e size n : Nat} {v : Value} {xs : List Value} (h : w.ownsRow base e size v n xs) : ∃ ad c, v = .slice ad n c ∧ (ad = none → n = 0 ∧ c = 0) ∧ ∀ a, ad = some a → a = ⟨a.block, 0, none⟩ ∧ base ≤ a.block ∧ a.block < w.heap.size := by
  rcases h.2 with ⟨rfl, h0⟩ | ⟨g, cap, cur, rfl, hg, hh, _⟩
  · exact ⟨none, 0, by rw [h0], fun _ => ⟨h0, rfl⟩, nofun⟩
  · refine ⟨_, cap, rfl, nofun, fun a ha => ?_⟩
    injection ha with ha
    subst ha
    refine ⟨rfl, hg, ?_⟩
    rcases Nat.lt_or_ge g w.heap.size with h' | h'
    · exact h'
    · simp [Array.getElem?_eq_none h'] at hh
theorem own_mono {w : World} {b base e size n : Nat} {v : Value} {xs : List Value} (h : w.ownsRow base e size v n xs) (hb : b ≤ base) : w.ownsRow b e size v n xs := by
  refine ⟨h.1, ?_⟩
  rcases h.2 with h0 | ⟨g, cap, cur, h1, h2, h3⟩
  · exact .inl h0
  · exact .inr ⟨g, cap, cur, h1, Nat.le_trans hb h2, h3⟩
theorem below_own {w a b : World} {v : Value} {e size n : Nat} {xs : List Value} (h : Below w.heap.size w a) (hg : a.grownBy b v.ownBlock) (ho : a.ownsRow w.heap.size e size v n xs) : Below w.heap.size w b :=
  h.grown hg h.size (own_ge ho)
theorem there_lt {w : World} {b : Nat} {x : Obj} (h : w.heap[b]? = some x) : b < w.heap.size := by
  rcases Nat.lt_or_ge b w.heap.size with h0 | h0
  · exact h0
  · simp [Array.getElem?_eq_none h0] at h
theorem blk {w w' : World} {B : Nat} {x : Obj} (g : w.heap[B]? = some x) (hb : Below w.heap.size w w') : w'.heap[B]? = some x := by
  have hB : B < w.heap.size := by
    rcases Nat.lt_or_ge B w.heap.size with h0 | h0
    · exact h0
    · simp [Array.getElem?_eq_none h0] at g
  exact (hb.block B hB).trans g
theorem blk_g {w w' : World} {B : Nat} {x : Obj} {r : Option Nat} (g : w.heap[B]? = some x) (hg : w.grownBy w' r) (hB : some B ≠ r) : w'.heap[B]? = some x :=
  (hg.block B (there_lt g) hB).trans g
end Cut
namespace Apd
theorem wpList_mark {ops : Array Oper} {rest : List Oper} {o : Oper} {a : Act} {Q : Exit → Act → World → Prop} {w : World} (h : Hid (wpList Tryz.prog ops Q (o :: rest) a w)) : wpList Tryz.prog ops Q (o :: rest) a w := h.out
theorem own_form {w : World} {base e size n : Nat} {v : Value} {xs : List Value} (h : w.ownsRow base e size v n xs) : ∃ ad c, v = .slice ad n c := by
  rcases h.2 with ⟨rfl, h0⟩ | ⟨g, cap, cur, rfl, _⟩
  · exact ⟨none, 0, by rw [h0]⟩
  · exact ⟨_, _, rfl⟩
end Apd
end Go.Proofs.YtpgbnnnfeaodmaaGreatDoor
/- append of bytes to a slice of the call's own. -/
namespace Go.Proofs.YtpgbnnnfeaodmaaGreatDoor
open Go.RowKit
namespace Apd
open Sha
theorem info8 : (Tryz.prog.info? 5).map (fun i => (i.zero, i.size, i.bytes)) = some (some (.int .u8 0), 1, 1) := by kernel_rfl
theorem append_own {ops : Array Oper} {rest : List Oper} {o : Oper} {a : Act} {Q : Exit → Act → World → Prop} {w : World} (hgd : o.guard = none) (s x : Operand)
    (ho : o.op = .call { callee := .builtin .append, args := #[s, x], argTypes := #[128, 128] }) (base : Nat) (v : Value) (n : Nat) (xs : List Value) (hs : a.eval s = v) (hown : w.ownsRow base 5 1 v n xs)
    (ao : Option Addr) (m c : Nat) (news : List Nat) (hx : a.eval x = .slice ao m c) (hl : news.length = m) (hnone : ao = none → m = 0 ∧ c = 0)
    (hnews : ∀ ad, ao = some ad → ∀ j u, (u8s news)[j]? = some u → w.cell? (ad.add j) = some u) (h63 : n + m < 100000000000) (hbase : base ≤ w.heap.size)
    (h : ∀ v' w', w'.ownsRow base 5 1 v' (n + m) (xs ++ u8s news) → w.grownBy w' v.ownBlock → (v' = .slice none 0 0 ↔ v = .slice none 0 0 ∧ m = 0) → wpList Tryz.prog ops Q rest (a.put o.dst v') w') : wpList Tryz.prog ops Q (o :: rest) a w := by
  obtain ⟨i0, hi, hz0, hz1, hz2⟩ := info_parts info8
  cases ao with
  | none =>
    obtain ⟨rfl, rfl⟩ := hnone rfl
    have hn : news = [] := List.eq_nil_of_length_eq_zero hl
    subst hn
    exact wpList_append_own_none hgd s x 128 ho base 5 i0 1 Tryz.underlying128 hi v n xs hs hown hx (h v w (by simpa [u8s] using hown) (grefl _ _) (by simp))
  | some ad =>
    exact wpList_append_own _ hgd s x 128 ho base 5 i0 (.int .u8 0) 1 1 Tryz.underlying128 hi hz0 hz1 hz2 rfl (by decide) v n xs hs hown ad m c (u8s news) hx (by rw [u8s_length, hl, Nat.mul_one]) (hnews ad rfl) (u8s_one _) (by unfold maxLen; omega) (by omega) hbase h
theorem bytes_src {w : World} {ao : Option Addr} {len cap : Nat} {xs : List Nat} (h : BytesIn w (.slice ao len cap) xs) : ∀ ad, ao = some ad → ∀ j u, (u8s xs)[j]? = some u → w.cell? (ad.add j) = some u := by
  intro ad hA j u hj
  have hjl : j < xs.length := by
    rcases Nat.lt_or_ge j xs.length with h' | h'
    · exact h'
    · rw [List.getElem?_eq_none (by rw [u8s_length]; exact h')] at hj; cases hj
  obtain ⟨ad2, cap2, hv, _, hc⟩ := h
  injection hv with h1 h2 h3
  subst h1
  rcases hc with h0 | ⟨g, off, hg, hc⟩
  · rw [h0] at hjl; simp at hjl
  · rw [hA] at hg
    injection hg with hg
    rw [hg, Addr.add_mid, hc j hjl, ← hj]
    have e := u8s_at hjl
    rw [List.getElem?_toArray] at e
    exact e.symm
end Apd
end Go.Proofs.YtpgbnnnfeaodmaaGreatDoor
/- Slices of bytes that are cut: what is left of them, and what the walk's own operation says. (No hash is needed.) -/
namespace Go.Proofs.YtpgbnnnfeaodmaaGreatDoor
open Go.RowKit Sha
namespace Cut
theorem own_bytes {w : World} {base n : Nat} {v : Value} {m : List Nat} (h : w.ownsRow base 5 1 v n (u8s m)) : BytesIn w v m := by
  have hl : m.length = n := by have := h.1; rwa [u8s_length, Nat.mul_one] at this
  subst hl
  rcases h.2 with ⟨rfl, h0⟩ | ⟨g, cap, cur, rfl, _, hh, hnc, _, _, htk⟩
  · exact ⟨none, 0, by rw [h0], by omega, .inl (List.eq_nil_of_length_eq_zero h0)⟩
  · refine ⟨_, cap, rfl, hnc, .inr ⟨g, 0, rfl, fun j hj => ?_⟩⟩
    rw [cell_of_row w g (0 + j) cur _ _ hh, Nat.zero_add]
    have e := u8s_at hj
    rw [List.getElem?_toArray, ← htk, List.getElem?_take, if_pos (by omega)] at e
    simpa using e
end Cut
end Go.Proofs.YtpgbnnnfeaodmaaGreatDoor
/- A struct's cells in a block of the call's own; a struct and another value as results. Plain laws, whatever program. -/
namespace Go.Proofs.YtpgbnnnfeaodmaaGreatDoor
open Go.RowKit
namespace Err
theorem results_cell_row_tmp {fn : Func} {p u : Tmp} {ty : TypeId} (h : fn.results = #[.cell p ty, .tmp u]) (tmps : Array Value) (P : Program) (w : World) (g : Nat) (cs : Array Value)
    (hp : tmps.getD p undef = .pointer (some ⟨g, 0, none⟩)) (hl : (loadVar ty ⟨g, 0, none⟩).run P w = .ok (.agg cs) w) (x : Value) (hx : tmps.getD u undef = x) :
    (results fn tmps).run P w = .ok (.tuple #[.agg cs, x]) w := by
  subst hx
  have hp' : tmps[p]?.getD undef = .pointer (some ⟨g, 0, none⟩) := by simpa using hp
  rw [results_cell_tmp h]
  simp [hp', asAddr, hl, Result.andThen]
theorem over4 (w : World) (B : Nat) (t : TypeId) (a0 a1 a2 a3 u0 u1 u2 u3 : Value) (h : w.heap[B]? = some (.cells #[a0, a1, a2, a3] t (0, 0))) :
    ((((w.setCell ⟨B, 0, none⟩ u0).setCell ⟨B, 1, none⟩ u1).setCell ⟨B, 2, none⟩ u2).setCell ⟨B, 3, none⟩ u3).heap[B]? = some (.cells #[u0, u1, u2, u3] t (0, 0)) ∧ Below B w ((((w.setCell ⟨B, 0, none⟩ u0).setCell ⟨B, 1, none⟩ u1).setCell ⟨B, 2, none⟩ u2).setCell ⟨B, 3, none⟩ u3) := by
  have h := heap_setCell_same _ B 0 _ t u0 h
  have h := heap_setCell_same _ B 1 _ t u1 h
  have h := heap_setCell_same _ B 2 _ t u2 h
  have h := heap_setCell_same _ B 3 _ t u3 h
  refine ⟨h, ?_⟩
  have hb := Below.refl B w
  have hb := hb.setCell (p := ⟨B, 0, none⟩) (Nat.le_refl _) u0
  have hb := hb.setCell (p := ⟨B, 1, none⟩) (Nat.le_refl _) u1
  have hb := hb.setCell (p := ⟨B, 2, none⟩) (Nat.le_refl _) u2
  have hb := hb.setCell (p := ⟨B, 3, none⟩) (Nat.le_refl _) u3
  exact hb
theorem cells4 {w : World} {B : Nat} {t : TypeId} {a0 a1 a2 a3 : Value} (h : w.heap[B]? = some (.cells #[a0, a1, a2, a3] t (0, 0))) :
    w.cell? ⟨B, 0, none⟩ = some a0 ∧ w.cell? ⟨B, 1, none⟩ = some a1 ∧ w.cell? ⟨B, 2, none⟩ = some a2 ∧ w.cell? ⟨B, 3, none⟩ = some a3 :=
  ⟨cell_of_row _ _ 0 _ _ _ h, cell_of_row _ _ 1 _ _ _ h, cell_of_row _ _ 2 _ _ _ h, cell_of_row _ _ 3 _ _ _ h⟩
theorem free4 {w : World} {B : Nat} {t : TypeId} {cs : Array Value} (h : w.heap[B]? = some (.cells cs t (0, 0))) :
    w.frozen? ⟨B, 0, none⟩ = false ∧ w.frozen? ⟨B, 1, none⟩ = false ∧ w.frozen? ⟨B, 2, none⟩ = false ∧ w.frozen? ⟨B, 3, none⟩ = false :=
  ⟨frozen_of_row _ _ 0 _ _ h, frozen_of_row _ _ 1 _ _ h, frozen_of_row _ _ 2 _ _ h, frozen_of_row _ _ 3 _ _ h⟩
end Err
end Go.Proofs.YtpgbnnnfeaodmaaGreatDoor
/- How errors lie in memory: a number, a Spot that wraps one, however many Spots. (No errors.As is needed.) -/
namespace Go.Proofs.YtpgbnnnfeaodmaaGreatDoor
open Go.RowKit
namespace Err
structure SpotAt (w : World) (b : Nat) (n k : Int) : Prop where
  at0 : w.cell? ⟨b, 0, none⟩ = some (.int .i64 n)
  at1 : w.cell? ⟨b, 1, none⟩ = some (.iface 48 (.int .i64 k))
theorem SpotAt.pos {w : World} {b : Nat} {n k : Int} (h : SpotAt w b n k) : b < w.heap.size := by
  rcases Nat.lt_or_ge b w.heap.size with h0 | h0
  · exact h0
  · have := h.at0; simp [World.cell?, Array.getElem?_eq_none h0] at this
theorem SpotAt.below {w w' : World} {b B : Nat} {n k : Int} (h : SpotAt w b n k) (hB : b < B) (hb : Below B w w') : SpotAt w' b n k :=
  ⟨(hb.cell (p := ⟨b, 0, none⟩) hB).trans h.at0, (hb.cell (p := ⟨b, 1, none⟩) hB).trans h.at1⟩
def Chain (w : World) (k : Int) : Nat → Value → Prop
  | 0, v => v = .iface 48 (.int .i64 k)
  | d + 1, v => ∃ (b : Nat) (n : Int) (u : Value), v = .iface 59 (.pointer (some ⟨b, 0, none⟩)) ∧ w.cell? ⟨b, 0, none⟩ = some (.int .i64 n) ∧ w.cell? ⟨b, 1, none⟩ = some u ∧ Chain w k d u
theorem block_lt {w : World} {b o : Nat} {v : Value} (h : w.cell? ⟨b, o, none⟩ = some v) : b < w.heap.size := by
  rcases Nat.lt_or_ge b w.heap.size with h0 | h0
  · exact h0
  · simp [World.cell?, Array.getElem?_eq_none h0] at h
theorem Chain.keep {w w' : World} {k : Int} (hk : ∀ b o v, w.cell? ⟨b, o, none⟩ = some v → w'.cell? ⟨b, o, none⟩ = some v) : ∀ {d : Nat} {v : Value}, Chain w k d v → Chain w' k d v
  | 0, _, h => h
  | _ + 1, _, ⟨b, n, u, h1, h2, h3, h4⟩ => ⟨b, n, u, h1, hk _ _ _ h2, hk _ _ _ h3, Chain.keep hk h4⟩
theorem Chain.below {w w' : World} {k : Int} {d : Nat} {v : Value} (h : Chain w k d v) (hb : Below w.heap.size w w') : Chain w' k d v :=
  h.keep fun b o _ hu => (hb.cell (p := ⟨b, o, none⟩) (block_lt hu)).trans hu
theorem Chain.form {w : World} {k : Int} : ∀ {d : Nat} {v : Value}, Chain w k d v → (d = 0 ∧ v = .iface 48 (.int .i64 k)) ∨ ∃ b, v = .iface 59 (.pointer (some ⟨b, 0, none⟩))
  | 0, _, h => .inl ⟨rfl, h⟩
  | _ + 1, _, ⟨b, _, _, h1, _⟩ => .inr ⟨b, h1⟩
def Told (w : World) (ev : Value) (code wh : Int) : Prop :=
  (ev = .nilIface ∧ code = 0 ∧ wh = -1) ∨ (ev = .iface 48 (.int .i64 code) ∧ wh = -1) ∨
  ∃ (d b : Nat), ev = .iface 59 (.pointer (some ⟨b, 0, none⟩)) ∧ w.cell? ⟨b, 0, none⟩ = some (.int .i64 wh) ∧ Chain w code (d + 1) ev
theorem Told.below {w w' : World} {ev : Value} {c n : Int} (h : Told w ev c n) (hb : Below w.heap.size w w') : Told w' ev c n := by
  rcases h with h | h | ⟨d, b, h1, h2, h3⟩
  · exact .inl h
  · exact .inr (.inl h)
  · exact .inr (.inr ⟨d, b, h1, (hb.cell (p := ⟨b, 0, none⟩) (block_lt h2)).trans h2, h3.below hb⟩)
theorem Told.keep {w w' : World} {ev : Value} {c n : Int} (h : Told w ev c n) (hk : ∀ b o v, w.cell? ⟨b, o, none⟩ = some v → w'.cell? ⟨b, o, none⟩ = some v) : Told w' ev c n := by
  rcases h with h | h | ⟨d, b, h1, h2, h3⟩
  · exact .inl h
  · exact .inr (.inl h)
  · exact .inr (.inr ⟨d, b, h1, hk _ _ _ h2, h3.keep hk⟩)
end Err
end Go.Proofs.YtpgbnnnfeaodmaaGreatDoor
/- Rows of bytes that a call has made: literals, a lower base, worlds that have grown by them. -/
namespace Go.Proofs.YtpgbnnnfeaodmaaGreatDoor
open Go.RowKit Sha Apd
namespace Cut
theorem lit_in (w : World) (l : List Nat) : BytesIn (w.alloc (.cells (u8s l).toArray 5)) (.slice (some ⟨w.heap.size, 0, none⟩) l.length l.length) l := by
  refine ⟨_, _, rfl, Nat.le_refl _, .inr ⟨w.heap.size, 0, rfl, fun j hj => ?_⟩⟩
  rw [cell_of_row _ _ (0 + j) _ _ _ (heap_alloc_new w _), Nat.zero_add]
  exact u8s_at hj
theorem own_lit (w : World) (base : Nat) (l : List Nat) (hb : base ≤ w.heap.size) (hl : l.length < 1000000) : (w.alloc (.cells (u8s l).toArray 5)).ownsRow base 5 1 (.slice (some ⟨w.heap.size, 0, none⟩) l.length l.length) l.length (u8s l) := by
  have := World.ownsRow_lit (base := base) (e := 5) (size := 1) w (u8s l).toArray l.length hb (by unfold maxLen; omega) (by simp [u8s])
  simpa using this
theorem own_nil {w : World} {base n : Nat} {ad : Option Addr} {c : Nat} {m : List Nat} (h : w.ownsRow base 5 1 (.slice ad n c) n (u8s m)) : ad = none → n = 0 ∧ c = 0 := by
  obtain ⟨_, _, hv, hn, _⟩ := own_spot h
  injection hv with e1 _ e3
  subst e1 e3
  exact hn
theorem two_in {w : World} {T x y : Nat} {t : TypeId} (h : w.heap[T]? = some (.cells #[.int .u8 (x : Int), .int .u8 (y : Int)] t (0, 0))) : BytesIn w (.slice (some ⟨T, 0, none⟩) 2 2) [x, y] := by
  refine ⟨_, _, rfl, Nat.le_refl _, .inr ⟨T, 0, rfl, fun j hj => ?_⟩⟩
  have hj2 : j = 0 ∨ j = 1 := by simp at hj; omega
  rcases hj2 with rfl | rfl
  · exact cell_of_row _ _ 0 _ _ _ h
  · exact cell_of_row _ _ 1 _ _ _ h
end Cut
end Go.Proofs.YtpgbnnnfeaodmaaGreatDoor
/- Blocks that are known whole, behind calls that make memory or change one block. -/
namespace Go.Proofs.YtpgbnnnfeaodmaaGreatDoor
open Go.RowKit Sha
namespace Cut
theorem cells8 {w : World} {B : Nat} {t : TypeId} {a0 a1 a2 a3 a4 a5 a6 a7 : Value} (h : w.heap[B]? = some (.cells #[a0, a1, a2, a3, a4, a5, a6, a7] t (0, 0))) :
    w.cell? ⟨B, 0, none⟩ = some a0 ∧ w.cell? ⟨B, 1, none⟩ = some a1 ∧ w.cell? ⟨B, 2, none⟩ = some a2 ∧ w.cell? ⟨B, 3, none⟩ = some a3 ∧ w.cell? ⟨B, 4, none⟩ = some a4 ∧ w.cell? ⟨B, 5, none⟩ = some a5 ∧ w.cell? ⟨B, 6, none⟩ = some a6 ∧ w.cell? ⟨B, 7, none⟩ = some a7 :=
  ⟨cell_of_row _ _ 0 _ _ _ h, cell_of_row _ _ 1 _ _ _ h, cell_of_row _ _ 2 _ _ _ h, cell_of_row _ _ 3 _ _ _ h, cell_of_row _ _ 4 _ _ _ h, cell_of_row _ _ 5 _ _ _ h, cell_of_row _ _ 6 _ _ _ h, cell_of_row _ _ 7 _ _ _ h⟩
theorem held8 {w1 w' : World} {B : Nat} {t : TypeId} {a0 a1 a2 a3 a4 a5 a6 a7 : Value} (k : w1.heap[B]? = some (.cells #[a0, a1, a2, a3, a4, a5, a6, a7] t (0, 0))) (h : Below w1.heap.size w1 w') :
    Below w1.heap.size w1 w' ∧ w'.cell? ⟨B, 0, none⟩ = some a0 ∧ w'.cell? ⟨B, 1, none⟩ = some a1 ∧ w'.cell? ⟨B, 2, none⟩ = some a2 ∧ w'.cell? ⟨B, 3, none⟩ = some a3 ∧ w'.cell? ⟨B, 4, none⟩ = some a4 ∧ w'.cell? ⟨B, 5, none⟩ = some a5 ∧ w'.cell? ⟨B, 6, none⟩ = some a6 ∧ w'.cell? ⟨B, 7, none⟩ = some a7 := ⟨h, cells8 (blk k h)⟩
end Cut
end Go.Proofs.YtpgbnnnfeaodmaaGreatDoor
/- Lists of numbers by their members. -/
namespace Go.Proofs.YtpgbnnnfeaodmaaGreatDoor
namespace Sam
theorem eq_of_getD {xs ys : List Nat} (hl : xs.length = ys.length) (h : ∀ i, i < xs.length → xs.getD i 0 = ys.getD i 0) : xs = ys := by
  apply List.ext_getElem hl
  intro i h1 h2
  have := h i h1
  simpa [List.getD_eq_getElem?_getD, h1, h2] using this
end Sam
end Go.Proofs.YtpgbnnnfeaodmaaGreatDoor
/- Bytes of a row of the call's own, flipped one behind the other. -/
namespace Go.Proofs.YtpgbnnnfeaodmaaGreatDoor
open Go.RowKit Sha
namespace Cut
theorem own_blocks {w : World} {base e size n c : Nat} {ad : Option Addr} {xs : List Value} (h : w.ownsRow base e size (.slice ad n c) n xs) : ∀ a, ad = some a → base ≤ a.block ∧ a.block < w.heap.size := by
  obtain ⟨_, _, hv, _, hs⟩ := own_spot h
  injection hv with e1 _ _
  subst e1
  exact fun a ha => (hs a ha).2
end Cut
end Go.Proofs.YtpgbnnnfeaodmaaGreatDoor
/- What a literal of a kind can be. -/
namespace Go.Proofs.YtpgbnnnfeaodmaaGreatDoor
open Go.RowKit
namespace Ord
theorem wf_u8 {c : Int} (h : (Lit.int .u8 c).wf = true) : 0 ≤ c ∧ c < 256 := by
  have h1 : IntKind.u8.min ≤ c ∧ c ≤ IntKind.u8.max := by simpa [Lit.wf] using h
  have h2 : IntKind.u8.min = 0 := by decide
  have h3 : IntKind.u8.max = 255 := by decide
  omega
end Ord
end Go.Proofs.YtpgbnnnfeaodmaaGreatDoor
