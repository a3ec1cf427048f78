/- FrmByt, FrmArg, FrmMem, FrmBits, FrmUtl in one text (by tools/bundle.py). -/
import Derived.Test.YtoiidedigbfnaaaDoorBunBase
import Derived.Deep.Cut
import Derived.Deep.LoopGhost
import Derived.Deep.RegionLaw
import Derived.Deep.RegionHeld3
import Derived.IntWalk
import Derived.Lib.SlBytesConst
import Derived.Lib.SmallJoins
import Derived.Test.YtoiidedigbfnaaaDoorBunShp
/- Slices of bytes; an error's value. Written by tools/gen_frm_laws.py. -/
namespace Go.Proofs.YtoiidedigbfnaaaDoor
open Go.RowKit Sha Six Apd Cut Err
set_option linter.unusedVariables false
set_option linter.unusedSimpArgs false
namespace Frm
/-- A slice of these bytes. -/
structure Byts (w : World) (a : Option Addr) (c : Nat) (xs : List Nat) : Prop where
  at_ : BytesIn w (.slice a xs.length c) xs
  small : ∀ x ∈ xs, x < 256
  nil : a = none → xs.length = 0 ∧ c = 0
theorem Byts.below {w w' : World} {a : Option Addr} {c : Nat} {xs : List Nat} (h : Byts w a c xs) (hb : Below w.heap.size w w') : Byts w' a c xs := ⟨bytes_below h.at_ hb, h.small, h.nil⟩
theorem byts_row {w : World} {a : Option Addr} {len cap : Nat} {zs : List Int} (h : IsRow .u8 w a len cap zs) : ∃ xs : List Nat, len = xs.length ∧ Byts w a cap xs := by
  obtain ⟨xs, h1, h2, h3⟩ := isRow_bytes h
  subst h1
  refine ⟨xs, rfl, h3, h2, fun e => ?_⟩
  rcases h with ⟨_, h4, h5, _⟩ | ⟨x, h4, _⟩
  · exact ⟨h4, h5⟩
  · rw [e] at h4; cases h4
theorem byts_own {w : World} {base c : Nat} {a : Option Addr} {xs : List Nat} (h : w.ownsRow base 5 1 (.slice a xs.length c) xs.length (u8s xs)) (h8 : ∀ x ∈ xs, x < 256) : Byts w a c xs := ⟨own_bytes h, h8, own_nil h⟩
theorem own_at3 {w : World} {base n i : Nat} {va : Option Addr} {vc : Nat} {m : List Nat} (h : w.ownsRow base 5 1 (.slice va n vc) n (u8s m)) (hi : i < n) : ∃ (g : Nat) (x0 : Unit), va = some ⟨g, 0, none⟩ ∧ g < w.heap.size ∧ w.cell? ⟨g, i, none⟩ = some (.int .u8 ((m.getD i 0 : Nat) : Int)) ∧ w.frozen? ⟨g, i, none⟩ = false := by
  have hl := h.1
  rw [u8s_length, Nat.mul_one] at hl
  rcases h.2 with ⟨_, h0⟩ | ⟨g, cap, cur, hv, hg, hcur, h1, h2, h3, h4⟩
  · omega
  · injection hv with e1 e2 e3
    subst e1
    refine ⟨g, (), rfl, there_lt hcur, ?_, frozen_of_row w g i cur _ hcur⟩
    have hj : (u8s m)[i]? = some (.int .u8 ((m.getD i 0 : Nat) : Int)) := by
      unfold u8s
      rw [List.getElem?_map, List.getElem?_eq_getElem (by omega), List.getD_eq_getElem?_getD, List.getElem?_eq_getElem (by omega)]
      rfl
    rw [← h4, List.getElem?_take_of_lt (by omega)] at hj
    rw [cell_of_row w g i cur _ (0, 0) hcur, ← Array.getElem?_toList]
    exact hj
/-- The error of this number (0: nil). -/
def errn (code : Nat) : Value := if code = 0 then .nilIface else .iface 56 (.int .i64 (code : Int))
theorem errn_0 : errn 0 = .nilIface := rfl
/-- Bytes and the error of this number, new memory. -/
def GaveS (w w' : World) (bs : List Nat) (code : Nat) (e : Ending) : Prop := ∃ va vc, e = .returned (.tuple #[.slice va bs.length vc, errn code]) ∧ w'.ownsRow w.heap.size 5 1 (.slice va bs.length vc) bs.length (u8s bs) ∧ Below w.heap.size w w'
theorem byts_nil (w : World) : Byts w none 0 [] := ⟨⟨none, 0, rfl, Nat.le_refl _, .inl rfl⟩, nofun, fun _ => ⟨rfl, rfl⟩⟩
end Frm
end Go.Proofs.YtoiidedigbfnaaaDoor
/- Arguments that are bytes; answers. Written by tools/gen_frm_laws.py. -/
namespace Go.Proofs.YtoiidedigbfnaaaDoor
open Go.RowKit Sha Six Apd Cut Err
set_option linter.unusedVariables false
set_option linter.unusedSimpArgs false
namespace Frm
/-- A frame and the error of this number, new memory. -/
def GaveF (w w' : World) (f : F) (code : Nat) (e : Ending) : Prop := ∃ va vc, e = .returned (.tuple #[.agg #[.int .i64 f.d, .int .i64 f.q, .slice va f.b.length vc], errn code]) ∧ w'.ownsRow w.heap.size 5 1 (.slice va f.b.length vc) f.b.length (u8s f.b) ∧ Below w.heap.size w w'
/-- What Seal answers. -/
def sealB (k : List Nat) (f : F) : List Nat := if wrong f = 0 then seal_ k f else []
theorem sealB_small {f : F} (k : List Nat) (hb : ∀ x ∈ f.b, x < 256) : ∀ x ∈ sealB k f, x < 256 := by
  unfold sealB
  split
  · rename_i h; exact seal_small k (wrong_ok h).1 hb
  · simp
theorem sealB_len (k : List Nat) (f : F) : (sealB k f).length < 1000 := by
  unfold sealB
  split
  · rename_i h; rw [seal_len]; have := (wrong_ok h).2.2.2; omega
  · simp
theorem open_small {k b : List Nat} {dir : Int} (h8 : ∀ x ∈ b, x < 256) : ∀ x ∈ (open_ k dir b).1.b, x < 256 := by
  intro x hx
  unfold open_ at hx
  split at hx
  · simp [none_] at hx
  split at hx
  · simp [none_] at hx
  split at hx
  · simp [none_] at hx
  split at hx
  · simp [none_] at hx
  split at hx
  · simp [none_] at hx
  exact h8 x (List.mem_of_mem_take (List.mem_of_mem_drop hx))
theorem open_len (k b : List Nat) (dir : Int) : (open_ k dir b).1.b.length ≤ b.length := by
  unfold open_
  split
  · simp [none_]
  split
  · simp [none_]
  split
  · simp [none_]
  split
  · simp [none_]
  split
  · simp [none_]
  simp only [List.length_drop, List.length_take]; omega
theorem open_none {k b : List Nat} {dir : Int} (h : (open_ k dir b).2 ≠ 0) : (open_ k dir b).1 = none_ := by
  unfold open_ at h ⊢
  split
  · rfl
  · split
    · rfl
    · split
      · rfl
      · split
        · rfl
        · split
          · rfl
          · rename_i h1 h2 h3 h4 h5
            rw [if_neg h1, if_neg h2, if_neg h3, if_neg h4, if_neg h5] at h
            exact absurd rfl h
end Frm
end Go.Proofs.YtoiidedigbfnaaaDoor
/- Bytes of a frame's number. Written by tools/gen_frm_ref.py. -/
namespace Go.Proofs.YtoiidedigbfnaaaDoor
open Go.RowKit Sha Six Apd Cut Err
set_option linter.unusedVariables false
namespace Frm
theorem be8_at (n : Nat) : ∀ k, k < 8 → (be8 n).getD (7 - k) 0 = n / 2 ^ (8 * k) % 256
  | 0, _ => by simp [be8] | 1, _ => rfl | 2, _ => rfl | 3, _ => rfl | 4, _ => rfl | 5, _ => rfl | 6, _ => rfl | 7, _ => rfl
  | k + 8, h => by omega
theorem be8_take (n : Nat) {k : Nat} (hk : k < 8) : (be8 n).take (8 - k) = (be8 n).take (8 - (k + 1)) ++ [n / 2 ^ (8 * k) % 256] := by
  have h : 8 - (k + 1) < (be8 n).length := by rw [be8_len]; omega
  have e : 8 - k = (8 - (k + 1)) + 1 := by omega
  rw [e, List.take_add_one, List.getElem?_eq_getElem h]
  have h2 := be8_at n k hk
  rw [show 7 - k = 8 - (k + 1) by omega, List.getD_eq_getElem?_getD, List.getElem?_eq_getElem h] at h2
  simp only [Option.getD_some] at h2
  rw [h2]
  rfl
end Frm
end Go.Proofs.YtoiidedigbfnaaaDoor
/- Plain: a number's bits joined. Written by tools/gen_frm_code.py. -/
namespace Go.Proofs.YtoiidedigbfnaaaDoor
open Go.RowKit
set_option linter.unusedVariables false
set_option linter.unusedSimpArgs false
namespace Frm
theorem wrap_of (z : Int) : BitVec.ofInt 64 (wrap64 z) = BitVec.ofInt 64 z := by
  refine BitVec.eq_of_toInt_eq ?_
  rw [BitVec.toInt_ofInt, BitVec.toInt_ofInt]
  refine Int.bmod_eq_bmod_iff_bmod_sub_eq_zero.2 ?_
  have h : ∃ k : Int, wrap64 z - z = 18446744073709551616 * k := ⟨-((z + 9223372036854775808) / 18446744073709551616), by unfold wrap64; omega⟩
  obtain ⟨k, h⟩ := h
  rw [h]
  simp [Int.bmod]
theorem wrap_nat (a : Nat) (h : a < 18446744073709551616) : IntKind.i64.wrap ((a : Nat) : Int) = wrap64 (a : Int) := by
  rw [IntKind.wrap_i64, wrap64]
theorem or_wrap (n x : Nat) (hx : x < 256) (hn : n < 72057594037927936) : bits .or .i64 (wrap64 ((n : Int) * 256)) (x : Int) = wrap64 ((n * 256 + x : Nat) : Int) := by
  have e1 : BitVec.ofInt 64 (wrap64 ((n : Int) * 256)) = BitVec.ofNat 64 (n * 256) := by
    rw [wrap_of]
    rw [show ((n : Int) * 256) = ((n * 256 : Nat) : Int) by simp, BitVec.ofInt_natCast]
  have e2 : BitVec.ofInt 64 (x : Int) = BitVec.ofNat 64 x := BitVec.ofInt_natCast 64 x
  have h1 : n * 256 % 2 ^ 64 = n * 256 := Nat.mod_eq_of_lt (by omega)
  have h2 : x % 2 ^ 64 = x := Nat.mod_eq_of_lt (by omega)
  have h3 : n * 256 ||| x = n * 256 + x := by
    have := Nat.two_pow_add_eq_or_of_lt (i := 8) hx n
    rw [show (2 : Nat) ^ 8 = 256 from rfl, Nat.mul_comm] at this
    exact this.symm
  show IntKind.i64.wrap (((BitVec.ofInt 64 (wrap64 ((n : Int) * 256))) ||| (BitVec.ofInt 64 (x : Int))).toNat : Int) = _
  rw [e1, e2, BitVec.toNat_or, BitVec.toNat_ofNat, BitVec.toNat_ofNat, h1, h2, h3]
  exact wrap_nat _ (by omega)
theorem num_snoc (l : List Nat) (x : Nat) : num (l ++ [x]) = num l * 256 + x := by simp [num]
theorem num_step {l : List Nat} {k : Nat} (hk : k < l.length) : num (l.take (k + 1)) = num (l.take k) * 256 + l.getD k 0 := by
  rw [List.take_add_one, List.getElem?_eq_getElem hk, List.getD_eq_getElem?_getD, List.getElem?_eq_getElem hk]
  exact num_snoc _ _
theorem num_pow {l : List Nat} (h8 : ∀ x ∈ l, x < 256) : ∀ k, k ≤ l.length → num (l.take k) < 256 ^ k
  | 0, _ => by simp [num]
  | k + 1, hk => by
    have ih := num_pow h8 k (by omega)
    rw [num_step (by omega), Nat.pow_succ]
    have hx : l.getD k 0 < 256 := by
      rw [List.getD_eq_getElem?_getD, List.getElem?_eq_getElem (by omega)]
      exact h8 _ (List.getElem_mem _)
    omega
/-- The number of eight bytes, as the code tells whether it may be. -/
def seqv (l : List Nat) : Int := wrap64 (num l : Nat)
theorem seqv_ok {l : List Nat} (h8 : ∀ x ∈ l, x < 256) (hl : l.length = 8) : (decide (1 ≤ seqv l) && decide (seqv l ≤ 4611686018427387904)) = true ↔ ¬ (num l < 1 ∨ 4611686018427387904 < num l) := by
  have h := num_pow h8 8 (by omega)
  rw [List.take_of_length_le (by omega), show (256 : Nat) ^ 8 = 18446744073709551616 by decide] at h
  unfold seqv wrap64
  simp only [Bool.and_eq_true, decide_eq_true_eq]
  omega
theorem seqv_val {l : List Nat} (h : num l ≤ 4611686018427387904) : seqv l = (num l : Int) := by unfold seqv; rw [IntWalk.wrap64_in]; omega
end Frm
end Go.Proofs.YtoiidedigbfnaaaDoor
/- Rows of bytes ahead of a block, three cells stored, slices cut. Written by tools/gen_frm_ref.py. -/
namespace Go.Proofs.YtoiidedigbfnaaaDoor
open Go.RowKit Sha Six Apd Cut Err
set_option linter.unusedVariables false
namespace Frm
theorem cell_lt {w : World} {b o : Nat} {v : Value} (h : w.cell? ⟨b, o, none⟩ = some v) : b < w.heap.size := by
  rcases Nat.lt_or_ge b w.heap.size with h0 | h0
  · exact h0
  · simp [World.cell?, Array.getElem?_eq_none h0] at h
theorem bytes_block {w : World} {ad : Option Addr} {n c : Nat} {xs : List Nat} (h : BytesIn w (.slice ad n c) xs) {x : Addr} (hx : ad = some x) : x.block < w.heap.size + 1 ∨ n = 0 := by
  obtain ⟨ad2, cap2, hv, _, hc⟩ := h
  injection hv with h1 h2 h3
  subst h1 h2
  rcases hc with h | ⟨g, off, h, hc⟩
  · right; rw [h]; rfl
  · rw [hx] at h
    injection h with h
    subst h
    cases xs with
    | nil => exact .inr rfl
    | cons y ys =>
      have := hc 0 (by simp)
      left
      have hl := cell_lt this
      simp only; omega
/-- Bytes ahead of base stay. -/
theorem bytes_at {w w' : World} {ad : Option Addr} {n c base : Nat} {xs : List Nat} (h : BytesIn w (.slice ad n c) xs) (hl : ∀ x, ad = some x → x.block < base ∨ n = 0) (hb : Below base w w') : BytesIn w' (.slice ad n c) xs := by
  obtain ⟨ad2, cap2, hv, hcap, hc⟩ := h
  injection hv with h1 h2 h3
  subst h1 h2 h3
  refine ⟨_, _, rfl, hcap, ?_⟩
  rcases hc with h | ⟨g, off, h, hc⟩
  · exact .inl h
  · rcases hl _ h with h0 | h0
    · exact .inr ⟨g, off, h, fun j hj => (hb.cell (p := ⟨g, off + j, none⟩) h0).trans (hc j hj)⟩
    · exact .inl (List.eq_nil_of_length_eq_zero h0)
theorem blk_b {w w' : World} {B base : Nat} {x : Obj} (g : w.heap[B]? = some x) (hB : B < base) (hb : Below base w w') : w'.heap[B]? = some x := (hb.block B hB).trans g
theorem bytes_some {w : World} {ad : Option Addr} {n c : Nat} {xs : List Nat} (h : BytesIn w (.slice ad n c) xs) (h0 : xs ≠ []) : ad ≠ none := by
  intro e
  obtain ⟨ad2, cap2, hv, _, hc⟩ := h
  injection hv with h1 h2 h3
  subst h1
  rcases hc with h | ⟨g, off, h, _⟩
  · exact h0 h
  · rw [e] at h; cases h
theorem over3f (a : World) (B : Nat) (t : TypeId) (a0 a1 a2 u0 u1 u2 : Value) (h : a.heap[B]? = some (.cells #[a0, a1, a2] t (0, 0))) :
    (((a.setCell ⟨B, 0, none⟩ u0).setCell ⟨B, 1, none⟩ u1).setCell ⟨B, 2, none⟩ u2).heap[B]? = some (.cells #[u0, u1, u2] t (0, 0)) ∧
    a.grownBy (((a.setCell ⟨B, 0, none⟩ u0).setCell ⟨B, 1, none⟩ u1).setCell ⟨B, 2, none⟩ u2) (some B) := by
  have h := heap_setCell_same _ B 0 _ t u0 h
  have h := heap_setCell_same _ B 1 _ t u1 h
  have h := heap_setCell_same _ B 2 _ t u2 h
  exact ⟨h, gtrans (gsetCell _ _ _ _) (gtrans (gsetCell _ _ _ _) (gsetCell _ _ _ _))⟩
theorem run_h (a : Option Addr) (len cap k : Nat) (hk : k ≤ cap) (w : World) :
    (Instr.slice 22 (.slice a len cap) none (some (.int .i64 (k : Int))) none).run Tryd.prog w = .ok (.slice a k cap) w := by
  have hu : Tryd.prog.underlying 22 = some (.slice (Tryd.prog.elem 22)) := by kernel_rfl
  have hs : ((sizeOf (Tryd.prog.elem 22)).run Tryd.prog w) = .ok 1 w := by kernel_rfl
  rw [run_slice_h (P := Tryd.prog) w _ _ _ _ hu _ _ (by omega) (by omega), hs]
  simp only [Result.andThen, sliced]
  cases a <;> simp [Addr.add]
theorem bytes_h {w : World} {a : Option Addr} {len cap k : Nat} {xs : List Nat} (h : BytesIn w (.slice a len cap) xs) (hk : k ≤ len) : BytesIn w (.slice a k cap) (xs.take k) := by
  obtain ⟨ad, c, hv, hcap, hc⟩ := h
  injection hv with e1 e2 e3
  subst e1 e2 e3
  have hl : (xs.take k).length = k := by rw [List.length_take]; omega
  refine ⟨a, cap, by rw [hl], by rw [hl]; omega, ?_⟩
  rcases hc with h0 | ⟨g, off, h0, hc⟩
  · exact .inl (by rw [h0]; simp)
  · refine .inr ⟨g, off, h0, fun j hj => ?_⟩
    rw [hl] at hj
    rw [hc j (by omega)]
    congr 3
    rw [List.getD_eq_getElem?_getD, List.getD_eq_getElem?_getD, List.getElem?_take_of_lt hj]
end Frm
end Go.Proofs.YtoiidedigbfnaaaDoor
