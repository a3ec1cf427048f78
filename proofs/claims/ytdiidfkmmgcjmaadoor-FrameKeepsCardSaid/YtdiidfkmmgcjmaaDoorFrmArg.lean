/- Arguments that are bytes; answers. Written by tools/gen_frm_laws.py. -/
import Derived.Test.YtdiidfkmmgcjmaaDoorFrmSpec
import Derived.Test.YtdiidfkmmgcjmaaDoorBunBase
import Derived.Deep.Cut
import Derived.Deep.LoopGhost
import Derived.Deep.RegionLaw
import Derived.Deep.RegionHeld3
import Derived.IntWalk
import Derived.Lib.SlBytesConst
import Derived.Lib.SmallJoins
namespace Go.Proofs.YtdiidfkmmgcjmaaDoor
open Go.RowKit Sha Six Apd Cut Err
set_option linter.unusedVariables false
set_option linter.unusedSimpArgs false
namespace Frm
/-- A slice of these bytes. -/
structure Byts (w : World) (a : Option Addr) (c : Nat) (xs : List Nat) : Prop where
  at_ : BytesIn w (.slice a xs.length c) xs
  small : ∀ x ∈ xs, x < 256
  nil : a = none → xs.length = 0 ∧ c = 0
theorem Byts.below {w w' : World} {a : Option Addr} {c : Nat} {xs : List Nat} (h : Byts w a c xs) (hb : Below w.heap.size w w') : Byts w' a c xs := ⟨bytes_below h.at_ hb, h.small, h.nil⟩
theorem byts_row {w : World} {a : Option Addr} {len cap : Nat} {zs : List Int} (h : IsRow .u8 w a len cap zs) : ∃ xs : List Nat, len = xs.length ∧ Byts w a cap xs := by
  obtain ⟨xs, h1, h2, h3⟩ := isRow_bytes h
  subst h1
  refine ⟨xs, rfl, h3, h2, fun e => ?_⟩
  rcases h with ⟨_, h4, h5, _⟩ | ⟨x, h4, _⟩
  · exact ⟨h4, h5⟩
  · rw [e] at h4; cases h4
theorem byts_own {w : World} {base c : Nat} {a : Option Addr} {xs : List Nat} (h : w.ownsRow base 5 1 (.slice a xs.length c) xs.length (u8s xs)) (h8 : ∀ x ∈ xs, x < 256) : Byts w a c xs := ⟨own_bytes h, h8, own_nil h⟩
theorem own_at3 {w : World} {base n i : Nat} {va : Option Addr} {vc : Nat} {m : List Nat} (h : w.ownsRow base 5 1 (.slice va n vc) n (u8s m)) (hi : i < n) : ∃ (g : Nat) (x0 : Unit), va = some ⟨g, 0, none⟩ ∧ g < w.heap.size ∧ w.cell? ⟨g, i, none⟩ = some (.int .u8 ((m.getD i 0 : Nat) : Int)) ∧ w.frozen? ⟨g, i, none⟩ = false := by
  have hl := h.1
  rw [u8s_length, Nat.mul_one] at hl
  rcases h.2 with ⟨_, h0⟩ | ⟨g, cap, cur, hv, hg, hcur, h1, h2, h3, h4⟩
  · omega
  · injection hv with e1 e2 e3
    subst e1
    refine ⟨g, (), rfl, there_lt hcur, ?_, frozen_of_row w g i cur _ hcur⟩
    have hj : (u8s m)[i]? = some (.int .u8 ((m.getD i 0 : Nat) : Int)) := by
      unfold u8s
      rw [List.getElem?_map, List.getElem?_eq_getElem (by omega), List.getD_eq_getElem?_getD, List.getElem?_eq_getElem (by omega)]
      rfl
    rw [← h4, List.getElem?_take_of_lt (by omega)] at hj
    rw [cell_of_row w g i cur _ (0, 0) hcur, ← Array.getElem?_toList]
    exact hj
/-- The error of this number (0: nil). -/
def errn (code : Nat) : Value := if code = 0 then .nilIface else .iface 45 (.int .i64 (code : Int))
theorem errn_0 : errn 0 = .nilIface := rfl
/-- Bytes and the error of this number, new memory. -/
def GaveS (w w' : World) (bs : List Nat) (code : Nat) (e : Ending) : Prop := ∃ va vc, e = .returned (.tuple #[.slice va bs.length vc, errn code]) ∧ w'.ownsRow w.heap.size 5 1 (.slice va bs.length vc) bs.length (u8s bs) ∧ Below w.heap.size w w'
/-- A frame and the error of this number, new memory. -/
def GaveF (w w' : World) (f : F) (code : Nat) (e : Ending) : Prop := ∃ va vc, e = .returned (.tuple #[.agg #[.int .i64 f.d, .int .i64 f.q, .slice va f.b.length vc], errn code]) ∧ w'.ownsRow w.heap.size 5 1 (.slice va f.b.length vc) f.b.length (u8s f.b) ∧ Below w.heap.size w w'
/-- What Seal answers. -/
def sealB (k : List Nat) (f : F) : List Nat := if wrong f = 0 then seal_ k f else []
theorem sealB_small {f : F} (k : List Nat) (hb : ∀ x ∈ f.b, x < 256) : ∀ x ∈ sealB k f, x < 256 := by
  unfold sealB
  split
  · rename_i h; exact seal_small k (wrong_ok h).1 hb
  · simp
theorem sealB_len (k : List Nat) (f : F) : (sealB k f).length < 1000 := by
  unfold sealB
  split
  · rename_i h; rw [seal_len]; have := (wrong_ok h).2.2.2; omega
  · simp
theorem open_small {k b : List Nat} {dir : Int} (h8 : ∀ x ∈ b, x < 256) : ∀ x ∈ (open_ k dir b).1.b, x < 256 := by
  intro x hx
  unfold open_ at hx
  split at hx
  · simp [none_] at hx
  split at hx
  · simp [none_] at hx
  split at hx
  · simp [none_] at hx
  split at hx
  · simp [none_] at hx
  split at hx
  · simp [none_] at hx
  exact h8 x (List.mem_of_mem_take (List.mem_of_mem_drop hx))
theorem open_len (k b : List Nat) (dir : Int) : (open_ k dir b).1.b.length ≤ b.length := by
  unfold open_
  split
  · simp [none_]
  split
  · simp [none_]
  split
  · simp [none_]
  split
  · simp [none_]
  split
  · simp [none_]
  simp only [List.length_drop, List.length_take]; omega
theorem open_none {k b : List Nat} {dir : Int} (h : (open_ k dir b).2 ≠ 0) : (open_ k dir b).1 = none_ := by
  unfold open_ at h ⊢
  split
  · rfl
  · split
    · rfl
    · split
      · rfl
      · split
        · rfl
        · split
          · rfl
          · rename_i h1 h2 h3 h4 h5
            rw [if_neg h1, if_neg h2, if_neg h3, if_neg h4, if_neg h5] at h
            exact absurd rfl h
end Frm
end Go.Proofs.YtdiidfkmmgcjmaaDoor
