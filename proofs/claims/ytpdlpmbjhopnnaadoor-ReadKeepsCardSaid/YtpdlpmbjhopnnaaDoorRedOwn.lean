/- Rows of orders of the call's own: of one literal order; at another base; grown by an order without a text, or by one whose text is a row that was grown behind it. -/
import Derived.Test.YtpdlpmbjhopnnaaDoorStrOwn
import Derived.Test.YtpdlpmbjhopnnaaDoorRedMore
import Derived.Test.YtpdlpmbjhopnnaaDoorBunGrd
namespace Go.Proofs.YtpdlpmbjhopnnaaDoor
open Go.RowKit Sha Six Apd Cut
set_option linter.unusedVariables false
namespace Red
open Str Go.Proofs.YtpdlpmbjhopnnaaDoor.Ord
theorem own_no (w : World) (base : Nat) : w.ownsRow base 5 1 (.slice none 0 0) 0 (u8s []) := by simpa [u8s] using World.ownsRow_nil w base 5 1
theorem ords_mono {w : World} {b base : Nat} {v : Value} {os : List O} (h : OwnOrds w base v os) (hb : b ≤ base) : OwnOrds w b v os := by
  obtain ⟨us, h1, h0, h2⟩ := h
  refine ⟨us, own_mono h1 hb, h0, fun i hi => ?_⟩
  obtain ⟨ta, tn, tc, k1, k2⟩ := h2 i hi
  exact ⟨ta, tn, tc, k1, own_mono k2 hb⟩
theorem ords_ge {w : World} {base n c : Nat} {ad : Option Addr} {os : List O} (h : OwnOrds w base (.slice ad n c) os) : ∀ g, (Value.slice ad n c).ownBlock = some g → base ≤ g := by
  obtain ⟨us, h1, _⟩ := h
  exact own_ge h1
/-- One literal order. -/
theorem ords_lit (w : World) (o : O) (ht : o.t = []) (base : Nat) (hb : base ≤ w.heap.size) : OwnOrds (w.alloc (.cells (ocells o (.slice none 0 0)).toArray 51)) base (.slice (some ⟨w.heap.size, 0, none⟩) 1 1) [o] := by
  refine ⟨ocells o (.slice none 0 0), ?_, nofun, fun i hi => ?_⟩
  · have := World.ownsRow_lit (base := base) (e := 51) (size := 8) w (ocells o (.slice none 0 0)).toArray 1 hb (by unfold maxLen; omega) (by simp [ocells])
    simpa using this
  · have hi0 : i = 0 := by simp at hi; omega
    subst hi0
    refine ⟨none, 0, 0, fun j u hj => by simpa using hj, ?_⟩
    show World.ownsRow _ _ _ _ _ _ (u8s o.t)
    rw [ht]
    exact own_no _ _
/-- A screen's cells stay where a row grows that lies behind the screen's box. -/
theorem celsIn_grown_ {w w' : World} {ad : Option Addr} {n c base : Nat} {v : Value} {cs : List Grd.C} (h : Grd.CelsIn w (.slice ad n c) cs) (hl : ∀ x, ad = some x → x.block < base) (hg : w.grownBy w' v.ownBlock) (hb : ∀ g, v.ownBlock = some g → base ≤ g) : Grd.CelsIn w' (.slice ad n c) cs := by
  obtain ⟨ad2, cap, hv, hcap, hn, hc⟩ := h
  injection hv with e1 e2 e3
  subst e1
  subst e3
  refine ⟨_, _, by rw [e2], hcap, hn, ?_⟩
  rcases hc with h0 | ⟨b, off, h1, h2⟩
  · exact .inl h0
  · refine .inr ⟨b, off, h1, fun i hi j u hj => ?_⟩
    have hbb := hl _ h1
    exact hg.cell (a := ⟨b, off + i * 6 + j, none⟩) (h2 i hi j u hj) (fun e => by have := hb _ e.symm; simp only at hbb this; omega)
end Red
end Go.Proofs.YtpdlpmbjhopnnaaDoor
