/- An argument that is a []api.Order, or an api.Order (over the bundles). -/
import Derived.Test.YtkobodoejpioeaaGreatDoorOpnOut
namespace Go.Proofs.YtkobodoejpioeaaGreatDoor
open Go.ChangeShapes Go.WideShapes Go.RowKit Go.Joins Go.Deep Sha Go.Proofs.YtkobodoejpioeaaGreatDoor.Ord Str
namespace Opn
section
variable {H : Type} {enc : TypeId × Value → H} {W : World} {base b0 : Nat} {held : Bool} {r : Reach} {v : Value} {d : DataW H} {p : List MemPlace}
set_option maxRecDepth 100000 in
theorem open_orders (hv : Value.okWide Tryz.prog W r b0 27 v) (h : DataW.Trod enc Tryz.prog W base (fun _ => true) held 27 v d p) :
    ∃ (al : Option Addr) (nl cl : Nat) (os : List O), v = .slice al nl cl ∧ OrdsIn W 0 (.slice al nl cl) os ∧ (∀ o ∈ os, (∀ x ∈ o.t, x < 256) ∧ o.c < 256) ∧ os.length ≤ maxLen := by
  obtain ⟨al, nl, cl, rfl⟩ := okWide_slice Tryz.underlying27 hv
  obtain ⟨fuel, hf⟩ := h
  obtain ⟨os, ho, hs, hm⟩ := trod_orders hf
  exact ⟨al, nl, cl, os, rfl, ho, hs, hm⟩
set_option maxRecDepth 100000 in
theorem open_order (hv : Value.okWide Tryz.prog W r b0 49 v) (h : DataW.Trod enc Tryz.prog W base (fun _ => true) held 49 v d p) :
    ∃ (k : Int) (a : Option Addr) (len cap : Nat) (zs : List Int) (p n : Bool) (s : Int) (m : Bool) (ad c : Int), v = .agg #[.int .i64 k, .slice a len cap, .bool p, .bool n, .int .i64 s, .bool m, .int .i64 ad, .int .u8 c] ∧ IsRow .u8 W a len cap zs ∧ (Lit.int .u8 c).wf = true := by
  obtain ⟨cs, rfl, hsz⟩ := okWide_struct Tryz.underlying49 hv
  have hC : Tryz.prog.cellsOf 49 = 8 := by kernel_rfl
  obtain ⟨l⟩ := cs
  obtain ⟨fuel, hf⟩ := h
  obtain ⟨k, a, len, cap, zs, p, n, s, m, ad, c, ho, hr, hw⟩ := trod_order (hsz.trans hC) hf
  simp at ho
  subst ho
  exact ⟨k, a, len, cap, zs, p, n, s, m, ad, c, rfl, hr, hw⟩
end
end Opn
end Go.Proofs.YtkobodoejpioeaaGreatDoor
