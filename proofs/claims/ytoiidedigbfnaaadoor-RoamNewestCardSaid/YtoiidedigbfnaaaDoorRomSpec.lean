/- Plain: gates, and what comes through them. Written by tools/gen_rom.py. -/
import Derived.Test.YtoiidedigbfnaaaDoorBunShp
import Derived.Test.YtoiidedigbfnaaaDoorBunWnp
import Derived.BigQuiet
import Derived.Deep.Cut
import Derived.Deep.LoopGhost
import Derived.Deep.RegionLaw
import Derived.Deep.RegionHeld3
import Derived.IntWalk
import Derived.Lib.SmallJoins
namespace Go.Proofs.YtoiidedigbfnaaaDoor
open Go.RowKit
set_option linter.unusedVariables false
set_option linter.unusedSimpArgs false
namespace Rom
/-- A gate. -/
structure G where
  k : List Nat
  d : Int
  s : Win.W
  pa : ByteArray
  pq : Int
/-- A datagram comes from an address: the gate then, its body, the error. -/
def come (g : G) (src : ByteArray) (b : List Nat) : G × List Nat × Nat :=
  if (Frm.open_ g.k g.d b).2 ≠ 0 then (g, [], (Frm.open_ g.k g.d b).2)
  else if (Win.lets g.s (Frm.open_ g.k g.d b).1.q).2 ≠ 0 then (g, [], (Win.lets g.s (Frm.open_ g.k g.d b).1.q).2)
  else (⟨g.k, g.d, (Win.lets g.s (Frm.open_ g.k g.d b).1.q).1, if g.pq < (Frm.open_ g.k g.d b).1.q then src else g.pa, if g.pq < (Frm.open_ g.k g.d b).1.q then (Frm.open_ g.k g.d b).1.q else g.pq⟩, (Frm.open_ g.k g.d b).1.b, 0)
theorem come_key (g : G) (src : ByteArray) (b : List Nat) : (come g src b).1.k = g.k ∧ (come g src b).1.d = g.d := by
  unfold come
  split
  · exact ⟨rfl, rfl⟩
  · split <;> exact ⟨rfl, rfl⟩
/-- What is sealed for a gate comes as the window says. -/
theorem come_sealed {g : G} (src : ByteArray) {f : Frm.F} (h : Frm.wrong f = 0) (hd : f.d = g.d) : come g src (Frm.seal_ g.k f) = if (Win.lets g.s f.q).2 ≠ 0 then (g, [], (Win.lets g.s f.q).2) else (⟨g.k, g.d, (Win.lets g.s f.q).1, if g.pq < f.q then src else g.pa, if g.pq < f.q then f.q else g.pq⟩, f.b, 0) := by
  have e := Frm.open_seal g.k h
  rw [hd] at e
  unfold come
  rw [e]
  simp
end Rom
end Go.Proofs.YtoiidedigbfnaaaDoor
