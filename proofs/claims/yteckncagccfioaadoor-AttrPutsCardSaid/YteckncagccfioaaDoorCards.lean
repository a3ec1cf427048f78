/-
  DERIVED. GIVEN WITH THE SEED: THE CARDS: each row of YteckncagccfioaaDoorRows.lean that lists a variable, with what it lists TIED to the program's text (the seventh form; the later family's looks); each row that meets fmt, with fmt's text TOLD by the authors' own Lean function (tested against real Go, not proved from fmt's source: count such statements apart). THE CARD IS WHAT COUNTS. Prove the row's statement (the work); the ties are given (YteckncagccfioaaDoorTie.lean); close each card by the builder's one call (the guide's Derived/Test/ToyasCard.lean, 'card_holds'). Laid BY PROGRAM, IN A SANDBOX (cutbox-door.mjs). By AI agents, Wed Nov 11 2026. No macro, syntax, notation, axiom, sorry.
-/
import Derived.Test.YteckncagccfioaaDoorRows
import GoSem.ClaimSeven
namespace Go.Proofs.YteckncagccfioaaDoor
namespace Rows

/-- THE TIED CARD OF 'shutterlaw05.AttrPuts'. -/
def attrPutsCard : Claim7 := { stood := { row := attrPutsRow, standIns := [], harness := (true, "0744cd512f243969e0cfefb95455e8b9388a88633b0bd1adefc5506e246b7d5f"), looks := true }, kinds := [], alts := [], laidByText := true, laidKinds := [.handle], laidTests := true, laidLooks := .later }
def AttrPutsCardSaid : Prop := Claim7.holds Tryd.pinned (.plain (OpenSpec.ofChange attrPutsSpec)) attrPutsCard

/-- THE TIED CARD OF 'shutterlaw05.AttrGets'. -/
def attrGetsCard : Claim7 := { stood := { row := attrGetsRow, standIns := [], harness := (true, "0744cd512f243969e0cfefb95455e8b9388a88633b0bd1adefc5506e246b7d5f"), looks := true }, kinds := [], alts := [], laidByText := true, laidKinds := [.handle], laidTests := true, laidLooks := .later }
def AttrGetsCardSaid : Prop := Claim7.holds Tryd.pinned (.plain (OpenSpec.ofChange attrGetsSpec)) attrGetsCard

/-- THE SECOND FORM's CARD OF 'shutterlaw05.AttrPuts'. -/
def attrPutsUptoCard : Claim7 := { stood := { row := attrPutsUptoRow, standIns := [], harness := (true, "0744cd512f243969e0cfefb95455e8b9388a88633b0bd1adefc5506e246b7d5f"), looks := true }, kinds := [], alts := [], laidByText := true, laidKinds := [.handle], laidTests := true, laidLooks := .later }
def AttrPutsUptoCardSaid : Prop := Claim7.holds Tryd.pinned (.plain (OpenSpec.upto attrPutsSpec)) attrPutsUptoCard

/-- THE SECOND FORM's CARD OF 'shutterlaw05.AttrGets'. -/
def attrGetsUptoCard : Claim7 := { stood := { row := attrGetsUptoRow, standIns := [], harness := (true, "0744cd512f243969e0cfefb95455e8b9388a88633b0bd1adefc5506e246b7d5f"), looks := true }, kinds := [], alts := [], laidByText := true, laidKinds := [.handle], laidTests := true, laidLooks := .later }
def AttrGetsUptoCardSaid : Prop := Claim7.holds Tryd.pinned (.plain (OpenSpec.upto attrGetsSpec)) attrGetsUptoCard
end Rows
end Go.Proofs.YteckncagccfioaaDoor
