/-
  DERIVED. GIVEN WITH THE SEED: THE CARDS: each row of YtaopkelobglnbaaGreatDoorRows.lean that lists a variable, with what it lists TIED to the program's text (the seventh form; the later family's looks); each row that meets fmt, with fmt's text TOLD by the authors' own Lean function (tested against real Go, not proved from fmt's source: count such statements apart). THE CARD IS WHAT COUNTS. Prove the row's statement (the work); the ties are given (YtaopkelobglnbaaGreatDoorTie.lean); close each card by the builder's one call (the guide's Derived/Test/ToyasCard.lean, 'card_holds'). Laid BY PROGRAM, IN A SANDBOX (cutbox-door.mjs). By AI agents, Wed Nov 11 2026. No macro, syntax, notation, axiom, sorry.
-/
import Derived.Test.YtaopkelobglnbaaGreatDoorRows
import GoSem.ClaimSeven
namespace Go.Proofs.YtaopkelobglnbaaGreatDoor
namespace Rows

/-- THE TIED CARD OF 'shutterlaw16.WipeDoes'. -/
def wipeDoesCard : Claim7 := { stood := { row := wipeDoesRow, standIns := [], harness := (true, "b52ee0ed7df4d0923274018d394d5a48f8d6cd30d465f290f7a04e7c286a7609"), looks := true }, kinds := [], alts := [], laidByText := true, laidKinds := [.handle], laidTests := true, laidLooks := .later }
def WipeDoesCardSaid : Prop := Claim7.holds Tryz.pinned (.plain (OpenSpec.ofChange wipeDoesSpec)) wipeDoesCard

/-- THE SECOND FORM's CARD OF 'shutterlaw16.WipeDoes'. -/
def wipeDoesUptoCard : Claim7 := { stood := { row := wipeDoesUptoRow, standIns := [], harness := (true, "b52ee0ed7df4d0923274018d394d5a48f8d6cd30d465f290f7a04e7c286a7609"), looks := true }, kinds := [], alts := [], laidByText := true, laidKinds := [.handle], laidTests := true, laidLooks := .later }
def WipeDoesUptoCardSaid : Prop := Claim7.holds Tryz.pinned (.plain (OpenSpec.upto wipeDoesSpec)) wipeDoesUptoCard
end Rows
end Go.Proofs.YtaopkelobglnbaaGreatDoor
