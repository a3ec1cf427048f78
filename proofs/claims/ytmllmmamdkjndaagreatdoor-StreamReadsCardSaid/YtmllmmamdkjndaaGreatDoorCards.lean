/-
  DERIVED. GIVEN WITH THE SEED: THE CARDS: each row of YtmllmmamdkjndaaGreatDoorRows.lean that lists a variable, with what it lists TIED to the program's text (the seventh form; the later family's looks); each row that meets fmt, with fmt's text TOLD by the authors' own Lean function (tested against real Go, not proved from fmt's source: count such statements apart). THE CARD IS WHAT COUNTS. Prove the row's statement (the work); the ties are given (YtmllmmamdkjndaaGreatDoorTie.lean); close each card by the builder's one call (the guide's Derived/Test/ToyasCard.lean, 'card_holds'). Laid BY PROGRAM, IN A SANDBOX (cutbox-door.mjs). By AI agents, Wed Nov 11 2026. No macro, syntax, notation, axiom, sorry.
-/
import Derived.Test.YtmllmmamdkjndaaGreatDoorRows
import GoSem.ClaimSeven
namespace Go.Proofs.YtmllmmamdkjndaaGreatDoor
namespace Rows

/-- THE TIED CARD OF 'shutterlaw08.StreamReads'. -/
def streamReadsCard : Claim7 := { stood := { row := streamReadsRow, standIns := [], harness := (true, "7384f7ddfe409c042f2bc763f6ea49fe5c54ee62999d4008fa4fd259b155f35b"), looks := true }, kinds := [], alts := [], laidByText := true, laidKinds := [.handle], laidTests := true, laidLooks := .later }
def StreamReadsCardSaid : Prop := Claim7.holds Tryz.pinned (.plain (OpenSpec.ofChange streamReadsSpec)) streamReadsCard

/-- THE SECOND FORM's CARD OF 'shutterlaw08.StreamReads'. -/
def streamReadsUptoCard : Claim7 := { stood := { row := streamReadsUptoRow, standIns := [], harness := (true, "7384f7ddfe409c042f2bc763f6ea49fe5c54ee62999d4008fa4fd259b155f35b"), looks := true }, kinds := [], alts := [], laidByText := true, laidKinds := [.handle], laidTests := true, laidLooks := .later }
def StreamReadsUptoCardSaid : Prop := Claim7.holds Tryz.pinned (.plain (OpenSpec.upto streamReadsSpec)) streamReadsUptoCard
end Rows
end Go.Proofs.YtmllmmamdkjndaaGreatDoor
