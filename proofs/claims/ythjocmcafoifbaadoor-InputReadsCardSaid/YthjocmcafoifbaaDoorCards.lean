/-
  DERIVED. GIVEN WITH THE SEED: THE CARDS: each row of YthjocmcafoifbaaDoorRows.lean that lists a variable, with what it lists TIED to the program's text (the seventh form; the later family's looks); each row that meets fmt, with fmt's text TOLD by the authors' own Lean function (tested against real Go, not proved from fmt's source: count such statements apart). THE CARD IS WHAT COUNTS. Prove the row's statement (the work); the ties are given (YthjocmcafoifbaaDoorTie.lean); close each card by the builder's one call (the guide's Derived/Test/ToyasCard.lean, 'card_holds'). Laid BY PROGRAM, IN A SANDBOX (cutbox-door.mjs). By AI agents, Wed Nov 11 2026. No macro, syntax, notation, axiom, sorry.
-/
import Derived.Test.YthjocmcafoifbaaDoorRows
import GoSem.ClaimSeven
namespace Go.Proofs.YthjocmcafoifbaaDoor
namespace Rows

/-- THE TIED CARD OF 'shutterlaw09.InputReads'. -/
def inputReadsCard : Claim7 := { stood := { row := inputReadsRow, standIns := [], harness := (true, "bb427071fdbb9ccc62b1056af43a2348fd7532d2dd2757a63f140c12d4f7617b"), looks := true }, kinds := [], alts := [], laidByText := true, laidKinds := [.handle], laidTests := true, laidLooks := .later }
def InputReadsCardSaid : Prop := Claim7.holds Tryd.pinned (.plain (OpenSpec.ofChange inputReadsSpec)) inputReadsCard

/-- THE TIED CARD OF 'shutterlaw09.InputBack'. -/
def inputBackCard : Claim7 := { stood := { row := inputBackRow, standIns := [], harness := (true, "bb427071fdbb9ccc62b1056af43a2348fd7532d2dd2757a63f140c12d4f7617b"), looks := true }, kinds := [], alts := [], laidByText := true, laidKinds := [.handle], laidTests := true, laidLooks := .later }
def InputBackCardSaid : Prop := Claim7.holds Tryd.pinned (.plain (OpenSpec.ofChange inputBackSpec)) inputBackCard

/-- THE TIED CARD OF 'shutterlaw09.InputApart'. -/
def inputApartCard : Claim7 := { stood := { row := inputApartRow, standIns := [], harness := (true, "bb427071fdbb9ccc62b1056af43a2348fd7532d2dd2757a63f140c12d4f7617b"), looks := true }, kinds := [], alts := [], laidByText := true, laidKinds := [.handle], laidTests := true, laidLooks := .later }
def InputApartCardSaid : Prop := Claim7.holds Tryd.pinned (.plain (OpenSpec.ofChange inputApartSpec)) inputApartCard

/-- THE TIED CARD OF 'shutterlaw09.InputKeeps'. -/
def inputKeepsCard : Claim7 := { stood := { row := inputKeepsRow, standIns := [], harness := (true, "bb427071fdbb9ccc62b1056af43a2348fd7532d2dd2757a63f140c12d4f7617b"), looks := true }, kinds := [], alts := [], laidByText := true, laidKinds := [.handle], laidTests := true, laidLooks := .later }
def InputKeepsCardSaid : Prop := Claim7.holds Tryd.pinned (.plain (OpenSpec.ofChange inputKeepsSpec)) inputKeepsCard

/-- THE TIED CARD OF 'shutterlaw09.InputLengths'. -/
def inputLengthsCard : Claim7 := { stood := { row := inputLengthsRow, standIns := [], harness := (true, "bb427071fdbb9ccc62b1056af43a2348fd7532d2dd2757a63f140c12d4f7617b"), looks := true }, kinds := [], alts := [], laidByText := true, laidKinds := [.handle], laidTests := true, laidLooks := .later }
def InputLengthsCardSaid : Prop := Claim7.holds Tryd.pinned (.plain (OpenSpec.ofChange inputLengthsSpec)) inputLengthsCard

/-- THE SECOND FORM's CARD OF 'shutterlaw09.InputReads'. -/
def inputReadsUptoCard : Claim7 := { stood := { row := inputReadsUptoRow, standIns := [], harness := (true, "bb427071fdbb9ccc62b1056af43a2348fd7532d2dd2757a63f140c12d4f7617b"), looks := true }, kinds := [], alts := [], laidByText := true, laidKinds := [.handle], laidTests := true, laidLooks := .later }
def InputReadsUptoCardSaid : Prop := Claim7.holds Tryd.pinned (.plain (OpenSpec.upto inputReadsSpec)) inputReadsUptoCard

/-- THE SECOND FORM's CARD OF 'shutterlaw09.InputBack'. -/
def inputBackUptoCard : Claim7 := { stood := { row := inputBackUptoRow, standIns := [], harness := (true, "bb427071fdbb9ccc62b1056af43a2348fd7532d2dd2757a63f140c12d4f7617b"), looks := true }, kinds := [], alts := [], laidByText := true, laidKinds := [.handle], laidTests := true, laidLooks := .later }
def InputBackUptoCardSaid : Prop := Claim7.holds Tryd.pinned (.plain (OpenSpec.upto inputBackSpec)) inputBackUptoCard

/-- THE SECOND FORM's CARD OF 'shutterlaw09.InputApart'. -/
def inputApartUptoCard : Claim7 := { stood := { row := inputApartUptoRow, standIns := [], harness := (true, "bb427071fdbb9ccc62b1056af43a2348fd7532d2dd2757a63f140c12d4f7617b"), looks := true }, kinds := [], alts := [], laidByText := true, laidKinds := [.handle], laidTests := true, laidLooks := .later }
def InputApartUptoCardSaid : Prop := Claim7.holds Tryd.pinned (.plain (OpenSpec.upto inputApartSpec)) inputApartUptoCard

/-- THE SECOND FORM's CARD OF 'shutterlaw09.InputKeeps'. -/
def inputKeepsUptoCard : Claim7 := { stood := { row := inputKeepsUptoRow, standIns := [], harness := (true, "bb427071fdbb9ccc62b1056af43a2348fd7532d2dd2757a63f140c12d4f7617b"), looks := true }, kinds := [], alts := [], laidByText := true, laidKinds := [.handle], laidTests := true, laidLooks := .later }
def InputKeepsUptoCardSaid : Prop := Claim7.holds Tryd.pinned (.plain (OpenSpec.upto inputKeepsSpec)) inputKeepsUptoCard

/-- THE SECOND FORM's CARD OF 'shutterlaw09.InputLengths'. -/
def inputLengthsUptoCard : Claim7 := { stood := { row := inputLengthsUptoRow, standIns := [], harness := (true, "bb427071fdbb9ccc62b1056af43a2348fd7532d2dd2757a63f140c12d4f7617b"), looks := true }, kinds := [], alts := [], laidByText := true, laidKinds := [.handle], laidTests := true, laidLooks := .later }
def InputLengthsUptoCardSaid : Prop := Claim7.holds Tryd.pinned (.plain (OpenSpec.upto inputLengthsSpec)) inputLengthsUptoCard
end Rows
end Go.Proofs.YthjocmcafoifbaaDoor
