/-
  DERIVED. GIVEN WITH THE SEED: THE CARDS: each row of YtmllmmamdkjndaaDoorRows.lean that lists a variable, with what it lists TIED to the program's text (the seventh form; the later family's looks); each row that meets fmt, with fmt's text TOLD by the authors' own Lean function (tested against real Go, not proved from fmt's source: count such statements apart). THE CARD IS WHAT COUNTS. Prove the row's statement (the work); the ties are given (YtmllmmamdkjndaaDoorTie.lean); close each card by the builder's one call (the guide's Derived/Test/ToyasCard.lean, 'card_holds'). Laid BY PROGRAM, IN A SANDBOX (cutbox-door.mjs). By AI agents, Wed Nov 11 2026. No macro, syntax, notation, axiom, sorry.
-/
import Derived.Test.YtmllmmamdkjndaaDoorRows
import GoSem.ClaimSeven
namespace Go.Proofs.YtmllmmamdkjndaaDoor
namespace Rows

/-- THE TIED CARD OF 'shutterlaw08.StreamWrites'. -/
def streamWritesCard : Claim7 := { stood := { row := streamWritesRow, standIns := [], harness := (true, "8963c7c6206eec0a30b3e99085b8751c7ee7cbb0226bea3eca415eaefd93f150"), looks := true }, kinds := [], alts := [], laidByText := true, laidKinds := [.handle], laidTests := true, laidLooks := .later }
def StreamWritesCardSaid : Prop := Claim7.holds Tryd.pinned (.plain (OpenSpec.ofChange streamWritesSpec)) streamWritesCard

/-- THE TIED CARD OF 'shutterlaw08.StreamBack'. -/
def streamBackCard : Claim7 := { stood := { row := streamBackRow, standIns := [], harness := (true, "8963c7c6206eec0a30b3e99085b8751c7ee7cbb0226bea3eca415eaefd93f150"), looks := true }, kinds := [], alts := [], laidByText := true, laidKinds := [.handle], laidTests := true, laidLooks := .later }
def StreamBackCardSaid : Prop := Claim7.holds Tryd.pinned (.plain (OpenSpec.ofChange streamBackSpec)) streamBackCard

/-- THE TIED CARD OF 'shutterlaw08.StreamAgain'. -/
def streamAgainCard : Claim7 := { stood := { row := streamAgainRow, standIns := [], harness := (true, "8963c7c6206eec0a30b3e99085b8751c7ee7cbb0226bea3eca415eaefd93f150"), looks := true }, kinds := [], alts := [], laidByText := true, laidKinds := [.handle], laidTests := true, laidLooks := .later }
def StreamAgainCardSaid : Prop := Claim7.holds Tryd.pinned (.plain (OpenSpec.ofChange streamAgainSpec)) streamAgainCard

/-- THE TIED CARD OF 'shutterlaw08.StreamKeeps'. -/
def streamKeepsCard : Claim7 := { stood := { row := streamKeepsRow, standIns := [], harness := (true, "8963c7c6206eec0a30b3e99085b8751c7ee7cbb0226bea3eca415eaefd93f150"), looks := true }, kinds := [], alts := [], laidByText := true, laidKinds := [.handle], laidTests := true, laidLooks := .later }
def StreamKeepsCardSaid : Prop := Claim7.holds Tryd.pinned (.plain (OpenSpec.ofChange streamKeepsSpec)) streamKeepsCard

/-- THE TIED CARD OF 'shutterlaw08.StreamLengths'. -/
def streamLengthsCard : Claim7 := { stood := { row := streamLengthsRow, standIns := [], harness := (true, "8963c7c6206eec0a30b3e99085b8751c7ee7cbb0226bea3eca415eaefd93f150"), looks := true }, kinds := [], alts := [], laidByText := true, laidKinds := [.handle], laidTests := true, laidLooks := .later }
def StreamLengthsCardSaid : Prop := Claim7.holds Tryd.pinned (.plain (OpenSpec.ofChange streamLengthsSpec)) streamLengthsCard

/-- THE SECOND FORM's CARD OF 'shutterlaw08.StreamWrites'. -/
def streamWritesUptoCard : Claim7 := { stood := { row := streamWritesUptoRow, standIns := [], harness := (true, "8963c7c6206eec0a30b3e99085b8751c7ee7cbb0226bea3eca415eaefd93f150"), looks := true }, kinds := [], alts := [], laidByText := true, laidKinds := [.handle], laidTests := true, laidLooks := .later }
def StreamWritesUptoCardSaid : Prop := Claim7.holds Tryd.pinned (.plain (OpenSpec.upto streamWritesSpec)) streamWritesUptoCard

/-- THE SECOND FORM's CARD OF 'shutterlaw08.StreamBack'. -/
def streamBackUptoCard : Claim7 := { stood := { row := streamBackUptoRow, standIns := [], harness := (true, "8963c7c6206eec0a30b3e99085b8751c7ee7cbb0226bea3eca415eaefd93f150"), looks := true }, kinds := [], alts := [], laidByText := true, laidKinds := [.handle], laidTests := true, laidLooks := .later }
def StreamBackUptoCardSaid : Prop := Claim7.holds Tryd.pinned (.plain (OpenSpec.upto streamBackSpec)) streamBackUptoCard

/-- THE SECOND FORM's CARD OF 'shutterlaw08.StreamAgain'. -/
def streamAgainUptoCard : Claim7 := { stood := { row := streamAgainUptoRow, standIns := [], harness := (true, "8963c7c6206eec0a30b3e99085b8751c7ee7cbb0226bea3eca415eaefd93f150"), looks := true }, kinds := [], alts := [], laidByText := true, laidKinds := [.handle], laidTests := true, laidLooks := .later }
def StreamAgainUptoCardSaid : Prop := Claim7.holds Tryd.pinned (.plain (OpenSpec.upto streamAgainSpec)) streamAgainUptoCard

/-- THE SECOND FORM's CARD OF 'shutterlaw08.StreamKeeps'. -/
def streamKeepsUptoCard : Claim7 := { stood := { row := streamKeepsUptoRow, standIns := [], harness := (true, "8963c7c6206eec0a30b3e99085b8751c7ee7cbb0226bea3eca415eaefd93f150"), looks := true }, kinds := [], alts := [], laidByText := true, laidKinds := [.handle], laidTests := true, laidLooks := .later }
def StreamKeepsUptoCardSaid : Prop := Claim7.holds Tryd.pinned (.plain (OpenSpec.upto streamKeepsSpec)) streamKeepsUptoCard

/-- THE SECOND FORM's CARD OF 'shutterlaw08.StreamLengths'. -/
def streamLengthsUptoCard : Claim7 := { stood := { row := streamLengthsUptoRow, standIns := [], harness := (true, "8963c7c6206eec0a30b3e99085b8751c7ee7cbb0226bea3eca415eaefd93f150"), looks := true }, kinds := [], alts := [], laidByText := true, laidKinds := [.handle], laidTests := true, laidLooks := .later }
def StreamLengthsUptoCardSaid : Prop := Claim7.holds Tryd.pinned (.plain (OpenSpec.upto streamLengthsSpec)) streamLengthsUptoCard
end Rows
end Go.Proofs.YtmllmmamdkjndaaDoor
