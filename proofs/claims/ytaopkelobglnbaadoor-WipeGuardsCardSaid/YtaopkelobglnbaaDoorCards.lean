/-
  DERIVED. GIVEN WITH THE SEED: THE CARDS: each row of YtaopkelobglnbaaDoorRows.lean that lists a variable, with what it lists TIED to the program's text (the seventh form; the later family's looks); each row that meets fmt, with fmt's text TOLD by the authors' own Lean function (tested against real Go, not proved from fmt's source: count such statements apart). THE CARD IS WHAT COUNTS. Prove the row's statement (the work); the ties are given (YtaopkelobglnbaaDoorTie.lean); close each card by the builder's one call (the guide's Derived/Test/ToyasCard.lean, 'card_holds'). Laid BY PROGRAM, IN A SANDBOX (cutbox-door.mjs). By AI agents, Wed Nov 11 2026. No macro, syntax, notation, axiom, sorry.
-/
import Derived.Test.YtaopkelobglnbaaDoorRows
import GoSem.ClaimSeven
namespace Go.Proofs.YtaopkelobglnbaaDoor
namespace Rows

/-- THE TIED CARD OF 'shutterlaw16.WipeGuards'. -/
def wipeGuardsCard : Claim7 := { stood := { row := wipeGuardsRow, standIns := [], harness := (true, "b58e9aea2de6f92a9c11f546e1420137619d6ded17e112f7c21e28c1ed0f6a74"), looks := true }, kinds := [], alts := [], laidByText := true, laidKinds := [.handle], laidTests := true, laidLooks := .later }
def WipeGuardsCardSaid : Prop := Claim7.holds Tryd.pinned (.plain (OpenSpec.ofChange wipeGuardsSpec)) wipeGuardsCard

/-- THE TIED CARD OF 'shutterlaw16.WipeHost'. -/
def wipeHostCard : Claim7 := { stood := { row := wipeHostRow, standIns := [], harness := (true, "b58e9aea2de6f92a9c11f546e1420137619d6ded17e112f7c21e28c1ed0f6a74"), looks := true }, kinds := [], alts := [], laidByText := true, laidKinds := [.handle], laidTests := true, laidLooks := .later }
def WipeHostCardSaid : Prop := Claim7.holds Tryd.pinned (.plain (OpenSpec.ofChange wipeHostSpec)) wipeHostCard

/-- THE TIED CARD OF 'shutterlaw16.WipeUndoes'. -/
def wipeUndoesCard : Claim7 := { stood := { row := wipeUndoesRow, standIns := [], harness := (true, "b58e9aea2de6f92a9c11f546e1420137619d6ded17e112f7c21e28c1ed0f6a74"), looks := true }, kinds := [], alts := [], laidByText := true, laidKinds := [.handle], laidTests := true, laidLooks := .later }
def WipeUndoesCardSaid : Prop := Claim7.holds Tryd.pinned (.plain (OpenSpec.ofChange wipeUndoesSpec)) wipeUndoesCard

/-- THE TIED CARD OF 'shutterlaw16.WipeKeeps'. -/
def wipeKeepsCard : Claim7 := { stood := { row := wipeKeepsRow, standIns := [], harness := (true, "b58e9aea2de6f92a9c11f546e1420137619d6ded17e112f7c21e28c1ed0f6a74"), looks := true }, kinds := [], alts := [], laidByText := true, laidKinds := [.handle], laidTests := true, laidLooks := .later }
def WipeKeepsCardSaid : Prop := Claim7.holds Tryd.pinned (.plain (OpenSpec.ofChange wipeKeepsSpec)) wipeKeepsCard

/-- THE TIED CARD OF 'shutterlaw16.WipeTwice'. -/
def wipeTwiceCard : Claim7 := { stood := { row := wipeTwiceRow, standIns := [], harness := (true, "b58e9aea2de6f92a9c11f546e1420137619d6ded17e112f7c21e28c1ed0f6a74"), looks := true }, kinds := [], alts := [], laidByText := true, laidKinds := [.handle], laidTests := true, laidLooks := .later }
def WipeTwiceCardSaid : Prop := Claim7.holds Tryd.pinned (.plain (OpenSpec.ofChange wipeTwiceSpec)) wipeTwiceCard

/-- THE SECOND FORM's CARD OF 'shutterlaw16.WipeGuards'. -/
def wipeGuardsUptoCard : Claim7 := { stood := { row := wipeGuardsUptoRow, standIns := [], harness := (true, "b58e9aea2de6f92a9c11f546e1420137619d6ded17e112f7c21e28c1ed0f6a74"), looks := true }, kinds := [], alts := [], laidByText := true, laidKinds := [.handle], laidTests := true, laidLooks := .later }
def WipeGuardsUptoCardSaid : Prop := Claim7.holds Tryd.pinned (.plain (OpenSpec.upto wipeGuardsSpec)) wipeGuardsUptoCard

/-- THE SECOND FORM's CARD OF 'shutterlaw16.WipeHost'. -/
def wipeHostUptoCard : Claim7 := { stood := { row := wipeHostUptoRow, standIns := [], harness := (true, "b58e9aea2de6f92a9c11f546e1420137619d6ded17e112f7c21e28c1ed0f6a74"), looks := true }, kinds := [], alts := [], laidByText := true, laidKinds := [.handle], laidTests := true, laidLooks := .later }
def WipeHostUptoCardSaid : Prop := Claim7.holds Tryd.pinned (.plain (OpenSpec.upto wipeHostSpec)) wipeHostUptoCard

/-- THE SECOND FORM's CARD OF 'shutterlaw16.WipeUndoes'. -/
def wipeUndoesUptoCard : Claim7 := { stood := { row := wipeUndoesUptoRow, standIns := [], harness := (true, "b58e9aea2de6f92a9c11f546e1420137619d6ded17e112f7c21e28c1ed0f6a74"), looks := true }, kinds := [], alts := [], laidByText := true, laidKinds := [.handle], laidTests := true, laidLooks := .later }
def WipeUndoesUptoCardSaid : Prop := Claim7.holds Tryd.pinned (.plain (OpenSpec.upto wipeUndoesSpec)) wipeUndoesUptoCard

/-- THE SECOND FORM's CARD OF 'shutterlaw16.WipeKeeps'. -/
def wipeKeepsUptoCard : Claim7 := { stood := { row := wipeKeepsUptoRow, standIns := [], harness := (true, "b58e9aea2de6f92a9c11f546e1420137619d6ded17e112f7c21e28c1ed0f6a74"), looks := true }, kinds := [], alts := [], laidByText := true, laidKinds := [.handle], laidTests := true, laidLooks := .later }
def WipeKeepsUptoCardSaid : Prop := Claim7.holds Tryd.pinned (.plain (OpenSpec.upto wipeKeepsSpec)) wipeKeepsUptoCard

/-- THE SECOND FORM's CARD OF 'shutterlaw16.WipeTwice'. -/
def wipeTwiceUptoCard : Claim7 := { stood := { row := wipeTwiceUptoRow, standIns := [], harness := (true, "b58e9aea2de6f92a9c11f546e1420137619d6ded17e112f7c21e28c1ed0f6a74"), looks := true }, kinds := [], alts := [], laidByText := true, laidKinds := [.handle], laidTests := true, laidLooks := .later }
def WipeTwiceUptoCardSaid : Prop := Claim7.holds Tryd.pinned (.plain (OpenSpec.upto wipeTwiceSpec)) wipeTwiceUptoCard
end Rows
end Go.Proofs.YtaopkelobglnbaaDoor
