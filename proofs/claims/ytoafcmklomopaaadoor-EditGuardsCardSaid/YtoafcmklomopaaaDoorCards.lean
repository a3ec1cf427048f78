/-
  DERIVED. GIVEN WITH THE SEED: THE CARDS: each row of YtoafcmklomopaaaDoorRows.lean that lists a variable, with what it lists TIED to the program's text (the seventh form; the later family's looks); each row that meets fmt, with fmt's text TOLD by the authors' own Lean function (tested against real Go, not proved from fmt's source: count such statements apart). THE CARD IS WHAT COUNTS. Prove the row's statement (the work); the ties are given (YtoafcmklomopaaaDoorTie.lean); close each card by the builder's one call (the guide's Derived/Test/ToyasCard.lean, 'card_holds'). Laid BY PROGRAM, IN A SANDBOX (cutbox-door.mjs). By AI agents, Wed Nov 11 2026. No macro, syntax, notation, axiom, sorry.
-/
import Derived.Test.YtoafcmklomopaaaDoorRows
import GoSem.ClaimSeven
namespace Go.Proofs.YtoafcmklomopaaaDoor
namespace Rows

/-- THE TIED CARD OF 'shutterlaw14.EditTypes'. -/
def editTypesCard : Claim7 := { stood := { row := editTypesRow, standIns := [], harness := (true, "e7e2aa864c4305f47cf10a330d62ecf8d524a54337f18b548773903787597180"), looks := true }, kinds := [], alts := [], laidByText := true, laidKinds := [.handle], laidTests := true, laidLooks := .later }
def EditTypesCardSaid : Prop := Claim7.holds Tryd.pinned (.plain (OpenSpec.ofChange editTypesSpec)) editTypesCard

/-- THE TIED CARD OF 'shutterlaw14.EditLines'. -/
def editLinesCard : Claim7 := { stood := { row := editLinesRow, standIns := [], harness := (true, "e7e2aa864c4305f47cf10a330d62ecf8d524a54337f18b548773903787597180"), looks := true }, kinds := [], alts := [], laidByText := true, laidKinds := [.handle], laidTests := true, laidLooks := .later }
def EditLinesCardSaid : Prop := Claim7.holds Tryd.pinned (.plain (OpenSpec.ofChange editLinesSpec)) editLinesCard

/-- THE TIED CARD OF 'shutterlaw14.EditGuards'. -/
def editGuardsCard : Claim7 := { stood := { row := editGuardsRow, standIns := [], harness := (true, "e7e2aa864c4305f47cf10a330d62ecf8d524a54337f18b548773903787597180"), looks := true }, kinds := [], alts := [], laidByText := true, laidKinds := [.handle], laidTests := true, laidLooks := .later }
def EditGuardsCardSaid : Prop := Claim7.holds Tryd.pinned (.plain (OpenSpec.ofChange editGuardsSpec)) editGuardsCard

/-- THE TIED CARD OF 'shutterlaw14.EditInserts'. -/
def editInsertsCard : Claim7 := { stood := { row := editInsertsRow, standIns := [], harness := (true, "e7e2aa864c4305f47cf10a330d62ecf8d524a54337f18b548773903787597180"), looks := true }, kinds := [], alts := [], laidByText := true, laidKinds := [.handle], laidTests := true, laidLooks := .later }
def EditInsertsCardSaid : Prop := Claim7.holds Tryd.pinned (.plain (OpenSpec.ofChange editInsertsSpec)) editInsertsCard

/-- THE TIED CARD OF 'shutterlaw14.EditOver'. -/
def editOverCard : Claim7 := { stood := { row := editOverRow, standIns := [], harness := (true, "e7e2aa864c4305f47cf10a330d62ecf8d524a54337f18b548773903787597180"), looks := true }, kinds := [], alts := [], laidByText := true, laidKinds := [.handle], laidTests := true, laidLooks := .later }
def EditOverCardSaid : Prop := Claim7.holds Tryd.pinned (.plain (OpenSpec.ofChange editOverSpec)) editOverCard

/-- THE SECOND FORM's CARD OF 'shutterlaw14.EditTypes'. -/
def editTypesUptoCard : Claim7 := { stood := { row := editTypesUptoRow, standIns := [], harness := (true, "e7e2aa864c4305f47cf10a330d62ecf8d524a54337f18b548773903787597180"), looks := true }, kinds := [], alts := [], laidByText := true, laidKinds := [.handle], laidTests := true, laidLooks := .later }
def EditTypesUptoCardSaid : Prop := Claim7.holds Tryd.pinned (.plain (OpenSpec.upto editTypesSpec)) editTypesUptoCard

/-- THE SECOND FORM's CARD OF 'shutterlaw14.EditLines'. -/
def editLinesUptoCard : Claim7 := { stood := { row := editLinesUptoRow, standIns := [], harness := (true, "e7e2aa864c4305f47cf10a330d62ecf8d524a54337f18b548773903787597180"), looks := true }, kinds := [], alts := [], laidByText := true, laidKinds := [.handle], laidTests := true, laidLooks := .later }
def EditLinesUptoCardSaid : Prop := Claim7.holds Tryd.pinned (.plain (OpenSpec.upto editLinesSpec)) editLinesUptoCard

/-- THE SECOND FORM's CARD OF 'shutterlaw14.EditGuards'. -/
def editGuardsUptoCard : Claim7 := { stood := { row := editGuardsUptoRow, standIns := [], harness := (true, "e7e2aa864c4305f47cf10a330d62ecf8d524a54337f18b548773903787597180"), looks := true }, kinds := [], alts := [], laidByText := true, laidKinds := [.handle], laidTests := true, laidLooks := .later }
def EditGuardsUptoCardSaid : Prop := Claim7.holds Tryd.pinned (.plain (OpenSpec.upto editGuardsSpec)) editGuardsUptoCard

/-- THE SECOND FORM's CARD OF 'shutterlaw14.EditInserts'. -/
def editInsertsUptoCard : Claim7 := { stood := { row := editInsertsUptoRow, standIns := [], harness := (true, "e7e2aa864c4305f47cf10a330d62ecf8d524a54337f18b548773903787597180"), looks := true }, kinds := [], alts := [], laidByText := true, laidKinds := [.handle], laidTests := true, laidLooks := .later }
def EditInsertsUptoCardSaid : Prop := Claim7.holds Tryd.pinned (.plain (OpenSpec.upto editInsertsSpec)) editInsertsUptoCard

/-- THE SECOND FORM's CARD OF 'shutterlaw14.EditOver'. -/
def editOverUptoCard : Claim7 := { stood := { row := editOverUptoRow, standIns := [], harness := (true, "e7e2aa864c4305f47cf10a330d62ecf8d524a54337f18b548773903787597180"), looks := true }, kinds := [], alts := [], laidByText := true, laidKinds := [.handle], laidTests := true, laidLooks := .later }
def EditOverUptoCardSaid : Prop := Claim7.holds Tryd.pinned (.plain (OpenSpec.upto editOverSpec)) editOverUptoCard
end Rows
end Go.Proofs.YtoafcmklomopaaaDoor
