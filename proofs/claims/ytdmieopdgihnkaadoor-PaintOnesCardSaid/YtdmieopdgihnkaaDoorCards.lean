/-
  DERIVED. GIVEN WITH THE SEED: THE CARDS: each row of YtdmieopdgihnkaaDoorRows.lean that lists a variable, with what it lists TIED to the program's text (the seventh form; the later family's looks); each row that meets fmt, with fmt's text TOLD by the authors' own Lean function (tested against real Go, not proved from fmt's source: count such statements apart). THE CARD IS WHAT COUNTS. Prove the row's statement (the work); the ties are given (YtdmieopdgihnkaaDoorTie.lean); close each card by the builder's one call (the guide's Derived/Test/ToyasCard.lean, 'card_holds'). Laid BY PROGRAM, IN A SANDBOX (cutbox-door.mjs). By AI agents, Wed Nov 11 2026. No macro, syntax, notation, axiom, sorry.
-/
import Derived.Test.YtdmieopdgihnkaaDoorRows
import GoSem.ClaimSeven
namespace Go.Proofs.YtdmieopdgihnkaaDoor
namespace Rows

/-- THE TIED CARD OF 'shutterlaw12.PaintOnes'. -/
def paintOnesCard : Claim7 := { stood := { row := paintOnesRow, standIns := [], harness := (true, "036acf867c0cb101894a02e1ac5aa1a51bcff34207e362a3502cce1d9f002959"), looks := true }, kinds := [], alts := [], laidByText := true, laidKinds := [.handle], laidTests := true, laidLooks := .later }
def PaintOnesCardSaid : Prop := Claim7.holds Tryd.pinned (.plain (OpenSpec.ofChange paintOnesSpec)) paintOnesCard

/-- THE TIED CARD OF 'shutterlaw12.PaintAlls'. -/
def paintAllsCard : Claim7 := { stood := { row := paintAllsRow, standIns := [], harness := (true, "036acf867c0cb101894a02e1ac5aa1a51bcff34207e362a3502cce1d9f002959"), looks := true }, kinds := [], alts := [], laidByText := true, laidKinds := [.handle], laidTests := true, laidLooks := .later }
def PaintAllsCardSaid : Prop := Claim7.holds Tryd.pinned (.plain (OpenSpec.ofChange paintAllsSpec)) paintAllsCard

/-- THE TIED CARD OF 'shutterlaw12.PaintGuards'. -/
def paintGuardsCard : Claim7 := { stood := { row := paintGuardsRow, standIns := [], harness := (true, "036acf867c0cb101894a02e1ac5aa1a51bcff34207e362a3502cce1d9f002959"), looks := true }, kinds := [], alts := [], laidByText := true, laidKinds := [.handle], laidTests := true, laidLooks := .later }
def PaintGuardsCardSaid : Prop := Claim7.holds Tryd.pinned (.plain (OpenSpec.ofChange paintGuardsSpec)) paintGuardsCard

/-- THE TIED CARD OF 'shutterlaw12.PaintParts'. -/
def paintPartsCard : Claim7 := { stood := { row := paintPartsRow, standIns := [], harness := (true, "036acf867c0cb101894a02e1ac5aa1a51bcff34207e362a3502cce1d9f002959"), looks := true }, kinds := [], alts := [], laidByText := true, laidKinds := [.handle], laidTests := true, laidLooks := .later }
def PaintPartsCardSaid : Prop := Claim7.holds Tryd.pinned (.plain (OpenSpec.ofChange paintPartsSpec)) paintPartsCard

/-- THE TIED CARD OF 'shutterlaw12.PaintKeeps'. -/
def paintKeepsCard : Claim7 := { stood := { row := paintKeepsRow, standIns := [], harness := (true, "036acf867c0cb101894a02e1ac5aa1a51bcff34207e362a3502cce1d9f002959"), looks := true }, kinds := [], alts := [], laidByText := true, laidKinds := [.handle], laidTests := true, laidLooks := .later }
def PaintKeepsCardSaid : Prop := Claim7.holds Tryd.pinned (.plain (OpenSpec.ofChange paintKeepsSpec)) paintKeepsCard

/-- THE SECOND FORM's CARD OF 'shutterlaw12.PaintOnes'. -/
def paintOnesUptoCard : Claim7 := { stood := { row := paintOnesUptoRow, standIns := [], harness := (true, "036acf867c0cb101894a02e1ac5aa1a51bcff34207e362a3502cce1d9f002959"), looks := true }, kinds := [], alts := [], laidByText := true, laidKinds := [.handle], laidTests := true, laidLooks := .later }
def PaintOnesUptoCardSaid : Prop := Claim7.holds Tryd.pinned (.plain (OpenSpec.upto paintOnesSpec)) paintOnesUptoCard

/-- THE SECOND FORM's CARD OF 'shutterlaw12.PaintAlls'. -/
def paintAllsUptoCard : Claim7 := { stood := { row := paintAllsUptoRow, standIns := [], harness := (true, "036acf867c0cb101894a02e1ac5aa1a51bcff34207e362a3502cce1d9f002959"), looks := true }, kinds := [], alts := [], laidByText := true, laidKinds := [.handle], laidTests := true, laidLooks := .later }
def PaintAllsUptoCardSaid : Prop := Claim7.holds Tryd.pinned (.plain (OpenSpec.upto paintAllsSpec)) paintAllsUptoCard

/-- THE SECOND FORM's CARD OF 'shutterlaw12.PaintGuards'. -/
def paintGuardsUptoCard : Claim7 := { stood := { row := paintGuardsUptoRow, standIns := [], harness := (true, "036acf867c0cb101894a02e1ac5aa1a51bcff34207e362a3502cce1d9f002959"), looks := true }, kinds := [], alts := [], laidByText := true, laidKinds := [.handle], laidTests := true, laidLooks := .later }
def PaintGuardsUptoCardSaid : Prop := Claim7.holds Tryd.pinned (.plain (OpenSpec.upto paintGuardsSpec)) paintGuardsUptoCard

/-- THE SECOND FORM's CARD OF 'shutterlaw12.PaintParts'. -/
def paintPartsUptoCard : Claim7 := { stood := { row := paintPartsUptoRow, standIns := [], harness := (true, "036acf867c0cb101894a02e1ac5aa1a51bcff34207e362a3502cce1d9f002959"), looks := true }, kinds := [], alts := [], laidByText := true, laidKinds := [.handle], laidTests := true, laidLooks := .later }
def PaintPartsUptoCardSaid : Prop := Claim7.holds Tryd.pinned (.plain (OpenSpec.upto paintPartsSpec)) paintPartsUptoCard

/-- THE SECOND FORM's CARD OF 'shutterlaw12.PaintKeeps'. -/
def paintKeepsUptoCard : Claim7 := { stood := { row := paintKeepsUptoRow, standIns := [], harness := (true, "036acf867c0cb101894a02e1ac5aa1a51bcff34207e362a3502cce1d9f002959"), looks := true }, kinds := [], alts := [], laidByText := true, laidKinds := [.handle], laidTests := true, laidLooks := .later }
def PaintKeepsUptoCardSaid : Prop := Claim7.holds Tryd.pinned (.plain (OpenSpec.upto paintKeepsSpec)) paintKeepsUptoCard
end Rows
end Go.Proofs.YtdmieopdgihnkaaDoor
