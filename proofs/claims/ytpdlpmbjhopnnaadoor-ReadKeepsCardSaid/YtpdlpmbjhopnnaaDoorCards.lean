/-
  DERIVED. GIVEN WITH THE SEED: THE CARDS: each row of YtpdlpmbjhopnnaaDoorRows.lean that lists a variable, with what it lists TIED to the program's text (the seventh form; the later family's looks); each row that meets fmt, with fmt's text TOLD by the authors' own Lean function (tested against real Go, not proved from fmt's source: count such statements apart). THE CARD IS WHAT COUNTS. Prove the row's statement (the work); the ties are given (YtpdlpmbjhopnnaaDoorTie.lean); close each card by the builder's one call (the guide's Derived/Test/ToyasCard.lean, 'card_holds'). Laid BY PROGRAM, IN A SANDBOX (cutbox-door.mjs). By AI agents, Wed Nov 11 2026. No macro, syntax, notation, axiom, sorry.
-/
import Derived.Test.YtpdlpmbjhopnnaaDoorRows
import GoSem.ClaimSeven
namespace Go.Proofs.YtpdlpmbjhopnnaaDoor
namespace Rows

/-- THE TIED CARD OF 'shutterlaw18.ReadModified'. -/
def readModifiedCard : Claim7 := { stood := { row := readModifiedRow, standIns := [], harness := (true, "458e7dee5b4f1d4d69132e113feec3f40d5960c074e42c5b11ba9d6a85fcd48c"), looks := true }, kinds := [], alts := [], laidByText := true, laidKinds := [.handle], laidTests := true, laidLooks := .later }
def ReadModifiedCardSaid : Prop := Claim7.holds Tryd.pinned (.plain (OpenSpec.ofChange readModifiedSpec)) readModifiedCard

/-- THE TIED CARD OF 'shutterlaw18.ReadImages'. -/
def readImagesCard : Claim7 := { stood := { row := readImagesRow, standIns := [], harness := (true, "458e7dee5b4f1d4d69132e113feec3f40d5960c074e42c5b11ba9d6a85fcd48c"), looks := true }, kinds := [], alts := [], laidByText := true, laidKinds := [.handle], laidTests := true, laidLooks := .later }
def ReadImagesCardSaid : Prop := Claim7.holds Tryd.pinned (.plain (OpenSpec.ofChange readImagesSpec)) readImagesCard

/-- THE TIED CARD OF 'shutterlaw18.ReadKeeps'. -/
def readKeepsCard : Claim7 := { stood := { row := readKeepsRow, standIns := [], harness := (true, "458e7dee5b4f1d4d69132e113feec3f40d5960c074e42c5b11ba9d6a85fcd48c"), looks := true }, kinds := [], alts := [], laidByText := true, laidKinds := [.handle], laidTests := true, laidLooks := .later }
def ReadKeepsCardSaid : Prop := Claim7.holds Tryd.pinned (.plain (OpenSpec.ofChange readKeepsSpec)) readKeepsCard

/-- THE TIED CARD OF 'shutterlaw18.ReadAlone'. -/
def readAloneCard : Claim7 := { stood := { row := readAloneRow, standIns := [], harness := (true, "458e7dee5b4f1d4d69132e113feec3f40d5960c074e42c5b11ba9d6a85fcd48c"), looks := true }, kinds := [], alts := [], laidByText := true, laidKinds := [.handle], laidTests := true, laidLooks := .later }
def ReadAloneCardSaid : Prop := Claim7.holds Tryd.pinned (.plain (OpenSpec.ofChange readAloneSpec)) readAloneCard

/-- THE SECOND FORM's CARD OF 'shutterlaw18.ReadModified'. -/
def readModifiedUptoCard : Claim7 := { stood := { row := readModifiedUptoRow, standIns := [], harness := (true, "458e7dee5b4f1d4d69132e113feec3f40d5960c074e42c5b11ba9d6a85fcd48c"), looks := true }, kinds := [], alts := [], laidByText := true, laidKinds := [.handle], laidTests := true, laidLooks := .later }
def ReadModifiedUptoCardSaid : Prop := Claim7.holds Tryd.pinned (.plain (OpenSpec.upto readModifiedSpec)) readModifiedUptoCard

/-- THE SECOND FORM's CARD OF 'shutterlaw18.ReadImages'. -/
def readImagesUptoCard : Claim7 := { stood := { row := readImagesUptoRow, standIns := [], harness := (true, "458e7dee5b4f1d4d69132e113feec3f40d5960c074e42c5b11ba9d6a85fcd48c"), looks := true }, kinds := [], alts := [], laidByText := true, laidKinds := [.handle], laidTests := true, laidLooks := .later }
def ReadImagesUptoCardSaid : Prop := Claim7.holds Tryd.pinned (.plain (OpenSpec.upto readImagesSpec)) readImagesUptoCard

/-- THE SECOND FORM's CARD OF 'shutterlaw18.ReadKeeps'. -/
def readKeepsUptoCard : Claim7 := { stood := { row := readKeepsUptoRow, standIns := [], harness := (true, "458e7dee5b4f1d4d69132e113feec3f40d5960c074e42c5b11ba9d6a85fcd48c"), looks := true }, kinds := [], alts := [], laidByText := true, laidKinds := [.handle], laidTests := true, laidLooks := .later }
def ReadKeepsUptoCardSaid : Prop := Claim7.holds Tryd.pinned (.plain (OpenSpec.upto readKeepsSpec)) readKeepsUptoCard

/-- THE SECOND FORM's CARD OF 'shutterlaw18.ReadAlone'. -/
def readAloneUptoCard : Claim7 := { stood := { row := readAloneUptoRow, standIns := [], harness := (true, "458e7dee5b4f1d4d69132e113feec3f40d5960c074e42c5b11ba9d6a85fcd48c"), looks := true }, kinds := [], alts := [], laidByText := true, laidKinds := [.handle], laidTests := true, laidLooks := .later }
def ReadAloneUptoCardSaid : Prop := Claim7.holds Tryd.pinned (.plain (OpenSpec.upto readAloneSpec)) readAloneUptoCard
end Rows
end Go.Proofs.YtpdlpmbjhopnnaaDoor
