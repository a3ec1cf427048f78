/-
  DERIVED. GIVEN WITH THE SEED: THE CARDS: each row of YtblkimpneeeiaaaDoorRows.lean that lists a variable, with what it lists TIED to the program's text (the seventh form; the later family's looks); each row that meets fmt, with fmt's text TOLD by the authors' own Lean function (tested against real Go, not proved from fmt's source: count such statements apart). THE CARD IS WHAT COUNTS. Prove the row's statement (the work); the ties are given (YtblkimpneeeiaaaDoorTie.lean); close each card by the builder's one call (the guide's Derived/Test/ToyasCard.lean, 'card_holds'). Laid BY PROGRAM, IN A SANDBOX (cutbox-door.mjs). By AI agents, Wed Nov 11 2026. No macro, syntax, notation, axiom, sorry.
-/
import Derived.Test.YtblkimpneeeiaaaDoorRows
import GoSem.ClaimSeven
namespace Go.Proofs.YtblkimpneeeiaaaDoor
namespace Rows

/-- THE TIED CARD OF 'shutterlaw06.BytesActs'. -/
def bytesActsCard : Claim7 := { stood := { row := bytesActsRow, standIns := [], harness := (true, "304cf3a8c0686cd596c03e73098376fd418bb3dc46ef4c65183615d06e5188ae"), looks := true }, kinds := [], alts := [], laidByText := true, laidKinds := [.handle], laidTests := true, laidLooks := .later }
def BytesActsCardSaid : Prop := Claim7.holds Tryd.pinned (.plain (OpenSpec.ofChange bytesActsSpec)) bytesActsCard

/-- THE TIED CARD OF 'shutterlaw06.BytesTake'. -/
def bytesTakeCard : Claim7 := { stood := { row := bytesTakeRow, standIns := [], harness := (true, "304cf3a8c0686cd596c03e73098376fd418bb3dc46ef4c65183615d06e5188ae"), looks := true }, kinds := [], alts := [], laidByText := true, laidKinds := [.handle], laidTests := true, laidLooks := .later }
def BytesTakeCardSaid : Prop := Claim7.holds Tryd.pinned (.plain (OpenSpec.ofChange bytesTakeSpec)) bytesTakeCard

/-- THE TIED CARD OF 'shutterlaw06.BytesSticks'. -/
def bytesSticksCard : Claim7 := { stood := { row := bytesSticksRow, standIns := [], harness := (true, "304cf3a8c0686cd596c03e73098376fd418bb3dc46ef4c65183615d06e5188ae"), looks := true }, kinds := [], alts := [], laidByText := true, laidKinds := [.handle], laidTests := true, laidLooks := .later }
def BytesSticksCardSaid : Prop := Claim7.holds Tryd.pinned (.plain (OpenSpec.ofChange bytesSticksSpec)) bytesSticksCard

/-- THE TIED CARD OF 'shutterlaw06.BytesKeeps'. -/
def bytesKeepsCard : Claim7 := { stood := { row := bytesKeepsRow, standIns := [], harness := (true, "304cf3a8c0686cd596c03e73098376fd418bb3dc46ef4c65183615d06e5188ae"), looks := true }, kinds := [], alts := [], laidByText := true, laidKinds := [.handle], laidTests := true, laidLooks := .later }
def BytesKeepsCardSaid : Prop := Claim7.holds Tryd.pinned (.plain (OpenSpec.ofChange bytesKeepsSpec)) bytesKeepsCard

/-- THE SECOND FORM's CARD OF 'shutterlaw06.BytesActs'. -/
def bytesActsUptoCard : Claim7 := { stood := { row := bytesActsUptoRow, standIns := [], harness := (true, "304cf3a8c0686cd596c03e73098376fd418bb3dc46ef4c65183615d06e5188ae"), looks := true }, kinds := [], alts := [], laidByText := true, laidKinds := [.handle], laidTests := true, laidLooks := .later }
def BytesActsUptoCardSaid : Prop := Claim7.holds Tryd.pinned (.plain (OpenSpec.upto bytesActsSpec)) bytesActsUptoCard

/-- THE SECOND FORM's CARD OF 'shutterlaw06.BytesTake'. -/
def bytesTakeUptoCard : Claim7 := { stood := { row := bytesTakeUptoRow, standIns := [], harness := (true, "304cf3a8c0686cd596c03e73098376fd418bb3dc46ef4c65183615d06e5188ae"), looks := true }, kinds := [], alts := [], laidByText := true, laidKinds := [.handle], laidTests := true, laidLooks := .later }
def BytesTakeUptoCardSaid : Prop := Claim7.holds Tryd.pinned (.plain (OpenSpec.upto bytesTakeSpec)) bytesTakeUptoCard

/-- THE SECOND FORM's CARD OF 'shutterlaw06.BytesSticks'. -/
def bytesSticksUptoCard : Claim7 := { stood := { row := bytesSticksUptoRow, standIns := [], harness := (true, "304cf3a8c0686cd596c03e73098376fd418bb3dc46ef4c65183615d06e5188ae"), looks := true }, kinds := [], alts := [], laidByText := true, laidKinds := [.handle], laidTests := true, laidLooks := .later }
def BytesSticksUptoCardSaid : Prop := Claim7.holds Tryd.pinned (.plain (OpenSpec.upto bytesSticksSpec)) bytesSticksUptoCard

/-- THE SECOND FORM's CARD OF 'shutterlaw06.BytesKeeps'. -/
def bytesKeepsUptoCard : Claim7 := { stood := { row := bytesKeepsUptoRow, standIns := [], harness := (true, "304cf3a8c0686cd596c03e73098376fd418bb3dc46ef4c65183615d06e5188ae"), looks := true }, kinds := [], alts := [], laidByText := true, laidKinds := [.handle], laidTests := true, laidLooks := .later }
def BytesKeepsUptoCardSaid : Prop := Claim7.holds Tryd.pinned (.plain (OpenSpec.upto bytesKeepsSpec)) bytesKeepsUptoCard
end Rows
end Go.Proofs.YtblkimpneeeiaaaDoor
