/-
  DERIVED. GIVEN WITH THE SEED: THE CARDS: each row of YtkobodoejpioeaaDoorRows.lean that lists a variable, with what it lists TIED to the program's text (the seventh form; the later family's looks); each row that meets fmt, with fmt's text TOLD by the authors' own Lean function (tested against real Go, not proved from fmt's source: count such statements apart). THE CARD IS WHAT COUNTS. Prove the row's statement (the work); the ties are given (YtkobodoejpioeaaDoorTie.lean); close each card by the builder's one call (the guide's Derived/Test/ToyasCard.lean, 'card_holds'). Laid BY PROGRAM, IN A SANDBOX (cutbox-door.mjs). By AI agents, Wed Nov 11 2026. No macro, syntax, notation, axiom, sorry.
-/
import Derived.Test.YtkobodoejpioeaaDoorRows
import GoSem.ClaimSeven
namespace Go.Proofs.YtkobodoejpioeaaDoor
namespace Rows

/-- THE TIED CARD OF 'shutterlaw13.HostResets'. -/
def hostResetsCard : Claim7 := { stood := { row := hostResetsRow, standIns := [], harness := (true, "2cd8573dbfdb3ce37cbf030beb30ce63c13c0a31c40a7d1675fb6d77f8d2f69d"), looks := true }, kinds := [], alts := [], laidByText := true, laidKinds := [.handle], laidTests := true, laidLooks := .later }
def HostResetsCardSaid : Prop := Claim7.holds Tryd.pinned (.plain (OpenSpec.ofChange hostResetsSpec)) hostResetsCard

/-- THE TIED CARD OF 'shutterlaw13.HostClean'. -/
def hostCleanCard : Claim7 := { stood := { row := hostCleanRow, standIns := [], harness := (true, "2cd8573dbfdb3ce37cbf030beb30ce63c13c0a31c40a7d1675fb6d77f8d2f69d"), looks := true }, kinds := [], alts := [], laidByText := true, laidKinds := [.handle], laidTests := true, laidLooks := .later }
def HostCleanCardSaid : Prop := Claim7.holds Tryd.pinned (.plain (OpenSpec.ofChange hostCleanSpec)) hostCleanCard

/-- THE TIED CARD OF 'shutterlaw13.HostErases'. -/
def hostErasesCard : Claim7 := { stood := { row := hostErasesRow, standIns := [], harness := (true, "2cd8573dbfdb3ce37cbf030beb30ce63c13c0a31c40a7d1675fb6d77f8d2f69d"), looks := true }, kinds := [], alts := [], laidByText := true, laidKinds := [.handle], laidTests := true, laidLooks := .later }
def HostErasesCardSaid : Prop := Claim7.holds Tryd.pinned (.plain (OpenSpec.ofChange hostErasesSpec)) hostErasesCard

/-- THE TIED CARD OF 'shutterlaw13.HostKeeps'. -/
def hostKeepsCard : Claim7 := { stood := { row := hostKeepsRow, standIns := [], harness := (true, "2cd8573dbfdb3ce37cbf030beb30ce63c13c0a31c40a7d1675fb6d77f8d2f69d"), looks := true }, kinds := [], alts := [], laidByText := true, laidKinds := [.handle], laidTests := true, laidLooks := .later }
def HostKeepsCardSaid : Prop := Claim7.holds Tryd.pinned (.plain (OpenSpec.ofChange hostKeepsSpec)) hostKeepsCard

/-- THE TIED CARD OF 'shutterlaw13.HostTwice'. -/
def hostTwiceCard : Claim7 := { stood := { row := hostTwiceRow, standIns := [], harness := (true, "2cd8573dbfdb3ce37cbf030beb30ce63c13c0a31c40a7d1675fb6d77f8d2f69d"), looks := true }, kinds := [], alts := [], laidByText := true, laidKinds := [.handle], laidTests := true, laidLooks := .later }
def HostTwiceCardSaid : Prop := Claim7.holds Tryd.pinned (.plain (OpenSpec.ofChange hostTwiceSpec)) hostTwiceCard

/-- THE SECOND FORM's CARD OF 'shutterlaw13.HostResets'. -/
def hostResetsUptoCard : Claim7 := { stood := { row := hostResetsUptoRow, standIns := [], harness := (true, "2cd8573dbfdb3ce37cbf030beb30ce63c13c0a31c40a7d1675fb6d77f8d2f69d"), looks := true }, kinds := [], alts := [], laidByText := true, laidKinds := [.handle], laidTests := true, laidLooks := .later }
def HostResetsUptoCardSaid : Prop := Claim7.holds Tryd.pinned (.plain (OpenSpec.upto hostResetsSpec)) hostResetsUptoCard

/-- THE SECOND FORM's CARD OF 'shutterlaw13.HostClean'. -/
def hostCleanUptoCard : Claim7 := { stood := { row := hostCleanUptoRow, standIns := [], harness := (true, "2cd8573dbfdb3ce37cbf030beb30ce63c13c0a31c40a7d1675fb6d77f8d2f69d"), looks := true }, kinds := [], alts := [], laidByText := true, laidKinds := [.handle], laidTests := true, laidLooks := .later }
def HostCleanUptoCardSaid : Prop := Claim7.holds Tryd.pinned (.plain (OpenSpec.upto hostCleanSpec)) hostCleanUptoCard

/-- THE SECOND FORM's CARD OF 'shutterlaw13.HostErases'. -/
def hostErasesUptoCard : Claim7 := { stood := { row := hostErasesUptoRow, standIns := [], harness := (true, "2cd8573dbfdb3ce37cbf030beb30ce63c13c0a31c40a7d1675fb6d77f8d2f69d"), looks := true }, kinds := [], alts := [], laidByText := true, laidKinds := [.handle], laidTests := true, laidLooks := .later }
def HostErasesUptoCardSaid : Prop := Claim7.holds Tryd.pinned (.plain (OpenSpec.upto hostErasesSpec)) hostErasesUptoCard

/-- THE SECOND FORM's CARD OF 'shutterlaw13.HostKeeps'. -/
def hostKeepsUptoCard : Claim7 := { stood := { row := hostKeepsUptoRow, standIns := [], harness := (true, "2cd8573dbfdb3ce37cbf030beb30ce63c13c0a31c40a7d1675fb6d77f8d2f69d"), looks := true }, kinds := [], alts := [], laidByText := true, laidKinds := [.handle], laidTests := true, laidLooks := .later }
def HostKeepsUptoCardSaid : Prop := Claim7.holds Tryd.pinned (.plain (OpenSpec.upto hostKeepsSpec)) hostKeepsUptoCard

/-- THE SECOND FORM's CARD OF 'shutterlaw13.HostTwice'. -/
def hostTwiceUptoCard : Claim7 := { stood := { row := hostTwiceUptoRow, standIns := [], harness := (true, "2cd8573dbfdb3ce37cbf030beb30ce63c13c0a31c40a7d1675fb6d77f8d2f69d"), looks := true }, kinds := [], alts := [], laidByText := true, laidKinds := [.handle], laidTests := true, laidLooks := .later }
def HostTwiceUptoCardSaid : Prop := Claim7.holds Tryd.pinned (.plain (OpenSpec.upto hostTwiceSpec)) hostTwiceUptoCard
end Rows
end Go.Proofs.YtkobodoejpioeaaDoor
