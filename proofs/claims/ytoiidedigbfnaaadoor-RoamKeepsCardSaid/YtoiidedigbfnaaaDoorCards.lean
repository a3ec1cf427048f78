/-
  DERIVED. GIVEN WITH THE SEED: THE CARDS: each row of YtoiidedigbfnaaaDoorRows.lean that lists a variable, with what it lists TIED to the program's text (the seventh form; the later family's looks); each row that meets fmt, with fmt's text TOLD by the authors' own Lean function (tested against real Go, not proved from fmt's source: count such statements apart). THE CARD IS WHAT COUNTS. Prove the row's statement (the work); the ties are given (YtoiidedigbfnaaaDoorTie.lean); close each card by the builder's one call (the guide's Derived/Test/ToyasCard.lean, 'card_holds'). Laid BY PROGRAM, IN A SANDBOX (cutbox-door.mjs). By AI agents, Wed Nov 11 2026. No macro, syntax, notation, axiom, sorry.
-/
import Derived.Test.YtoiidedigbfnaaaDoorRows
import GoSem.ClaimSeven
namespace Go.Proofs.YtoiidedigbfnaaaDoor
namespace Rows

/-- THE TIED CARD OF 'shutterlaw21.RoamNewest'. -/
def roamNewestCard : Claim7 := { stood := { row := roamNewestRow, standIns := [], harness := (true, "9b1ab50d92b9ee6460961a280dc866668a4bc1b519330d604c874a38cbce53fe"), looks := true }, kinds := [], alts := [], laidByText := true, laidKinds := [.handle], laidTests := true, laidLooks := .later }
def RoamNewestCardSaid : Prop := Claim7.holds Tryd.pinned (.plain (OpenSpec.ofChange roamNewestSpec)) roamNewestCard

/-- THE TIED CARD OF 'shutterlaw21.RoamKeeps'. -/
def roamKeepsCard : Claim7 := { stood := { row := roamKeepsRow, standIns := [], harness := (true, "9b1ab50d92b9ee6460961a280dc866668a4bc1b519330d604c874a38cbce53fe"), looks := true }, kinds := [], alts := [], laidByText := true, laidKinds := [.handle], laidTests := true, laidLooks := .later }
def RoamKeepsCardSaid : Prop := Claim7.holds Tryd.pinned (.plain (OpenSpec.ofChange roamKeepsSpec)) roamKeepsCard

/-- THE TIED CARD OF 'shutterlaw21.RoamAgain'. -/
def roamAgainCard : Claim7 := { stood := { row := roamAgainRow, standIns := [], harness := (true, "9b1ab50d92b9ee6460961a280dc866668a4bc1b519330d604c874a38cbce53fe"), looks := true }, kinds := [], alts := [], laidByText := true, laidKinds := [.handle], laidTests := true, laidLooks := .later }
def RoamAgainCardSaid : Prop := Claim7.holds Tryd.pinned (.plain (OpenSpec.ofChange roamAgainSpec)) roamAgainCard

/-- THE SECOND FORM's CARD OF 'shutterlaw21.RoamNewest'. -/
def roamNewestUptoCard : Claim7 := { stood := { row := roamNewestUptoRow, standIns := [], harness := (true, "9b1ab50d92b9ee6460961a280dc866668a4bc1b519330d604c874a38cbce53fe"), looks := true }, kinds := [], alts := [], laidByText := true, laidKinds := [.handle], laidTests := true, laidLooks := .later }
def RoamNewestUptoCardSaid : Prop := Claim7.holds Tryd.pinned (.plain (OpenSpec.upto roamNewestSpec)) roamNewestUptoCard

/-- THE SECOND FORM's CARD OF 'shutterlaw21.RoamKeeps'. -/
def roamKeepsUptoCard : Claim7 := { stood := { row := roamKeepsUptoRow, standIns := [], harness := (true, "9b1ab50d92b9ee6460961a280dc866668a4bc1b519330d604c874a38cbce53fe"), looks := true }, kinds := [], alts := [], laidByText := true, laidKinds := [.handle], laidTests := true, laidLooks := .later }
def RoamKeepsUptoCardSaid : Prop := Claim7.holds Tryd.pinned (.plain (OpenSpec.upto roamKeepsSpec)) roamKeepsUptoCard

/-- THE SECOND FORM's CARD OF 'shutterlaw21.RoamAgain'. -/
def roamAgainUptoCard : Claim7 := { stood := { row := roamAgainUptoRow, standIns := [], harness := (true, "9b1ab50d92b9ee6460961a280dc866668a4bc1b519330d604c874a38cbce53fe"), looks := true }, kinds := [], alts := [], laidByText := true, laidKinds := [.handle], laidTests := true, laidLooks := .later }
def RoamAgainUptoCardSaid : Prop := Claim7.holds Tryd.pinned (.plain (OpenSpec.upto roamAgainSpec)) roamAgainUptoCard
end Rows
end Go.Proofs.YtoiidedigbfnaaaDoor
