/-
  DERIVED. GIVEN WITH THE SEED: THE CARDS: each row of YtpgbnnnfeaodmaaGreatDoorRows.lean that lists a variable, with what it lists TIED to the program's text (the seventh form; the later family's looks); each row that meets fmt, with fmt's text TOLD by the authors' own Lean function (tested against real Go, not proved from fmt's source: count such statements apart). THE CARD IS WHAT COUNTS. Prove the row's statement (the work); the ties are given (YtpgbnnnfeaodmaaGreatDoorTie.lean); close each card by the builder's one call (the guide's Derived/Test/ToyasCard.lean, 'card_holds'). Laid BY PROGRAM, IN A SANDBOX (cutbox-door.mjs). By AI agents, Wed Nov 11 2026. No macro, syntax, notation, axiom, sorry.
-/
import Derived.Test.YtpgbnnnfeaodmaaGreatDoorRows
import GoSem.ClaimSeven
namespace Go.Proofs.YtpgbnnnfeaodmaaGreatDoor
namespace Rows

/-- THE TIED CARD OF 'shutterlaw17.KeysDo'. -/
def keysDoCard : Claim7 := { stood := { row := keysDoRow, standIns := [], harness := (true, "c1ebd74d481c7c039647e2e785de7c4a04aeb16f0db3b270b073568c72c7dbcf"), looks := true }, kinds := [], alts := [], laidByText := true, laidKinds := [.handle], laidTests := true, laidLooks := .later }
def KeysDoCardSaid : Prop := Claim7.holds Tryz.pinned (.plain (OpenSpec.ofChange keysDoSpec)) keysDoCard

/-- THE TIED CARD OF 'shutterlaw17.KeysGuard'. -/
def keysGuardCard : Claim7 := { stood := { row := keysGuardRow, standIns := [], harness := (true, "c1ebd74d481c7c039647e2e785de7c4a04aeb16f0db3b270b073568c72c7dbcf"), looks := true }, kinds := [], alts := [], laidByText := true, laidKinds := [.handle], laidTests := true, laidLooks := .later }
def KeysGuardCardSaid : Prop := Claim7.holds Tryz.pinned (.plain (OpenSpec.ofChange keysGuardSpec)) keysGuardCard

/-- THE TIED CARD OF 'shutterlaw17.KeysLocked'. -/
def keysLockedCard : Claim7 := { stood := { row := keysLockedRow, standIns := [], harness := (true, "c1ebd74d481c7c039647e2e785de7c4a04aeb16f0db3b270b073568c72c7dbcf"), looks := true }, kinds := [], alts := [], laidByText := true, laidKinds := [.handle], laidTests := true, laidLooks := .later }
def KeysLockedCardSaid : Prop := Claim7.holds Tryz.pinned (.plain (OpenSpec.ofChange keysLockedSpec)) keysLockedCard

/-- THE TIED CARD OF 'shutterlaw17.KeysAsk'. -/
def keysAskCard : Claim7 := { stood := { row := keysAskRow, standIns := [], harness := (true, "c1ebd74d481c7c039647e2e785de7c4a04aeb16f0db3b270b073568c72c7dbcf"), looks := true }, kinds := [], alts := [], laidByText := true, laidKinds := [.handle], laidTests := true, laidLooks := .later }
def KeysAskCardSaid : Prop := Claim7.holds Tryz.pinned (.plain (OpenSpec.ofChange keysAskSpec)) keysAskCard

/-- THE TIED CARD OF 'shutterlaw17.KeysKeeps'. -/
def keysKeepsCard : Claim7 := { stood := { row := keysKeepsRow, standIns := [], harness := (true, "c1ebd74d481c7c039647e2e785de7c4a04aeb16f0db3b270b073568c72c7dbcf"), looks := true }, kinds := [], alts := [], laidByText := true, laidKinds := [.handle], laidTests := true, laidLooks := .later }
def KeysKeepsCardSaid : Prop := Claim7.holds Tryz.pinned (.plain (OpenSpec.ofChange keysKeepsSpec)) keysKeepsCard

/-- THE SECOND FORM's CARD OF 'shutterlaw17.KeysDo'. -/
def keysDoUptoCard : Claim7 := { stood := { row := keysDoUptoRow, standIns := [], harness := (true, "c1ebd74d481c7c039647e2e785de7c4a04aeb16f0db3b270b073568c72c7dbcf"), looks := true }, kinds := [], alts := [], laidByText := true, laidKinds := [.handle], laidTests := true, laidLooks := .later }
def KeysDoUptoCardSaid : Prop := Claim7.holds Tryz.pinned (.plain (OpenSpec.upto keysDoSpec)) keysDoUptoCard

/-- THE SECOND FORM's CARD OF 'shutterlaw17.KeysGuard'. -/
def keysGuardUptoCard : Claim7 := { stood := { row := keysGuardUptoRow, standIns := [], harness := (true, "c1ebd74d481c7c039647e2e785de7c4a04aeb16f0db3b270b073568c72c7dbcf"), looks := true }, kinds := [], alts := [], laidByText := true, laidKinds := [.handle], laidTests := true, laidLooks := .later }
def KeysGuardUptoCardSaid : Prop := Claim7.holds Tryz.pinned (.plain (OpenSpec.upto keysGuardSpec)) keysGuardUptoCard

/-- THE SECOND FORM's CARD OF 'shutterlaw17.KeysLocked'. -/
def keysLockedUptoCard : Claim7 := { stood := { row := keysLockedUptoRow, standIns := [], harness := (true, "c1ebd74d481c7c039647e2e785de7c4a04aeb16f0db3b270b073568c72c7dbcf"), looks := true }, kinds := [], alts := [], laidByText := true, laidKinds := [.handle], laidTests := true, laidLooks := .later }
def KeysLockedUptoCardSaid : Prop := Claim7.holds Tryz.pinned (.plain (OpenSpec.upto keysLockedSpec)) keysLockedUptoCard

/-- THE SECOND FORM's CARD OF 'shutterlaw17.KeysAsk'. -/
def keysAskUptoCard : Claim7 := { stood := { row := keysAskUptoRow, standIns := [], harness := (true, "c1ebd74d481c7c039647e2e785de7c4a04aeb16f0db3b270b073568c72c7dbcf"), looks := true }, kinds := [], alts := [], laidByText := true, laidKinds := [.handle], laidTests := true, laidLooks := .later }
def KeysAskUptoCardSaid : Prop := Claim7.holds Tryz.pinned (.plain (OpenSpec.upto keysAskSpec)) keysAskUptoCard

/-- THE SECOND FORM's CARD OF 'shutterlaw17.KeysKeeps'. -/
def keysKeepsUptoCard : Claim7 := { stood := { row := keysKeepsUptoRow, standIns := [], harness := (true, "c1ebd74d481c7c039647e2e785de7c4a04aeb16f0db3b270b073568c72c7dbcf"), looks := true }, kinds := [], alts := [], laidByText := true, laidKinds := [.handle], laidTests := true, laidLooks := .later }
def KeysKeepsUptoCardSaid : Prop := Claim7.holds Tryz.pinned (.plain (OpenSpec.upto keysKeepsSpec)) keysKeepsUptoCard
end Rows
end Go.Proofs.YtpgbnnnfeaodmaaGreatDoor
