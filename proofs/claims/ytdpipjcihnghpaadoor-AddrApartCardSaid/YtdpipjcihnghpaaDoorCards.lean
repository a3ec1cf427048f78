/-
  DERIVED. GIVEN WITH THE SEED: THE CARDS: each row of YtdpipjcihnghpaaDoorRows.lean that lists a variable, with what it lists TIED to the program's text (the seventh form; the later family's looks); each row that meets fmt, with fmt's text TOLD by the authors' own Lean function (tested against real Go, not proved from fmt's source: count such statements apart). THE CARD IS WHAT COUNTS. Prove the row's statement (the work); the ties are given (YtdpipjcihnghpaaDoorTie.lean); close each card by the builder's one call (the guide's Derived/Test/ToyasCard.lean, 'card_holds'). Laid BY PROGRAM, IN A SANDBOX (cutbox-door.mjs). By AI agents, Wed Nov 11 2026. No macro, syntax, notation, axiom, sorry.
-/
import Derived.Test.YtdpipjcihnghpaaDoorRows
import GoSem.ClaimSeven
namespace Go.Proofs.YtdpipjcihnghpaaDoor
namespace Rows

/-- THE TIED CARD OF 'shutterlaw04.AddrGets'. -/
def addrGetsCard : Claim7 := { stood := { row := addrGetsRow, standIns := [], harness := (true, "d53ba403aebbcd2ed21a00b6bef3138a71238aa3c652faf6b42f9e8738e95b1d"), looks := true }, kinds := [], alts := [], laidByText := true, laidKinds := [.handle], laidTests := true, laidLooks := .later }
def AddrGetsCardSaid : Prop := Claim7.holds Tryd.pinned (.plain (OpenSpec.ofChange addrGetsSpec)) addrGetsCard

/-- THE TIED CARD OF 'shutterlaw04.AddrBack'. -/
def addrBackCard : Claim7 := { stood := { row := addrBackRow, standIns := [], harness := (true, "d53ba403aebbcd2ed21a00b6bef3138a71238aa3c652faf6b42f9e8738e95b1d"), looks := true }, kinds := [], alts := [], laidByText := true, laidKinds := [.handle], laidTests := true, laidLooks := .later }
def AddrBackCardSaid : Prop := Claim7.holds Tryd.pinned (.plain (OpenSpec.ofChange addrBackSpec)) addrBackCard

/-- THE TIED CARD OF 'shutterlaw04.AddrApart'. -/
def addrApartCard : Claim7 := { stood := { row := addrApartRow, standIns := [], harness := (true, "d53ba403aebbcd2ed21a00b6bef3138a71238aa3c652faf6b42f9e8738e95b1d"), looks := true }, kinds := [], alts := [], laidByText := true, laidKinds := [.handle], laidTests := true, laidLooks := .later }
def AddrApartCardSaid : Prop := Claim7.holds Tryd.pinned (.plain (OpenSpec.ofChange addrApartSpec)) addrApartCard

/-- THE TIED CARD OF 'shutterlaw04.AddrWays'. -/
def addrWaysCard : Claim7 := { stood := { row := addrWaysRow, standIns := [], harness := (true, "d53ba403aebbcd2ed21a00b6bef3138a71238aa3c652faf6b42f9e8738e95b1d"), looks := true }, kinds := [], alts := [], laidByText := true, laidKinds := [.handle], laidTests := true, laidLooks := .later }
def AddrWaysCardSaid : Prop := Claim7.holds Tryd.pinned (.plain (OpenSpec.ofChange addrWaysSpec)) addrWaysCard

/-- THE SECOND FORM's CARD OF 'shutterlaw04.AddrGets'. -/
def addrGetsUptoCard : Claim7 := { stood := { row := addrGetsUptoRow, standIns := [], harness := (true, "d53ba403aebbcd2ed21a00b6bef3138a71238aa3c652faf6b42f9e8738e95b1d"), looks := true }, kinds := [], alts := [], laidByText := true, laidKinds := [.handle], laidTests := true, laidLooks := .later }
def AddrGetsUptoCardSaid : Prop := Claim7.holds Tryd.pinned (.plain (OpenSpec.upto addrGetsSpec)) addrGetsUptoCard

/-- THE SECOND FORM's CARD OF 'shutterlaw04.AddrBack'. -/
def addrBackUptoCard : Claim7 := { stood := { row := addrBackUptoRow, standIns := [], harness := (true, "d53ba403aebbcd2ed21a00b6bef3138a71238aa3c652faf6b42f9e8738e95b1d"), looks := true }, kinds := [], alts := [], laidByText := true, laidKinds := [.handle], laidTests := true, laidLooks := .later }
def AddrBackUptoCardSaid : Prop := Claim7.holds Tryd.pinned (.plain (OpenSpec.upto addrBackSpec)) addrBackUptoCard

/-- THE SECOND FORM's CARD OF 'shutterlaw04.AddrApart'. -/
def addrApartUptoCard : Claim7 := { stood := { row := addrApartUptoRow, standIns := [], harness := (true, "d53ba403aebbcd2ed21a00b6bef3138a71238aa3c652faf6b42f9e8738e95b1d"), looks := true }, kinds := [], alts := [], laidByText := true, laidKinds := [.handle], laidTests := true, laidLooks := .later }
def AddrApartUptoCardSaid : Prop := Claim7.holds Tryd.pinned (.plain (OpenSpec.upto addrApartSpec)) addrApartUptoCard

/-- THE SECOND FORM's CARD OF 'shutterlaw04.AddrWays'. -/
def addrWaysUptoCard : Claim7 := { stood := { row := addrWaysUptoRow, standIns := [], harness := (true, "d53ba403aebbcd2ed21a00b6bef3138a71238aa3c652faf6b42f9e8738e95b1d"), looks := true }, kinds := [], alts := [], laidByText := true, laidKinds := [.handle], laidTests := true, laidLooks := .later }
def AddrWaysUptoCardSaid : Prop := Claim7.holds Tryd.pinned (.plain (OpenSpec.upto addrWaysSpec)) addrWaysUptoCard
end Rows
end Go.Proofs.YtdpipjcihnghpaaDoor
