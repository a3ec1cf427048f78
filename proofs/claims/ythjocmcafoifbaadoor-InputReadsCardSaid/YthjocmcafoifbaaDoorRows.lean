/-
  NARROWER THAN 'FOR EVERY INPUT', by the rows' own cells (each row's printed sentence says how): InputReads: laid · InputBack: laid · InputApart: laid · InputKeeps: laid · InputLengths: laid.
  DERIVED. THE GIVEN ROWS OF THIS SEAT. 5 by the template 'for every input the law returns true; each argument reads behind the call as it read before'; 0 by the template 'total and deterministic' (their statements: YthjocmcafoifbaaDoorTotals.lean).
  GIVEN WITH THE SEED: the statements are not yours to turn. If you find one false, say at which input.
  Laid BY PROGRAM, IN A SANDBOX (cutbox-rows.mjs): the forced cells as the released guide's own fill.sh prints them over the translation 7d00d5747765cf2b… (all of the seat's roots in one cut). By AI agents, Wed Nov 11 2026. No macro, syntax, notation, axiom, sorry.
-/
import Derived.Test.YthjocmcafoifbaaDoorChecked
import GoSem.Claim
import GoSem.ClaimJoined
import GoSem.ClaimMapViews
import Derived.JoinedTies
import Derived.KernelRfl
namespace Go.Proofs.YthjocmcafoifbaaDoor
/- THE CELL 'sum', in the pinned program and in every row, IS THE sha256 OF THE DUMP (.gsa) THAT YthjocmcafoifbaaDoorProg.lean LOADS. Nothing in Lean hashes anything: it is a label: what it is worth is what the hold of that sum in a sandbox is worth. -/
noncomputable def Tryd.pinned : Pinned := { name := "ythjocmcafoifbaadoor", sum := "7d00d5747765cf2b26250deef62eaa515be0b2fc135a348570d34fc9feff0e79", checked := Tryd.checked }
namespace Rows
def none {H : Type} : Left H := { results := [], args := [] }

/- WHAT THE LISTED PACKAGE-LEVEL VARIABLES READ AS WHEN THE CALL BEGINS. Each datum BY PROGRAM (the guide's laid-datum.mjs) off the statement by which the dump's own 'gosem.cut.vars' lays the variable. In a bare row this is a premise. The card (YthjocmcafoifbaaDoorCards.lean) ties it to the program's text. -/
def laid_errors_errorType {H : Type} : DataW H := .iface "internal/reflectlite.rtype" (.agg [.ptr (.lit (.string [101, 114, 114, 111, 114]))])

/-- 'shutterlaw09.InputReads': WHATEVER THE INPUT: true; the input reads as it did. -/
def inputReadsSpec : ChangeSpec := { name := "inputReads", fn := fun _ => fun
  | [d1, d2] => { results := [.lit (.bool true)], args := [d1, d2] }
  | _ => none }
def inputReadsRow : OpenClaim := { program := "ythjocmcafoifbaadoor", sum := "7d00d5747765cf2b26250deef62eaa515be0b2fc135a348570d34fc9feff0e79", func := "shutter/shutterlaw09.InputReads", spec := "inputReads", inPlace := ["internal/reflectlite.ValueOf", "(internal/reflectlite.Value).Type", "(internal/reflectlite.Value).IsNil", "internal/reflectlite.TypeOf", "(internal/reflectlite.Value).Elem", "(internal/reflectlite.Value).Set"], unfollowed := true, recurses := true, named := ["errors.errorType"], apart := false, laid := [("errors.errorType", laid_errors_errorType)] }
def InputReadsSaid : Prop := inputReadsRow.holds Tryd.pinned (OpenSpec.ofChange inputReadsSpec)

/-- ITS FALSE NEIGHBOUR: 'it returns false'. Refute it at one input. -/
def inputReadsWrong : ChangeSpec := { name := "inputReads", fn := fun _ => fun
  | [d1, d2] => { results := [.lit (.bool false)], args := [d1, d2] }
  | _ => none }
def InputReadsWrongFalsely : Prop := inputReadsRow.holds Tryd.pinned (OpenSpec.ofChange inputReadsWrong)

/-- 'shutterlaw09.InputBack': WHATEVER THE INPUT: true; the input reads as it did. -/
def inputBackSpec : ChangeSpec := { name := "inputBack", fn := fun _ => fun
  | [d1, d2, d3] => { results := [.lit (.bool true)], args := [d1, d2, d3] }
  | _ => none }
def inputBackRow : OpenClaim := { program := "ythjocmcafoifbaadoor", sum := "7d00d5747765cf2b26250deef62eaa515be0b2fc135a348570d34fc9feff0e79", func := "shutter/shutterlaw09.InputBack", spec := "inputBack", inPlace := ["internal/reflectlite.ValueOf", "(internal/reflectlite.Value).Type", "(internal/reflectlite.Value).IsNil", "internal/reflectlite.TypeOf", "(internal/reflectlite.Value).Elem", "(internal/reflectlite.Value).Set"], unfollowed := true, recurses := true, named := ["errors.errorType"], apart := false, laid := [("errors.errorType", laid_errors_errorType)] }
def InputBackSaid : Prop := inputBackRow.holds Tryd.pinned (OpenSpec.ofChange inputBackSpec)

/-- ITS FALSE NEIGHBOUR: 'it returns false'. Refute it at one input. -/
def inputBackWrong : ChangeSpec := { name := "inputBack", fn := fun _ => fun
  | [d1, d2, d3] => { results := [.lit (.bool false)], args := [d1, d2, d3] }
  | _ => none }
def InputBackWrongFalsely : Prop := inputBackRow.holds Tryd.pinned (OpenSpec.ofChange inputBackWrong)

/-- 'shutterlaw09.InputApart': WHATEVER THE INPUT: true; the input reads as it did. -/
def inputApartSpec : ChangeSpec := { name := "inputApart", fn := fun _ => fun
  | [d1, d2, d3] => { results := [.lit (.bool true)], args := [d1, d2, d3] }
  | _ => none }
def inputApartRow : OpenClaim := { program := "ythjocmcafoifbaadoor", sum := "7d00d5747765cf2b26250deef62eaa515be0b2fc135a348570d34fc9feff0e79", func := "shutter/shutterlaw09.InputApart", spec := "inputApart", inPlace := ["internal/reflectlite.ValueOf", "(internal/reflectlite.Value).Type", "(internal/reflectlite.Value).IsNil", "internal/reflectlite.TypeOf", "(internal/reflectlite.Value).Elem", "(internal/reflectlite.Value).Set"], unfollowed := true, recurses := true, named := ["errors.errorType"], apart := false, laid := [("errors.errorType", laid_errors_errorType)] }
def InputApartSaid : Prop := inputApartRow.holds Tryd.pinned (OpenSpec.ofChange inputApartSpec)

/-- ITS FALSE NEIGHBOUR: 'it returns false'. Refute it at one input. -/
def inputApartWrong : ChangeSpec := { name := "inputApart", fn := fun _ => fun
  | [d1, d2, d3] => { results := [.lit (.bool false)], args := [d1, d2, d3] }
  | _ => none }
def InputApartWrongFalsely : Prop := inputApartRow.holds Tryd.pinned (OpenSpec.ofChange inputApartWrong)

/-- 'shutterlaw09.InputKeeps': WHATEVER THE INPUT: true; the input reads as it did. -/
def inputKeepsSpec : ChangeSpec := { name := "inputKeeps", fn := fun _ => fun
  | [d] => { results := [.lit (.bool true)], args := [d] }
  | _ => none }
def inputKeepsRow : OpenClaim := { program := "ythjocmcafoifbaadoor", sum := "7d00d5747765cf2b26250deef62eaa515be0b2fc135a348570d34fc9feff0e79", func := "shutter/shutterlaw09.InputKeeps", spec := "inputKeeps", inPlace := ["internal/reflectlite.ValueOf", "(internal/reflectlite.Value).Type", "(internal/reflectlite.Value).IsNil", "internal/reflectlite.TypeOf", "(internal/reflectlite.Value).Elem", "(internal/reflectlite.Value).Set"], unfollowed := true, recurses := true, named := ["errors.errorType"], apart := false, laid := [("errors.errorType", laid_errors_errorType)] }
def InputKeepsSaid : Prop := inputKeepsRow.holds Tryd.pinned (OpenSpec.ofChange inputKeepsSpec)

/-- ITS FALSE NEIGHBOUR: 'it returns false'. Refute it at one input. -/
def inputKeepsWrong : ChangeSpec := { name := "inputKeeps", fn := fun _ => fun
  | [d] => { results := [.lit (.bool false)], args := [d] }
  | _ => none }
def InputKeepsWrongFalsely : Prop := inputKeepsRow.holds Tryd.pinned (OpenSpec.ofChange inputKeepsWrong)

/-- 'shutterlaw09.InputLengths': WHATEVER THE INPUT: true; the input reads as it did. -/
def inputLengthsSpec : ChangeSpec := { name := "inputLengths", fn := fun _ => fun
  | [d1, d2] => { results := [.lit (.bool true)], args := [d1, d2] }
  | _ => none }
def inputLengthsRow : OpenClaim := { program := "ythjocmcafoifbaadoor", sum := "7d00d5747765cf2b26250deef62eaa515be0b2fc135a348570d34fc9feff0e79", func := "shutter/shutterlaw09.InputLengths", spec := "inputLengths", inPlace := ["internal/reflectlite.ValueOf", "(internal/reflectlite.Value).Type", "(internal/reflectlite.Value).IsNil", "internal/reflectlite.TypeOf", "(internal/reflectlite.Value).Elem", "(internal/reflectlite.Value).Set"], unfollowed := true, recurses := true, named := ["errors.errorType"], apart := false, laid := [("errors.errorType", laid_errors_errorType)] }
def InputLengthsSaid : Prop := inputLengthsRow.holds Tryd.pinned (OpenSpec.ofChange inputLengthsSpec)

/-- ITS FALSE NEIGHBOUR: 'it returns false'. Refute it at one input. -/
def inputLengthsWrong : ChangeSpec := { name := "inputLengths", fn := fun _ => fun
  | [d1, d2] => { results := [.lit (.bool false)], args := [d1, d2] }
  | _ => none }
def InputLengthsWrongFalsely : Prop := inputLengthsRow.holds Tryd.pinned (OpenSpec.ofChange inputLengthsWrong)

/- THE SECOND FORM. 'bulk': how many values and letters a reading holds, each counted each time it is reached (what is shared counts as often as it is met; a slice's spare places count too). A statement '..UptoSaid' is the law's where the arguments, and the package variables that the reading takes, are together of bulk at most 1048576: NARROWER than '..Said'. Prove '..Said' where nothing that the law and all that it calls make is longer than what came in: it says more and counts as full. Else prove '..UptoSaid'. A law counts once. -/
mutual
def uptoBulk {H : Type} : DataW H → Nat
  | .lit (.string bytes) => bytes.length + 1
  | .lit _ => 1
  | .nil => 1
  | .ptr d => uptoBulk d + 1
  | .slice elems spare => uptoBulkAll elems + uptoBulkAll spare + 1
  | .agg parts => uptoBulkAll parts + 1
  | .iface _ d => uptoBulk d + 1
  | .map entries => uptoBulkEntries entries + 1
  | .held _ => 1
def uptoBulkAll {H : Type} : List (DataW H) → Nat
  | [] => 0
  | d :: r => uptoBulk d + uptoBulkAll r
def uptoBulkEntries {H : Type} : List (Lit × DataW H) → Nat
  | [] => 0
  | x :: r => uptoBulkEntry x + uptoBulkEntries r
def uptoBulkEntry {H : Type} : Lit × DataW H → Nat
  | (.string bytes, d) => bytes.length + uptoBulk d + 1
  | (_, d) => uptoBulk d + 1
 end
def uptoSmall : (H : Type) → List (DataW H) → Bool := fun _ ds => decide (uptoBulkAll ds ≤ 1048576)
def OpenSpec.upto (s : _root_.Go.ChangeSpec) : _root_.Go.OpenSpec := { _root_.Go.OpenSpec.ofChange s with cond := some uptoSmall }

/-- 'shutterlaw09.InputReads', WHERE WHAT IT READS IS OF BULK AT MOST 1048576: true; the input reads as it did. -/
def inputReadsUptoRow : OpenClaim := { program := "ythjocmcafoifbaadoor", sum := "7d00d5747765cf2b26250deef62eaa515be0b2fc135a348570d34fc9feff0e79", func := "shutter/shutterlaw09.InputReads", spec := "inputReads", inPlace := ["internal/reflectlite.ValueOf", "(internal/reflectlite.Value).Type", "(internal/reflectlite.Value).IsNil", "internal/reflectlite.TypeOf", "(internal/reflectlite.Value).Elem", "(internal/reflectlite.Value).Set"], unfollowed := true, recurses := true, named := ["errors.errorType"], apart := false, laid := [("errors.errorType", laid_errors_errorType)], narrowed := true }
def InputReadsUptoSaid : Prop := inputReadsUptoRow.holds Tryd.pinned (OpenSpec.upto inputReadsSpec)

/-- 'shutterlaw09.InputBack', WHERE WHAT IT READS IS OF BULK AT MOST 1048576: true; the input reads as it did. -/
def inputBackUptoRow : OpenClaim := { program := "ythjocmcafoifbaadoor", sum := "7d00d5747765cf2b26250deef62eaa515be0b2fc135a348570d34fc9feff0e79", func := "shutter/shutterlaw09.InputBack", spec := "inputBack", inPlace := ["internal/reflectlite.ValueOf", "(internal/reflectlite.Value).Type", "(internal/reflectlite.Value).IsNil", "internal/reflectlite.TypeOf", "(internal/reflectlite.Value).Elem", "(internal/reflectlite.Value).Set"], unfollowed := true, recurses := true, named := ["errors.errorType"], apart := false, laid := [("errors.errorType", laid_errors_errorType)], narrowed := true }
def InputBackUptoSaid : Prop := inputBackUptoRow.holds Tryd.pinned (OpenSpec.upto inputBackSpec)

/-- 'shutterlaw09.InputApart', WHERE WHAT IT READS IS OF BULK AT MOST 1048576: true; the input reads as it did. -/
def inputApartUptoRow : OpenClaim := { program := "ythjocmcafoifbaadoor", sum := "7d00d5747765cf2b26250deef62eaa515be0b2fc135a348570d34fc9feff0e79", func := "shutter/shutterlaw09.InputApart", spec := "inputApart", inPlace := ["internal/reflectlite.ValueOf", "(internal/reflectlite.Value).Type", "(internal/reflectlite.Value).IsNil", "internal/reflectlite.TypeOf", "(internal/reflectlite.Value).Elem", "(internal/reflectlite.Value).Set"], unfollowed := true, recurses := true, named := ["errors.errorType"], apart := false, laid := [("errors.errorType", laid_errors_errorType)], narrowed := true }
def InputApartUptoSaid : Prop := inputApartUptoRow.holds Tryd.pinned (OpenSpec.upto inputApartSpec)

/-- 'shutterlaw09.InputKeeps', WHERE WHAT IT READS IS OF BULK AT MOST 1048576: true; the input reads as it did. -/
def inputKeepsUptoRow : OpenClaim := { program := "ythjocmcafoifbaadoor", sum := "7d00d5747765cf2b26250deef62eaa515be0b2fc135a348570d34fc9feff0e79", func := "shutter/shutterlaw09.InputKeeps", spec := "inputKeeps", inPlace := ["internal/reflectlite.ValueOf", "(internal/reflectlite.Value).Type", "(internal/reflectlite.Value).IsNil", "internal/reflectlite.TypeOf", "(internal/reflectlite.Value).Elem", "(internal/reflectlite.Value).Set"], unfollowed := true, recurses := true, named := ["errors.errorType"], apart := false, laid := [("errors.errorType", laid_errors_errorType)], narrowed := true }
def InputKeepsUptoSaid : Prop := inputKeepsUptoRow.holds Tryd.pinned (OpenSpec.upto inputKeepsSpec)

/-- 'shutterlaw09.InputLengths', WHERE WHAT IT READS IS OF BULK AT MOST 1048576: true; the input reads as it did. -/
def inputLengthsUptoRow : OpenClaim := { program := "ythjocmcafoifbaadoor", sum := "7d00d5747765cf2b26250deef62eaa515be0b2fc135a348570d34fc9feff0e79", func := "shutter/shutterlaw09.InputLengths", spec := "inputLengths", inPlace := ["internal/reflectlite.ValueOf", "(internal/reflectlite.Value).Type", "(internal/reflectlite.Value).IsNil", "internal/reflectlite.TypeOf", "(internal/reflectlite.Value).Elem", "(internal/reflectlite.Value).Set"], unfollowed := true, recurses := true, named := ["errors.errorType"], apart := false, laid := [("errors.errorType", laid_errors_errorType)], narrowed := true }
def InputLengthsUptoSaid : Prop := inputLengthsUptoRow.holds Tryd.pinned (OpenSpec.upto inputLengthsSpec)

end Rows
end Go.Proofs.YthjocmcafoifbaaDoor
