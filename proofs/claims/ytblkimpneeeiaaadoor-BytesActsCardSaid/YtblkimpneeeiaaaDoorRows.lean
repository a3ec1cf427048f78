/-
  NARROWER THAN 'FOR EVERY INPUT', by the rows' own cells (each row's printed sentence says how): BytesActs: laid · BytesTake: laid · BytesSticks: laid · BytesKeeps: laid.
  DERIVED. THE GIVEN ROWS OF THIS SEAT. 4 by the template 'for every input the law returns true; each argument reads behind the call as it read before'; 0 by the template 'total and deterministic' (their statements: YtblkimpneeeiaaaDoorTotals.lean).
  GIVEN WITH THE SEED: the statements are not yours to turn. If you find one false, say at which input.
  Laid BY PROGRAM, IN A SANDBOX (cutbox-rows.mjs): the forced cells as the released guide's own fill.sh prints them over the translation f686c0f008f8910a… (all of the seat's roots in one cut). By AI agents, Wed Nov 11 2026. No macro, syntax, notation, axiom, sorry.
-/
import Derived.Test.YtblkimpneeeiaaaDoorChecked
import GoSem.Claim
import GoSem.ClaimJoined
import GoSem.ClaimMapViews
import Derived.JoinedTies
import Derived.KernelRfl
namespace Go.Proofs.YtblkimpneeeiaaaDoor
/- THE CELL 'sum', in the pinned program and in every row, IS THE sha256 OF THE DUMP (.gsa) THAT YtblkimpneeeiaaaDoorProg.lean LOADS. Nothing in Lean hashes anything: it is a label: what it is worth is what the hold of that sum in a sandbox is worth. -/
noncomputable def Tryd.pinned : Pinned := { name := "ytblkimpneeeiaaadoor", sum := "f686c0f008f8910a35ee82bc884d9301c02f02b399ee260d389204e83ef2a682", checked := Tryd.checked }
namespace Rows
def none {H : Type} : Left H := { results := [], args := [] }

/- WHAT THE LISTED PACKAGE-LEVEL VARIABLES READ AS WHEN THE CALL BEGINS. Each datum BY PROGRAM (the guide's laid-datum.mjs) off the statement by which the dump's own 'gosem.cut.vars' lays the variable. In a bare row this is a premise. The card (YtblkimpneeeiaaaDoorCards.lean) ties it to the program's text. -/
def laid_errors_errorType {H : Type} : DataW H := .iface "internal/reflectlite.rtype" (.agg [.ptr (.lit (.string [101, 114, 114, 111, 114]))])

/-- 'shutterlaw06.BytesActs': WHATEVER THE INPUT: true; the input reads as it did. -/
def bytesActsSpec : ChangeSpec := { name := "bytesActs", fn := fun _ => fun
  | [d1, d2, d3] => { results := [.lit (.bool true)], args := [d1, d2, d3] }
  | _ => none }
def bytesActsRow : OpenClaim := { program := "ytblkimpneeeiaaadoor", sum := "f686c0f008f8910a35ee82bc884d9301c02f02b399ee260d389204e83ef2a682", func := "shutter/shutterlaw06.BytesActs", spec := "bytesActs", inPlace := ["internal/reflectlite.ValueOf", "(internal/reflectlite.Value).Type", "(internal/reflectlite.Value).IsNil", "internal/reflectlite.TypeOf", "(internal/reflectlite.Value).Elem", "(internal/reflectlite.Value).Set"], unfollowed := true, recurses := true, named := ["errors.errorType"], apart := false, laid := [("errors.errorType", laid_errors_errorType)] }
def BytesActsSaid : Prop := bytesActsRow.holds Tryd.pinned (OpenSpec.ofChange bytesActsSpec)

/-- ITS FALSE NEIGHBOUR: 'it returns false'. Refute it at one input. -/
def bytesActsWrong : ChangeSpec := { name := "bytesActs", fn := fun _ => fun
  | [d1, d2, d3] => { results := [.lit (.bool false)], args := [d1, d2, d3] }
  | _ => none }
def BytesActsWrongFalsely : Prop := bytesActsRow.holds Tryd.pinned (OpenSpec.ofChange bytesActsWrong)

/-- 'shutterlaw06.BytesTake': WHATEVER THE INPUT: true; the input reads as it did. -/
def bytesTakeSpec : ChangeSpec := { name := "bytesTake", fn := fun _ => fun
  | [d1, d2] => { results := [.lit (.bool true)], args := [d1, d2] }
  | _ => none }
def bytesTakeRow : OpenClaim := { program := "ytblkimpneeeiaaadoor", sum := "f686c0f008f8910a35ee82bc884d9301c02f02b399ee260d389204e83ef2a682", func := "shutter/shutterlaw06.BytesTake", spec := "bytesTake", inPlace := ["internal/reflectlite.ValueOf", "(internal/reflectlite.Value).Type", "(internal/reflectlite.Value).IsNil", "internal/reflectlite.TypeOf", "(internal/reflectlite.Value).Elem", "(internal/reflectlite.Value).Set"], unfollowed := true, recurses := true, named := ["errors.errorType"], apart := false, laid := [("errors.errorType", laid_errors_errorType)] }
def BytesTakeSaid : Prop := bytesTakeRow.holds Tryd.pinned (OpenSpec.ofChange bytesTakeSpec)

/-- ITS FALSE NEIGHBOUR: 'it returns false'. Refute it at one input. -/
def bytesTakeWrong : ChangeSpec := { name := "bytesTake", fn := fun _ => fun
  | [d1, d2] => { results := [.lit (.bool false)], args := [d1, d2] }
  | _ => none }
def BytesTakeWrongFalsely : Prop := bytesTakeRow.holds Tryd.pinned (OpenSpec.ofChange bytesTakeWrong)

/-- 'shutterlaw06.BytesSticks': WHATEVER THE INPUT: true; the input reads as it did. -/
def bytesSticksSpec : ChangeSpec := { name := "bytesSticks", fn := fun _ => fun
  | [d1, d2, d3] => { results := [.lit (.bool true)], args := [d1, d2, d3] }
  | _ => none }
def bytesSticksRow : OpenClaim := { program := "ytblkimpneeeiaaadoor", sum := "f686c0f008f8910a35ee82bc884d9301c02f02b399ee260d389204e83ef2a682", func := "shutter/shutterlaw06.BytesSticks", spec := "bytesSticks", inPlace := ["internal/reflectlite.ValueOf", "(internal/reflectlite.Value).Type", "(internal/reflectlite.Value).IsNil", "internal/reflectlite.TypeOf", "(internal/reflectlite.Value).Elem", "(internal/reflectlite.Value).Set"], unfollowed := true, recurses := true, named := ["errors.errorType"], apart := false, laid := [("errors.errorType", laid_errors_errorType)] }
def BytesSticksSaid : Prop := bytesSticksRow.holds Tryd.pinned (OpenSpec.ofChange bytesSticksSpec)

/-- ITS FALSE NEIGHBOUR: 'it returns false'. Refute it at one input. -/
def bytesSticksWrong : ChangeSpec := { name := "bytesSticks", fn := fun _ => fun
  | [d1, d2, d3] => { results := [.lit (.bool false)], args := [d1, d2, d3] }
  | _ => none }
def BytesSticksWrongFalsely : Prop := bytesSticksRow.holds Tryd.pinned (OpenSpec.ofChange bytesSticksWrong)

/-- 'shutterlaw06.BytesKeeps': WHATEVER THE INPUT: true; the input reads as it did. -/
def bytesKeepsSpec : ChangeSpec := { name := "bytesKeeps", fn := fun _ => fun
  | [d] => { results := [.lit (.bool true)], args := [d] }
  | _ => none }
def bytesKeepsRow : OpenClaim := { program := "ytblkimpneeeiaaadoor", sum := "f686c0f008f8910a35ee82bc884d9301c02f02b399ee260d389204e83ef2a682", func := "shutter/shutterlaw06.BytesKeeps", spec := "bytesKeeps", inPlace := ["internal/reflectlite.ValueOf", "(internal/reflectlite.Value).Type", "(internal/reflectlite.Value).IsNil", "internal/reflectlite.TypeOf", "(internal/reflectlite.Value).Elem", "(internal/reflectlite.Value).Set"], unfollowed := true, recurses := true, named := ["errors.errorType"], apart := false, laid := [("errors.errorType", laid_errors_errorType)] }
def BytesKeepsSaid : Prop := bytesKeepsRow.holds Tryd.pinned (OpenSpec.ofChange bytesKeepsSpec)

/-- ITS FALSE NEIGHBOUR: 'it returns false'. Refute it at one input. -/
def bytesKeepsWrong : ChangeSpec := { name := "bytesKeeps", fn := fun _ => fun
  | [d] => { results := [.lit (.bool false)], args := [d] }
  | _ => none }
def BytesKeepsWrongFalsely : Prop := bytesKeepsRow.holds Tryd.pinned (OpenSpec.ofChange bytesKeepsWrong)

/- THE SECOND FORM. 'bulk': how many values and letters a reading holds, each counted each time it is reached (what is shared counts as often as it is met; a slice's spare places count too). A statement '..UptoSaid' is the law's where the arguments, and the package variables that the reading takes, are together of bulk at most 1048576: NARROWER than '..Said'. Prove '..Said' where nothing that the law and all that it calls make is longer than what came in: it says more and counts as full. Else prove '..UptoSaid'. A law counts once. -/
mutual
def uptoBulk {H : Type} : DataW H → Nat
  | .lit (.string bytes) => bytes.length + 1
  | .lit _ => 1
  | .nil => 1
  | .ptr d => uptoBulk d + 1
  | .slice elems spare => uptoBulkAll elems + uptoBulkAll spare + 1
  | .agg parts => uptoBulkAll parts + 1
  | .iface _ d => uptoBulk d + 1
  | .map entries => uptoBulkEntries entries + 1
  | .held _ => 1
def uptoBulkAll {H : Type} : List (DataW H) → Nat
  | [] => 0
  | d :: r => uptoBulk d + uptoBulkAll r
def uptoBulkEntries {H : Type} : List (Lit × DataW H) → Nat
  | [] => 0
  | x :: r => uptoBulkEntry x + uptoBulkEntries r
def uptoBulkEntry {H : Type} : Lit × DataW H → Nat
  | (.string bytes, d) => bytes.length + uptoBulk d + 1
  | (_, d) => uptoBulk d + 1
 end
def uptoSmall : (H : Type) → List (DataW H) → Bool := fun _ ds => decide (uptoBulkAll ds ≤ 1048576)
def OpenSpec.upto (s : _root_.Go.ChangeSpec) : _root_.Go.OpenSpec := { _root_.Go.OpenSpec.ofChange s with cond := some uptoSmall }

/-- 'shutterlaw06.BytesActs', WHERE WHAT IT READS IS OF BULK AT MOST 1048576: true; the input reads as it did. -/
def bytesActsUptoRow : OpenClaim := { program := "ytblkimpneeeiaaadoor", sum := "f686c0f008f8910a35ee82bc884d9301c02f02b399ee260d389204e83ef2a682", func := "shutter/shutterlaw06.BytesActs", spec := "bytesActs", inPlace := ["internal/reflectlite.ValueOf", "(internal/reflectlite.Value).Type", "(internal/reflectlite.Value).IsNil", "internal/reflectlite.TypeOf", "(internal/reflectlite.Value).Elem", "(internal/reflectlite.Value).Set"], unfollowed := true, recurses := true, named := ["errors.errorType"], apart := false, laid := [("errors.errorType", laid_errors_errorType)], narrowed := true }
def BytesActsUptoSaid : Prop := bytesActsUptoRow.holds Tryd.pinned (OpenSpec.upto bytesActsSpec)

/-- 'shutterlaw06.BytesTake', WHERE WHAT IT READS IS OF BULK AT MOST 1048576: true; the input reads as it did. -/
def bytesTakeUptoRow : OpenClaim := { program := "ytblkimpneeeiaaadoor", sum := "f686c0f008f8910a35ee82bc884d9301c02f02b399ee260d389204e83ef2a682", func := "shutter/shutterlaw06.BytesTake", spec := "bytesTake", inPlace := ["internal/reflectlite.ValueOf", "(internal/reflectlite.Value).Type", "(internal/reflectlite.Value).IsNil", "internal/reflectlite.TypeOf", "(internal/reflectlite.Value).Elem", "(internal/reflectlite.Value).Set"], unfollowed := true, recurses := true, named := ["errors.errorType"], apart := false, laid := [("errors.errorType", laid_errors_errorType)], narrowed := true }
def BytesTakeUptoSaid : Prop := bytesTakeUptoRow.holds Tryd.pinned (OpenSpec.upto bytesTakeSpec)

/-- 'shutterlaw06.BytesSticks', WHERE WHAT IT READS IS OF BULK AT MOST 1048576: true; the input reads as it did. -/
def bytesSticksUptoRow : OpenClaim := { program := "ytblkimpneeeiaaadoor", sum := "f686c0f008f8910a35ee82bc884d9301c02f02b399ee260d389204e83ef2a682", func := "shutter/shutterlaw06.BytesSticks", spec := "bytesSticks", inPlace := ["internal/reflectlite.ValueOf", "(internal/reflectlite.Value).Type", "(internal/reflectlite.Value).IsNil", "internal/reflectlite.TypeOf", "(internal/reflectlite.Value).Elem", "(internal/reflectlite.Value).Set"], unfollowed := true, recurses := true, named := ["errors.errorType"], apart := false, laid := [("errors.errorType", laid_errors_errorType)], narrowed := true }
def BytesSticksUptoSaid : Prop := bytesSticksUptoRow.holds Tryd.pinned (OpenSpec.upto bytesSticksSpec)

/-- 'shutterlaw06.BytesKeeps', WHERE WHAT IT READS IS OF BULK AT MOST 1048576: true; the input reads as it did. -/
def bytesKeepsUptoRow : OpenClaim := { program := "ytblkimpneeeiaaadoor", sum := "f686c0f008f8910a35ee82bc884d9301c02f02b399ee260d389204e83ef2a682", func := "shutter/shutterlaw06.BytesKeeps", spec := "bytesKeeps", inPlace := ["internal/reflectlite.ValueOf", "(internal/reflectlite.Value).Type", "(internal/reflectlite.Value).IsNil", "internal/reflectlite.TypeOf", "(internal/reflectlite.Value).Elem", "(internal/reflectlite.Value).Set"], unfollowed := true, recurses := true, named := ["errors.errorType"], apart := false, laid := [("errors.errorType", laid_errors_errorType)], narrowed := true }
def BytesKeepsUptoSaid : Prop := bytesKeepsUptoRow.holds Tryd.pinned (OpenSpec.upto bytesKeepsSpec)

end Rows
end Go.Proofs.YtblkimpneeeiaaaDoor
