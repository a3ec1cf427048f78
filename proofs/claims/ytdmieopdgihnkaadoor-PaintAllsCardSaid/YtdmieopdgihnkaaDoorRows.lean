/-
  NARROWER THAN 'FOR EVERY INPUT', by the rows' own cells (each row's printed sentence says how): PaintOnes: laid · PaintAlls: laid · PaintGuards: laid · PaintParts: laid · PaintKeeps: laid.
  DERIVED. THE GIVEN ROWS OF THIS SEAT. 5 by the template 'for every input the law returns true; each argument reads behind the call as it read before'; 0 by the template 'total and deterministic' (their statements: YtdmieopdgihnkaaDoorTotals.lean).
  GIVEN WITH THE SEED: the statements are not yours to turn. If you find one false, say at which input.
  Laid BY PROGRAM, IN A SANDBOX (cutbox-rows.mjs): the forced cells as the released guide's own fill.sh prints them over the translation 096ce4ff0a4f9bb7… (all of the seat's roots in one cut). By AI agents, Wed Nov 11 2026. No macro, syntax, notation, axiom, sorry.
-/
import Derived.Test.YtdmieopdgihnkaaDoorChecked
import GoSem.Claim
import GoSem.ClaimJoined
import GoSem.ClaimMapViews
import Derived.JoinedTies
import Derived.KernelRfl
namespace Go.Proofs.YtdmieopdgihnkaaDoor
/- THE CELL 'sum', in the pinned program and in every row, IS THE sha256 OF THE DUMP (.gsa) THAT YtdmieopdgihnkaaDoorProg.lean LOADS. Nothing in Lean hashes anything: it is a label: what it is worth is what the hold of that sum in a sandbox is worth. -/
noncomputable def Tryd.pinned : Pinned := { name := "ytdmieopdgihnkaadoor", sum := "096ce4ff0a4f9bb70f7488d2c9f1e432177f44375c94f2717b9616573f9a3026", checked := Tryd.checked }
namespace Rows
def none {H : Type} : Left H := { results := [], args := [] }

/- WHAT THE LISTED PACKAGE-LEVEL VARIABLES READ AS WHEN THE CALL BEGINS. Each datum BY PROGRAM (the guide's laid-datum.mjs) off the statement by which the dump's own 'gosem.cut.vars' lays the variable. In a bare row this is a premise. The card (YtdmieopdgihnkaaDoorCards.lean) ties it to the program's text. -/
def laid_errors_errorType {H : Type} : DataW H := .iface "internal/reflectlite.rtype" (.agg [.ptr (.lit (.string [101, 114, 114, 111, 114]))])

/-- 'shutterlaw12.PaintOnes': WHATEVER THE INPUT: true; the input reads as it did. -/
def paintOnesSpec : ChangeSpec := { name := "paintOnes", fn := fun _ => fun
  | [d1, d2, d3] => { results := [.lit (.bool true)], args := [d1, d2, d3] }
  | _ => none }
def paintOnesRow : OpenClaim := { program := "ytdmieopdgihnkaadoor", sum := "096ce4ff0a4f9bb70f7488d2c9f1e432177f44375c94f2717b9616573f9a3026", func := "shutter/shutterlaw12.PaintOnes", spec := "paintOnes", inPlace := ["internal/reflectlite.ValueOf", "(internal/reflectlite.Value).Type", "(internal/reflectlite.Value).IsNil", "internal/reflectlite.TypeOf", "(internal/reflectlite.Value).Elem", "(internal/reflectlite.Value).Set"], unfollowed := true, recurses := true, named := ["errors.errorType"], apart := false, laid := [("errors.errorType", laid_errors_errorType)] }
def PaintOnesSaid : Prop := paintOnesRow.holds Tryd.pinned (OpenSpec.ofChange paintOnesSpec)

/-- ITS FALSE NEIGHBOUR: 'it returns false'. Refute it at one input. -/
def paintOnesWrong : ChangeSpec := { name := "paintOnes", fn := fun _ => fun
  | [d1, d2, d3] => { results := [.lit (.bool false)], args := [d1, d2, d3] }
  | _ => none }
def PaintOnesWrongFalsely : Prop := paintOnesRow.holds Tryd.pinned (OpenSpec.ofChange paintOnesWrong)

/-- 'shutterlaw12.PaintAlls': WHATEVER THE INPUT: true; the input reads as it did. -/
def paintAllsSpec : ChangeSpec := { name := "paintAlls", fn := fun _ => fun
  | [d1, d2, d3] => { results := [.lit (.bool true)], args := [d1, d2, d3] }
  | _ => none }
def paintAllsRow : OpenClaim := { program := "ytdmieopdgihnkaadoor", sum := "096ce4ff0a4f9bb70f7488d2c9f1e432177f44375c94f2717b9616573f9a3026", func := "shutter/shutterlaw12.PaintAlls", spec := "paintAlls", inPlace := ["internal/reflectlite.ValueOf", "(internal/reflectlite.Value).Type", "(internal/reflectlite.Value).IsNil", "internal/reflectlite.TypeOf", "(internal/reflectlite.Value).Elem", "(internal/reflectlite.Value).Set"], unfollowed := true, recurses := true, named := ["errors.errorType"], apart := false, laid := [("errors.errorType", laid_errors_errorType)] }
def PaintAllsSaid : Prop := paintAllsRow.holds Tryd.pinned (OpenSpec.ofChange paintAllsSpec)

/-- ITS FALSE NEIGHBOUR: 'it returns false'. Refute it at one input. -/
def paintAllsWrong : ChangeSpec := { name := "paintAlls", fn := fun _ => fun
  | [d1, d2, d3] => { results := [.lit (.bool false)], args := [d1, d2, d3] }
  | _ => none }
def PaintAllsWrongFalsely : Prop := paintAllsRow.holds Tryd.pinned (OpenSpec.ofChange paintAllsWrong)

/-- 'shutterlaw12.PaintGuards': WHATEVER THE INPUT: true; the input reads as it did. -/
def paintGuardsSpec : ChangeSpec := { name := "paintGuards", fn := fun _ => fun
  | [d1, d2, d3] => { results := [.lit (.bool true)], args := [d1, d2, d3] }
  | _ => none }
def paintGuardsRow : OpenClaim := { program := "ytdmieopdgihnkaadoor", sum := "096ce4ff0a4f9bb70f7488d2c9f1e432177f44375c94f2717b9616573f9a3026", func := "shutter/shutterlaw12.PaintGuards", spec := "paintGuards", inPlace := ["internal/reflectlite.ValueOf", "(internal/reflectlite.Value).Type", "(internal/reflectlite.Value).IsNil", "internal/reflectlite.TypeOf", "(internal/reflectlite.Value).Elem", "(internal/reflectlite.Value).Set"], unfollowed := true, recurses := true, named := ["errors.errorType"], apart := false, laid := [("errors.errorType", laid_errors_errorType)] }
def PaintGuardsSaid : Prop := paintGuardsRow.holds Tryd.pinned (OpenSpec.ofChange paintGuardsSpec)

/-- ITS FALSE NEIGHBOUR: 'it returns false'. Refute it at one input. -/
def paintGuardsWrong : ChangeSpec := { name := "paintGuards", fn := fun _ => fun
  | [d1, d2, d3] => { results := [.lit (.bool false)], args := [d1, d2, d3] }
  | _ => none }
def PaintGuardsWrongFalsely : Prop := paintGuardsRow.holds Tryd.pinned (OpenSpec.ofChange paintGuardsWrong)

/-- 'shutterlaw12.PaintParts': WHATEVER THE INPUT: true; the input reads as it did. -/
def paintPartsSpec : ChangeSpec := { name := "paintParts", fn := fun _ => fun
  | [d1, d2, d3, d4] => { results := [.lit (.bool true)], args := [d1, d2, d3, d4] }
  | _ => none }
def paintPartsRow : OpenClaim := { program := "ytdmieopdgihnkaadoor", sum := "096ce4ff0a4f9bb70f7488d2c9f1e432177f44375c94f2717b9616573f9a3026", func := "shutter/shutterlaw12.PaintParts", spec := "paintParts", inPlace := ["internal/reflectlite.ValueOf", "(internal/reflectlite.Value).Type", "(internal/reflectlite.Value).IsNil", "internal/reflectlite.TypeOf", "(internal/reflectlite.Value).Elem", "(internal/reflectlite.Value).Set"], unfollowed := true, recurses := true, named := ["errors.errorType"], apart := false, laid := [("errors.errorType", laid_errors_errorType)] }
def PaintPartsSaid : Prop := paintPartsRow.holds Tryd.pinned (OpenSpec.ofChange paintPartsSpec)

/-- ITS FALSE NEIGHBOUR: 'it returns false'. Refute it at one input. -/
def paintPartsWrong : ChangeSpec := { name := "paintParts", fn := fun _ => fun
  | [d1, d2, d3, d4] => { results := [.lit (.bool false)], args := [d1, d2, d3, d4] }
  | _ => none }
def PaintPartsWrongFalsely : Prop := paintPartsRow.holds Tryd.pinned (OpenSpec.ofChange paintPartsWrong)

/-- 'shutterlaw12.PaintKeeps': WHATEVER THE INPUT: true; the input reads as it did. -/
def paintKeepsSpec : ChangeSpec := { name := "paintKeeps", fn := fun _ => fun
  | [d1, d2, d3] => { results := [.lit (.bool true)], args := [d1, d2, d3] }
  | _ => none }
def paintKeepsRow : OpenClaim := { program := "ytdmieopdgihnkaadoor", sum := "096ce4ff0a4f9bb70f7488d2c9f1e432177f44375c94f2717b9616573f9a3026", func := "shutter/shutterlaw12.PaintKeeps", spec := "paintKeeps", inPlace := ["internal/reflectlite.ValueOf", "(internal/reflectlite.Value).Type", "(internal/reflectlite.Value).IsNil", "internal/reflectlite.TypeOf", "(internal/reflectlite.Value).Elem", "(internal/reflectlite.Value).Set"], unfollowed := true, recurses := true, named := ["errors.errorType"], apart := false, laid := [("errors.errorType", laid_errors_errorType)] }
def PaintKeepsSaid : Prop := paintKeepsRow.holds Tryd.pinned (OpenSpec.ofChange paintKeepsSpec)

/-- ITS FALSE NEIGHBOUR: 'it returns false'. Refute it at one input. -/
def paintKeepsWrong : ChangeSpec := { name := "paintKeeps", fn := fun _ => fun
  | [d1, d2, d3] => { results := [.lit (.bool false)], args := [d1, d2, d3] }
  | _ => none }
def PaintKeepsWrongFalsely : Prop := paintKeepsRow.holds Tryd.pinned (OpenSpec.ofChange paintKeepsWrong)

/- THE SECOND FORM. 'bulk': how many values and letters a reading holds, each counted each time it is reached (what is shared counts as often as it is met; a slice's spare places count too). A statement '..UptoSaid' is the law's where the arguments, and the package variables that the reading takes, are together of bulk at most 1048576: NARROWER than '..Said'. Prove '..Said' where nothing that the law and all that it calls make is longer than what came in: it says more and counts as full. Else prove '..UptoSaid'. A law counts once. -/
mutual
def uptoBulk {H : Type} : DataW H → Nat
  | .lit (.string bytes) => bytes.length + 1
  | .lit _ => 1
  | .nil => 1
  | .ptr d => uptoBulk d + 1
  | .slice elems spare => uptoBulkAll elems + uptoBulkAll spare + 1
  | .agg parts => uptoBulkAll parts + 1
  | .iface _ d => uptoBulk d + 1
  | .map entries => uptoBulkEntries entries + 1
  | .held _ => 1
def uptoBulkAll {H : Type} : List (DataW H) → Nat
  | [] => 0
  | d :: r => uptoBulk d + uptoBulkAll r
def uptoBulkEntries {H : Type} : List (Lit × DataW H) → Nat
  | [] => 0
  | x :: r => uptoBulkEntry x + uptoBulkEntries r
def uptoBulkEntry {H : Type} : Lit × DataW H → Nat
  | (.string bytes, d) => bytes.length + uptoBulk d + 1
  | (_, d) => uptoBulk d + 1
 end
def uptoSmall : (H : Type) → List (DataW H) → Bool := fun _ ds => decide (uptoBulkAll ds ≤ 1048576)
def OpenSpec.upto (s : _root_.Go.ChangeSpec) : _root_.Go.OpenSpec := { _root_.Go.OpenSpec.ofChange s with cond := some uptoSmall }

/-- 'shutterlaw12.PaintOnes', WHERE WHAT IT READS IS OF BULK AT MOST 1048576: true; the input reads as it did. -/
def paintOnesUptoRow : OpenClaim := { program := "ytdmieopdgihnkaadoor", sum := "096ce4ff0a4f9bb70f7488d2c9f1e432177f44375c94f2717b9616573f9a3026", func := "shutter/shutterlaw12.PaintOnes", spec := "paintOnes", inPlace := ["internal/reflectlite.ValueOf", "(internal/reflectlite.Value).Type", "(internal/reflectlite.Value).IsNil", "internal/reflectlite.TypeOf", "(internal/reflectlite.Value).Elem", "(internal/reflectlite.Value).Set"], unfollowed := true, recurses := true, named := ["errors.errorType"], apart := false, laid := [("errors.errorType", laid_errors_errorType)], narrowed := true }
def PaintOnesUptoSaid : Prop := paintOnesUptoRow.holds Tryd.pinned (OpenSpec.upto paintOnesSpec)

/-- 'shutterlaw12.PaintAlls', WHERE WHAT IT READS IS OF BULK AT MOST 1048576: true; the input reads as it did. -/
def paintAllsUptoRow : OpenClaim := { program := "ytdmieopdgihnkaadoor", sum := "096ce4ff0a4f9bb70f7488d2c9f1e432177f44375c94f2717b9616573f9a3026", func := "shutter/shutterlaw12.PaintAlls", spec := "paintAlls", inPlace := ["internal/reflectlite.ValueOf", "(internal/reflectlite.Value).Type", "(internal/reflectlite.Value).IsNil", "internal/reflectlite.TypeOf", "(internal/reflectlite.Value).Elem", "(internal/reflectlite.Value).Set"], unfollowed := true, recurses := true, named := ["errors.errorType"], apart := false, laid := [("errors.errorType", laid_errors_errorType)], narrowed := true }
def PaintAllsUptoSaid : Prop := paintAllsUptoRow.holds Tryd.pinned (OpenSpec.upto paintAllsSpec)

/-- 'shutterlaw12.PaintGuards', WHERE WHAT IT READS IS OF BULK AT MOST 1048576: true; the input reads as it did. -/
def paintGuardsUptoRow : OpenClaim := { program := "ytdmieopdgihnkaadoor", sum := "096ce4ff0a4f9bb70f7488d2c9f1e432177f44375c94f2717b9616573f9a3026", func := "shutter/shutterlaw12.PaintGuards", spec := "paintGuards", inPlace := ["internal/reflectlite.ValueOf", "(internal/reflectlite.Value).Type", "(internal/reflectlite.Value).IsNil", "internal/reflectlite.TypeOf", "(internal/reflectlite.Value).Elem", "(internal/reflectlite.Value).Set"], unfollowed := true, recurses := true, named := ["errors.errorType"], apart := false, laid := [("errors.errorType", laid_errors_errorType)], narrowed := true }
def PaintGuardsUptoSaid : Prop := paintGuardsUptoRow.holds Tryd.pinned (OpenSpec.upto paintGuardsSpec)

/-- 'shutterlaw12.PaintParts', WHERE WHAT IT READS IS OF BULK AT MOST 1048576: true; the input reads as it did. -/
def paintPartsUptoRow : OpenClaim := { program := "ytdmieopdgihnkaadoor", sum := "096ce4ff0a4f9bb70f7488d2c9f1e432177f44375c94f2717b9616573f9a3026", func := "shutter/shutterlaw12.PaintParts", spec := "paintParts", inPlace := ["internal/reflectlite.ValueOf", "(internal/reflectlite.Value).Type", "(internal/reflectlite.Value).IsNil", "internal/reflectlite.TypeOf", "(internal/reflectlite.Value).Elem", "(internal/reflectlite.Value).Set"], unfollowed := true, recurses := true, named := ["errors.errorType"], apart := false, laid := [("errors.errorType", laid_errors_errorType)], narrowed := true }
def PaintPartsUptoSaid : Prop := paintPartsUptoRow.holds Tryd.pinned (OpenSpec.upto paintPartsSpec)

/-- 'shutterlaw12.PaintKeeps', WHERE WHAT IT READS IS OF BULK AT MOST 1048576: true; the input reads as it did. -/
def paintKeepsUptoRow : OpenClaim := { program := "ytdmieopdgihnkaadoor", sum := "096ce4ff0a4f9bb70f7488d2c9f1e432177f44375c94f2717b9616573f9a3026", func := "shutter/shutterlaw12.PaintKeeps", spec := "paintKeeps", inPlace := ["internal/reflectlite.ValueOf", "(internal/reflectlite.Value).Type", "(internal/reflectlite.Value).IsNil", "internal/reflectlite.TypeOf", "(internal/reflectlite.Value).Elem", "(internal/reflectlite.Value).Set"], unfollowed := true, recurses := true, named := ["errors.errorType"], apart := false, laid := [("errors.errorType", laid_errors_errorType)], narrowed := true }
def PaintKeepsUptoSaid : Prop := paintKeepsUptoRow.holds Tryd.pinned (OpenSpec.upto paintKeepsSpec)

end Rows
end Go.Proofs.YtdmieopdgihnkaaDoor
