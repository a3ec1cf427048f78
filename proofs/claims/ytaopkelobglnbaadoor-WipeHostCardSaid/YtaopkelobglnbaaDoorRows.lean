/-
  NARROWER THAN 'FOR EVERY INPUT', by the rows' own cells (each row's printed sentence says how): WipeGuards: laid · WipeHost: laid · WipeUndoes: laid · WipeKeeps: laid · WipeTwice: laid.
  DERIVED. THE GIVEN ROWS OF THIS SEAT. 5 by the template 'for every input the law returns true; each argument reads behind the call as it read before'; 0 by the template 'total and deterministic' (their statements: YtaopkelobglnbaaDoorTotals.lean).
  GIVEN WITH THE SEED: the statements are not yours to turn. If you find one false, say at which input.
  Laid BY PROGRAM, IN A SANDBOX (cutbox-rows.mjs): the forced cells as the released guide's own fill.sh prints them over the translation f9f45324cf4baaa6… (all of the seat's roots in one cut). By AI agents, Wed Nov 11 2026. No macro, syntax, notation, axiom, sorry.
-/
import Derived.Test.YtaopkelobglnbaaDoorChecked
import GoSem.Claim
import GoSem.ClaimJoined
import GoSem.ClaimMapViews
import Derived.JoinedTies
import Derived.KernelRfl
namespace Go.Proofs.YtaopkelobglnbaaDoor
/- THE CELL 'sum', in the pinned program and in every row, IS THE sha256 OF THE DUMP (.gsa) THAT YtaopkelobglnbaaDoorProg.lean LOADS. Nothing in Lean hashes anything: it is a label: what it is worth is what the hold of that sum in a sandbox is worth. -/
noncomputable def Tryd.pinned : Pinned := { name := "ytaopkelobglnbaadoor", sum := "f9f45324cf4baaa6d82476551f13904efb8174c656ce04e937db16da72e5591c", checked := Tryd.checked }
namespace Rows
def none {H : Type} : Left H := { results := [], args := [] }

/- WHAT THE LISTED PACKAGE-LEVEL VARIABLES READ AS WHEN THE CALL BEGINS. Each datum BY PROGRAM (the guide's laid-datum.mjs) off the statement by which the dump's own 'gosem.cut.vars' lays the variable. In a bare row this is a premise. The card (YtaopkelobglnbaaDoorCards.lean) ties it to the program's text. -/
def laid_errors_errorType {H : Type} : DataW H := .iface "internal/reflectlite.rtype" (.agg [.ptr (.lit (.string [101, 114, 114, 111, 114]))])

/-- 'shutterlaw16.WipeGuards': WHATEVER THE INPUT: true; the input reads as it did. -/
def wipeGuardsSpec : ChangeSpec := { name := "wipeGuards", fn := fun _ => fun
  | [d1, d2] => { results := [.lit (.bool true)], args := [d1, d2] }
  | _ => none }
def wipeGuardsRow : OpenClaim := { program := "ytaopkelobglnbaadoor", sum := "f9f45324cf4baaa6d82476551f13904efb8174c656ce04e937db16da72e5591c", func := "shutter/shutterlaw16.WipeGuards", spec := "wipeGuards", inPlace := ["internal/reflectlite.ValueOf", "(internal/reflectlite.Value).Type", "(internal/reflectlite.Value).IsNil", "internal/reflectlite.TypeOf", "(internal/reflectlite.Value).Elem", "(internal/reflectlite.Value).Set"], unfollowed := true, recurses := true, named := ["errors.errorType"], apart := false, laid := [("errors.errorType", laid_errors_errorType)] }
def WipeGuardsSaid : Prop := wipeGuardsRow.holds Tryd.pinned (OpenSpec.ofChange wipeGuardsSpec)

/-- ITS FALSE NEIGHBOUR: 'it returns false'. Refute it at one input. -/
def wipeGuardsWrong : ChangeSpec := { name := "wipeGuards", fn := fun _ => fun
  | [d1, d2] => { results := [.lit (.bool false)], args := [d1, d2] }
  | _ => none }
def WipeGuardsWrongFalsely : Prop := wipeGuardsRow.holds Tryd.pinned (OpenSpec.ofChange wipeGuardsWrong)

/-- 'shutterlaw16.WipeHost': WHATEVER THE INPUT: true; the input reads as it did. -/
def wipeHostSpec : ChangeSpec := { name := "wipeHost", fn := fun _ => fun
  | [d] => { results := [.lit (.bool true)], args := [d] }
  | _ => none }
def wipeHostRow : OpenClaim := { program := "ytaopkelobglnbaadoor", sum := "f9f45324cf4baaa6d82476551f13904efb8174c656ce04e937db16da72e5591c", func := "shutter/shutterlaw16.WipeHost", spec := "wipeHost", inPlace := ["internal/reflectlite.ValueOf", "(internal/reflectlite.Value).Type", "(internal/reflectlite.Value).IsNil", "internal/reflectlite.TypeOf", "(internal/reflectlite.Value).Elem", "(internal/reflectlite.Value).Set"], unfollowed := true, recurses := true, named := ["errors.errorType"], apart := false, laid := [("errors.errorType", laid_errors_errorType)] }
def WipeHostSaid : Prop := wipeHostRow.holds Tryd.pinned (OpenSpec.ofChange wipeHostSpec)

/-- ITS FALSE NEIGHBOUR: 'it returns false'. Refute it at one input. -/
def wipeHostWrong : ChangeSpec := { name := "wipeHost", fn := fun _ => fun
  | [d] => { results := [.lit (.bool false)], args := [d] }
  | _ => none }
def WipeHostWrongFalsely : Prop := wipeHostRow.holds Tryd.pinned (OpenSpec.ofChange wipeHostWrong)

/-- 'shutterlaw16.WipeUndoes': WHATEVER THE INPUT: true; the input reads as it did. -/
def wipeUndoesSpec : ChangeSpec := { name := "wipeUndoes", fn := fun _ => fun
  | [d1, d2] => { results := [.lit (.bool true)], args := [d1, d2] }
  | _ => none }
def wipeUndoesRow : OpenClaim := { program := "ytaopkelobglnbaadoor", sum := "f9f45324cf4baaa6d82476551f13904efb8174c656ce04e937db16da72e5591c", func := "shutter/shutterlaw16.WipeUndoes", spec := "wipeUndoes", inPlace := ["internal/reflectlite.ValueOf", "(internal/reflectlite.Value).Type", "(internal/reflectlite.Value).IsNil", "internal/reflectlite.TypeOf", "(internal/reflectlite.Value).Elem", "(internal/reflectlite.Value).Set"], unfollowed := true, recurses := true, named := ["errors.errorType"], apart := false, laid := [("errors.errorType", laid_errors_errorType)] }
def WipeUndoesSaid : Prop := wipeUndoesRow.holds Tryd.pinned (OpenSpec.ofChange wipeUndoesSpec)

/-- ITS FALSE NEIGHBOUR: 'it returns false'. Refute it at one input. -/
def wipeUndoesWrong : ChangeSpec := { name := "wipeUndoes", fn := fun _ => fun
  | [d1, d2] => { results := [.lit (.bool false)], args := [d1, d2] }
  | _ => none }
def WipeUndoesWrongFalsely : Prop := wipeUndoesRow.holds Tryd.pinned (OpenSpec.ofChange wipeUndoesWrong)

/-- 'shutterlaw16.WipeKeeps': WHATEVER THE INPUT: true; the input reads as it did. -/
def wipeKeepsSpec : ChangeSpec := { name := "wipeKeeps", fn := fun _ => fun
  | [d1, d2] => { results := [.lit (.bool true)], args := [d1, d2] }
  | _ => none }
def wipeKeepsRow : OpenClaim := { program := "ytaopkelobglnbaadoor", sum := "f9f45324cf4baaa6d82476551f13904efb8174c656ce04e937db16da72e5591c", func := "shutter/shutterlaw16.WipeKeeps", spec := "wipeKeeps", inPlace := ["internal/reflectlite.ValueOf", "(internal/reflectlite.Value).Type", "(internal/reflectlite.Value).IsNil", "internal/reflectlite.TypeOf", "(internal/reflectlite.Value).Elem", "(internal/reflectlite.Value).Set"], unfollowed := true, recurses := true, named := ["errors.errorType"], apart := false, laid := [("errors.errorType", laid_errors_errorType)] }
def WipeKeepsSaid : Prop := wipeKeepsRow.holds Tryd.pinned (OpenSpec.ofChange wipeKeepsSpec)

/-- ITS FALSE NEIGHBOUR: 'it returns false'. Refute it at one input. -/
def wipeKeepsWrong : ChangeSpec := { name := "wipeKeeps", fn := fun _ => fun
  | [d1, d2] => { results := [.lit (.bool false)], args := [d1, d2] }
  | _ => none }
def WipeKeepsWrongFalsely : Prop := wipeKeepsRow.holds Tryd.pinned (OpenSpec.ofChange wipeKeepsWrong)

/-- 'shutterlaw16.WipeTwice': WHATEVER THE INPUT: true; the input reads as it did. -/
def wipeTwiceSpec : ChangeSpec := { name := "wipeTwice", fn := fun _ => fun
  | [d] => { results := [.lit (.bool true)], args := [d] }
  | _ => none }
def wipeTwiceRow : OpenClaim := { program := "ytaopkelobglnbaadoor", sum := "f9f45324cf4baaa6d82476551f13904efb8174c656ce04e937db16da72e5591c", func := "shutter/shutterlaw16.WipeTwice", spec := "wipeTwice", inPlace := ["internal/reflectlite.ValueOf", "(internal/reflectlite.Value).Type", "(internal/reflectlite.Value).IsNil", "internal/reflectlite.TypeOf", "(internal/reflectlite.Value).Elem", "(internal/reflectlite.Value).Set"], unfollowed := true, recurses := true, named := ["errors.errorType"], apart := false, laid := [("errors.errorType", laid_errors_errorType)] }
def WipeTwiceSaid : Prop := wipeTwiceRow.holds Tryd.pinned (OpenSpec.ofChange wipeTwiceSpec)

/-- ITS FALSE NEIGHBOUR: 'it returns false'. Refute it at one input. -/
def wipeTwiceWrong : ChangeSpec := { name := "wipeTwice", fn := fun _ => fun
  | [d] => { results := [.lit (.bool false)], args := [d] }
  | _ => none }
def WipeTwiceWrongFalsely : Prop := wipeTwiceRow.holds Tryd.pinned (OpenSpec.ofChange wipeTwiceWrong)

/- THE SECOND FORM. 'bulk': how many values and letters a reading holds, each counted each time it is reached (what is shared counts as often as it is met; a slice's spare places count too). A statement '..UptoSaid' is the law's where the arguments, and the package variables that the reading takes, are together of bulk at most 1048576: NARROWER than '..Said'. Prove '..Said' where nothing that the law and all that it calls make is longer than what came in: it says more and counts as full. Else prove '..UptoSaid'. A law counts once. -/
mutual
def uptoBulk {H : Type} : DataW H → Nat
  | .lit (.string bytes) => bytes.length + 1
  | .lit _ => 1
  | .nil => 1
  | .ptr d => uptoBulk d + 1
  | .slice elems spare => uptoBulkAll elems + uptoBulkAll spare + 1
  | .agg parts => uptoBulkAll parts + 1
  | .iface _ d => uptoBulk d + 1
  | .map entries => uptoBulkEntries entries + 1
  | .held _ => 1
def uptoBulkAll {H : Type} : List (DataW H) → Nat
  | [] => 0
  | d :: r => uptoBulk d + uptoBulkAll r
def uptoBulkEntries {H : Type} : List (Lit × DataW H) → Nat
  | [] => 0
  | x :: r => uptoBulkEntry x + uptoBulkEntries r
def uptoBulkEntry {H : Type} : Lit × DataW H → Nat
  | (.string bytes, d) => bytes.length + uptoBulk d + 1
  | (_, d) => uptoBulk d + 1
 end
def uptoSmall : (H : Type) → List (DataW H) → Bool := fun _ ds => decide (uptoBulkAll ds ≤ 1048576)
def OpenSpec.upto (s : _root_.Go.ChangeSpec) : _root_.Go.OpenSpec := { _root_.Go.OpenSpec.ofChange s with cond := some uptoSmall }

/-- 'shutterlaw16.WipeGuards', WHERE WHAT IT READS IS OF BULK AT MOST 1048576: true; the input reads as it did. -/
def wipeGuardsUptoRow : OpenClaim := { program := "ytaopkelobglnbaadoor", sum := "f9f45324cf4baaa6d82476551f13904efb8174c656ce04e937db16da72e5591c", func := "shutter/shutterlaw16.WipeGuards", spec := "wipeGuards", inPlace := ["internal/reflectlite.ValueOf", "(internal/reflectlite.Value).Type", "(internal/reflectlite.Value).IsNil", "internal/reflectlite.TypeOf", "(internal/reflectlite.Value).Elem", "(internal/reflectlite.Value).Set"], unfollowed := true, recurses := true, named := ["errors.errorType"], apart := false, laid := [("errors.errorType", laid_errors_errorType)], narrowed := true }
def WipeGuardsUptoSaid : Prop := wipeGuardsUptoRow.holds Tryd.pinned (OpenSpec.upto wipeGuardsSpec)

/-- 'shutterlaw16.WipeHost', WHERE WHAT IT READS IS OF BULK AT MOST 1048576: true; the input reads as it did. -/
def wipeHostUptoRow : OpenClaim := { program := "ytaopkelobglnbaadoor", sum := "f9f45324cf4baaa6d82476551f13904efb8174c656ce04e937db16da72e5591c", func := "shutter/shutterlaw16.WipeHost", spec := "wipeHost", inPlace := ["internal/reflectlite.ValueOf", "(internal/reflectlite.Value).Type", "(internal/reflectlite.Value).IsNil", "internal/reflectlite.TypeOf", "(internal/reflectlite.Value).Elem", "(internal/reflectlite.Value).Set"], unfollowed := true, recurses := true, named := ["errors.errorType"], apart := false, laid := [("errors.errorType", laid_errors_errorType)], narrowed := true }
def WipeHostUptoSaid : Prop := wipeHostUptoRow.holds Tryd.pinned (OpenSpec.upto wipeHostSpec)

/-- 'shutterlaw16.WipeUndoes', WHERE WHAT IT READS IS OF BULK AT MOST 1048576: true; the input reads as it did. -/
def wipeUndoesUptoRow : OpenClaim := { program := "ytaopkelobglnbaadoor", sum := "f9f45324cf4baaa6d82476551f13904efb8174c656ce04e937db16da72e5591c", func := "shutter/shutterlaw16.WipeUndoes", spec := "wipeUndoes", inPlace := ["internal/reflectlite.ValueOf", "(internal/reflectlite.Value).Type", "(internal/reflectlite.Value).IsNil", "internal/reflectlite.TypeOf", "(internal/reflectlite.Value).Elem", "(internal/reflectlite.Value).Set"], unfollowed := true, recurses := true, named := ["errors.errorType"], apart := false, laid := [("errors.errorType", laid_errors_errorType)], narrowed := true }
def WipeUndoesUptoSaid : Prop := wipeUndoesUptoRow.holds Tryd.pinned (OpenSpec.upto wipeUndoesSpec)

/-- 'shutterlaw16.WipeKeeps', WHERE WHAT IT READS IS OF BULK AT MOST 1048576: true; the input reads as it did. -/
def wipeKeepsUptoRow : OpenClaim := { program := "ytaopkelobglnbaadoor", sum := "f9f45324cf4baaa6d82476551f13904efb8174c656ce04e937db16da72e5591c", func := "shutter/shutterlaw16.WipeKeeps", spec := "wipeKeeps", inPlace := ["internal/reflectlite.ValueOf", "(internal/reflectlite.Value).Type", "(internal/reflectlite.Value).IsNil", "internal/reflectlite.TypeOf", "(internal/reflectlite.Value).Elem", "(internal/reflectlite.Value).Set"], unfollowed := true, recurses := true, named := ["errors.errorType"], apart := false, laid := [("errors.errorType", laid_errors_errorType)], narrowed := true }
def WipeKeepsUptoSaid : Prop := wipeKeepsUptoRow.holds Tryd.pinned (OpenSpec.upto wipeKeepsSpec)

/-- 'shutterlaw16.WipeTwice', WHERE WHAT IT READS IS OF BULK AT MOST 1048576: true; the input reads as it did. -/
def wipeTwiceUptoRow : OpenClaim := { program := "ytaopkelobglnbaadoor", sum := "f9f45324cf4baaa6d82476551f13904efb8174c656ce04e937db16da72e5591c", func := "shutter/shutterlaw16.WipeTwice", spec := "wipeTwice", inPlace := ["internal/reflectlite.ValueOf", "(internal/reflectlite.Value).Type", "(internal/reflectlite.Value).IsNil", "internal/reflectlite.TypeOf", "(internal/reflectlite.Value).Elem", "(internal/reflectlite.Value).Set"], unfollowed := true, recurses := true, named := ["errors.errorType"], apart := false, laid := [("errors.errorType", laid_errors_errorType)], narrowed := true }
def WipeTwiceUptoSaid : Prop := wipeTwiceUptoRow.holds Tryd.pinned (OpenSpec.upto wipeTwiceSpec)

end Rows
end Go.Proofs.YtaopkelobglnbaaDoor
