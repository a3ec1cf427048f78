/-
  NARROWER THAN 'FOR EVERY INPUT', by the rows' own cells (each row's printed sentence says how): EditTypes: laid · EditLines: laid · EditGuards: laid · EditInserts: laid · EditOver: laid.
  DERIVED. THE GIVEN ROWS OF THIS SEAT. 5 by the template 'for every input the law returns true; each argument reads behind the call as it read before'; 0 by the template 'total and deterministic' (their statements: YtoafcmklomopaaaDoorTotals.lean).
  GIVEN WITH THE SEED: the statements are not yours to turn. If you find one false, say at which input.
  Laid BY PROGRAM, IN A SANDBOX (cutbox-rows.mjs): the forced cells as the released guide's own fill.sh prints them over the translation e389bb8232fb21ec… (all of the seat's roots in one cut). By AI agents, Wed Nov 11 2026. No macro, syntax, notation, axiom, sorry.
-/
import Derived.Test.YtoafcmklomopaaaDoorChecked
import GoSem.Claim
import GoSem.ClaimJoined
import GoSem.ClaimMapViews
import Derived.JoinedTies
import Derived.KernelRfl
namespace Go.Proofs.YtoafcmklomopaaaDoor
/- THE CELL 'sum', in the pinned program and in every row, IS THE sha256 OF THE DUMP (.gsa) THAT YtoafcmklomopaaaDoorProg.lean LOADS. Nothing in Lean hashes anything: it is a label: what it is worth is what the hold of that sum in a sandbox is worth. -/
noncomputable def Tryd.pinned : Pinned := { name := "ytoafcmklomopaaadoor", sum := "e389bb8232fb21ece14e5a3b00e197cdce5d3a32ab42d89407774a3bd0d190f0", checked := Tryd.checked }
namespace Rows
def none {H : Type} : Left H := { results := [], args := [] }

/- WHAT THE LISTED PACKAGE-LEVEL VARIABLES READ AS WHEN THE CALL BEGINS. Each datum BY PROGRAM (the guide's laid-datum.mjs) off the statement by which the dump's own 'gosem.cut.vars' lays the variable. In a bare row this is a premise. The card (YtoafcmklomopaaaDoorCards.lean) ties it to the program's text. -/
def laid_errors_errorType {H : Type} : DataW H := .iface "internal/reflectlite.rtype" (.agg [.ptr (.lit (.string [101, 114, 114, 111, 114]))])

/-- 'shutterlaw14.EditTypes': WHATEVER THE INPUT: true; the input reads as it did. -/
def editTypesSpec : ChangeSpec := { name := "editTypes", fn := fun _ => fun
  | [d1, d2] => { results := [.lit (.bool true)], args := [d1, d2] }
  | _ => none }
def editTypesRow : OpenClaim := { program := "ytoafcmklomopaaadoor", sum := "e389bb8232fb21ece14e5a3b00e197cdce5d3a32ab42d89407774a3bd0d190f0", func := "shutter/shutterlaw14.EditTypes", spec := "editTypes", inPlace := ["internal/reflectlite.ValueOf", "(internal/reflectlite.Value).Type", "(internal/reflectlite.Value).IsNil", "internal/reflectlite.TypeOf", "(internal/reflectlite.Value).Elem", "(internal/reflectlite.Value).Set"], unfollowed := true, recurses := true, named := ["errors.errorType"], apart := false, laid := [("errors.errorType", laid_errors_errorType)] }
def EditTypesSaid : Prop := editTypesRow.holds Tryd.pinned (OpenSpec.ofChange editTypesSpec)

/-- ITS FALSE NEIGHBOUR: 'it returns false'. Refute it at one input. -/
def editTypesWrong : ChangeSpec := { name := "editTypes", fn := fun _ => fun
  | [d1, d2] => { results := [.lit (.bool false)], args := [d1, d2] }
  | _ => none }
def EditTypesWrongFalsely : Prop := editTypesRow.holds Tryd.pinned (OpenSpec.ofChange editTypesWrong)

/-- 'shutterlaw14.EditLines': WHATEVER THE INPUT: true; the input reads as it did. -/
def editLinesSpec : ChangeSpec := { name := "editLines", fn := fun _ => fun
  | [d1, d2, d3] => { results := [.lit (.bool true)], args := [d1, d2, d3] }
  | _ => none }
def editLinesRow : OpenClaim := { program := "ytoafcmklomopaaadoor", sum := "e389bb8232fb21ece14e5a3b00e197cdce5d3a32ab42d89407774a3bd0d190f0", func := "shutter/shutterlaw14.EditLines", spec := "editLines", inPlace := ["internal/reflectlite.ValueOf", "(internal/reflectlite.Value).Type", "(internal/reflectlite.Value).IsNil", "internal/reflectlite.TypeOf", "(internal/reflectlite.Value).Elem", "(internal/reflectlite.Value).Set"], unfollowed := true, recurses := true, named := ["errors.errorType"], apart := false, laid := [("errors.errorType", laid_errors_errorType)] }
def EditLinesSaid : Prop := editLinesRow.holds Tryd.pinned (OpenSpec.ofChange editLinesSpec)

/-- ITS FALSE NEIGHBOUR: 'it returns false'. Refute it at one input. -/
def editLinesWrong : ChangeSpec := { name := "editLines", fn := fun _ => fun
  | [d1, d2, d3] => { results := [.lit (.bool false)], args := [d1, d2, d3] }
  | _ => none }
def EditLinesWrongFalsely : Prop := editLinesRow.holds Tryd.pinned (OpenSpec.ofChange editLinesWrong)

/-- 'shutterlaw14.EditGuards': WHATEVER THE INPUT: true; the input reads as it did. -/
def editGuardsSpec : ChangeSpec := { name := "editGuards", fn := fun _ => fun
  | [d1, d2] => { results := [.lit (.bool true)], args := [d1, d2] }
  | _ => none }
def editGuardsRow : OpenClaim := { program := "ytoafcmklomopaaadoor", sum := "e389bb8232fb21ece14e5a3b00e197cdce5d3a32ab42d89407774a3bd0d190f0", func := "shutter/shutterlaw14.EditGuards", spec := "editGuards", inPlace := ["internal/reflectlite.ValueOf", "(internal/reflectlite.Value).Type", "(internal/reflectlite.Value).IsNil", "internal/reflectlite.TypeOf", "(internal/reflectlite.Value).Elem", "(internal/reflectlite.Value).Set"], unfollowed := true, recurses := true, named := ["errors.errorType"], apart := false, laid := [("errors.errorType", laid_errors_errorType)] }
def EditGuardsSaid : Prop := editGuardsRow.holds Tryd.pinned (OpenSpec.ofChange editGuardsSpec)

/-- ITS FALSE NEIGHBOUR: 'it returns false'. Refute it at one input. -/
def editGuardsWrong : ChangeSpec := { name := "editGuards", fn := fun _ => fun
  | [d1, d2] => { results := [.lit (.bool false)], args := [d1, d2] }
  | _ => none }
def EditGuardsWrongFalsely : Prop := editGuardsRow.holds Tryd.pinned (OpenSpec.ofChange editGuardsWrong)

/-- 'shutterlaw14.EditInserts': WHATEVER THE INPUT: true; the input reads as it did. -/
def editInsertsSpec : ChangeSpec := { name := "editInserts", fn := fun _ => fun
  | [d1, d2] => { results := [.lit (.bool true)], args := [d1, d2] }
  | _ => none }
def editInsertsRow : OpenClaim := { program := "ytoafcmklomopaaadoor", sum := "e389bb8232fb21ece14e5a3b00e197cdce5d3a32ab42d89407774a3bd0d190f0", func := "shutter/shutterlaw14.EditInserts", spec := "editInserts", inPlace := ["internal/reflectlite.ValueOf", "(internal/reflectlite.Value).Type", "(internal/reflectlite.Value).IsNil", "internal/reflectlite.TypeOf", "(internal/reflectlite.Value).Elem", "(internal/reflectlite.Value).Set"], unfollowed := true, recurses := true, named := ["errors.errorType"], apart := false, laid := [("errors.errorType", laid_errors_errorType)] }
def EditInsertsSaid : Prop := editInsertsRow.holds Tryd.pinned (OpenSpec.ofChange editInsertsSpec)

/-- ITS FALSE NEIGHBOUR: 'it returns false'. Refute it at one input. -/
def editInsertsWrong : ChangeSpec := { name := "editInserts", fn := fun _ => fun
  | [d1, d2] => { results := [.lit (.bool false)], args := [d1, d2] }
  | _ => none }
def EditInsertsWrongFalsely : Prop := editInsertsRow.holds Tryd.pinned (OpenSpec.ofChange editInsertsWrong)

/-- 'shutterlaw14.EditOver': WHATEVER THE INPUT: true; the input reads as it did. -/
def editOverSpec : ChangeSpec := { name := "editOver", fn := fun _ => fun
  | [d1, d2, d3] => { results := [.lit (.bool true)], args := [d1, d2, d3] }
  | _ => none }
def editOverRow : OpenClaim := { program := "ytoafcmklomopaaadoor", sum := "e389bb8232fb21ece14e5a3b00e197cdce5d3a32ab42d89407774a3bd0d190f0", func := "shutter/shutterlaw14.EditOver", spec := "editOver", inPlace := ["internal/reflectlite.ValueOf", "(internal/reflectlite.Value).Type", "(internal/reflectlite.Value).IsNil", "internal/reflectlite.TypeOf", "(internal/reflectlite.Value).Elem", "(internal/reflectlite.Value).Set"], unfollowed := true, recurses := true, named := ["errors.errorType"], apart := false, laid := [("errors.errorType", laid_errors_errorType)] }
def EditOverSaid : Prop := editOverRow.holds Tryd.pinned (OpenSpec.ofChange editOverSpec)

/-- ITS FALSE NEIGHBOUR: 'it returns false'. Refute it at one input. -/
def editOverWrong : ChangeSpec := { name := "editOver", fn := fun _ => fun
  | [d1, d2, d3] => { results := [.lit (.bool false)], args := [d1, d2, d3] }
  | _ => none }
def EditOverWrongFalsely : Prop := editOverRow.holds Tryd.pinned (OpenSpec.ofChange editOverWrong)

/- THE SECOND FORM. 'bulk': how many values and letters a reading holds, each counted each time it is reached (what is shared counts as often as it is met; a slice's spare places count too). A statement '..UptoSaid' is the law's where the arguments, and the package variables that the reading takes, are together of bulk at most 1048576: NARROWER than '..Said'. Prove '..Said' where nothing that the law and all that it calls make is longer than what came in: it says more and counts as full. Else prove '..UptoSaid'. A law counts once. -/
mutual
def uptoBulk {H : Type} : DataW H → Nat
  | .lit (.string bytes) => bytes.length + 1
  | .lit _ => 1
  | .nil => 1
  | .ptr d => uptoBulk d + 1
  | .slice elems spare => uptoBulkAll elems + uptoBulkAll spare + 1
  | .agg parts => uptoBulkAll parts + 1
  | .iface _ d => uptoBulk d + 1
  | .map entries => uptoBulkEntries entries + 1
  | .held _ => 1
def uptoBulkAll {H : Type} : List (DataW H) → Nat
  | [] => 0
  | d :: r => uptoBulk d + uptoBulkAll r
def uptoBulkEntries {H : Type} : List (Lit × DataW H) → Nat
  | [] => 0
  | x :: r => uptoBulkEntry x + uptoBulkEntries r
def uptoBulkEntry {H : Type} : Lit × DataW H → Nat
  | (.string bytes, d) => bytes.length + uptoBulk d + 1
  | (_, d) => uptoBulk d + 1
 end
def uptoSmall : (H : Type) → List (DataW H) → Bool := fun _ ds => decide (uptoBulkAll ds ≤ 1048576)
def OpenSpec.upto (s : _root_.Go.ChangeSpec) : _root_.Go.OpenSpec := { _root_.Go.OpenSpec.ofChange s with cond := some uptoSmall }

/-- 'shutterlaw14.EditTypes', WHERE WHAT IT READS IS OF BULK AT MOST 1048576: true; the input reads as it did. -/
def editTypesUptoRow : OpenClaim := { program := "ytoafcmklomopaaadoor", sum := "e389bb8232fb21ece14e5a3b00e197cdce5d3a32ab42d89407774a3bd0d190f0", func := "shutter/shutterlaw14.EditTypes", spec := "editTypes", inPlace := ["internal/reflectlite.ValueOf", "(internal/reflectlite.Value).Type", "(internal/reflectlite.Value).IsNil", "internal/reflectlite.TypeOf", "(internal/reflectlite.Value).Elem", "(internal/reflectlite.Value).Set"], unfollowed := true, recurses := true, named := ["errors.errorType"], apart := false, laid := [("errors.errorType", laid_errors_errorType)], narrowed := true }
def EditTypesUptoSaid : Prop := editTypesUptoRow.holds Tryd.pinned (OpenSpec.upto editTypesSpec)

/-- 'shutterlaw14.EditLines', WHERE WHAT IT READS IS OF BULK AT MOST 1048576: true; the input reads as it did. -/
def editLinesUptoRow : OpenClaim := { program := "ytoafcmklomopaaadoor", sum := "e389bb8232fb21ece14e5a3b00e197cdce5d3a32ab42d89407774a3bd0d190f0", func := "shutter/shutterlaw14.EditLines", spec := "editLines", inPlace := ["internal/reflectlite.ValueOf", "(internal/reflectlite.Value).Type", "(internal/reflectlite.Value).IsNil", "internal/reflectlite.TypeOf", "(internal/reflectlite.Value).Elem", "(internal/reflectlite.Value).Set"], unfollowed := true, recurses := true, named := ["errors.errorType"], apart := false, laid := [("errors.errorType", laid_errors_errorType)], narrowed := true }
def EditLinesUptoSaid : Prop := editLinesUptoRow.holds Tryd.pinned (OpenSpec.upto editLinesSpec)

/-- 'shutterlaw14.EditGuards', WHERE WHAT IT READS IS OF BULK AT MOST 1048576: true; the input reads as it did. -/
def editGuardsUptoRow : OpenClaim := { program := "ytoafcmklomopaaadoor", sum := "e389bb8232fb21ece14e5a3b00e197cdce5d3a32ab42d89407774a3bd0d190f0", func := "shutter/shutterlaw14.EditGuards", spec := "editGuards", inPlace := ["internal/reflectlite.ValueOf", "(internal/reflectlite.Value).Type", "(internal/reflectlite.Value).IsNil", "internal/reflectlite.TypeOf", "(internal/reflectlite.Value).Elem", "(internal/reflectlite.Value).Set"], unfollowed := true, recurses := true, named := ["errors.errorType"], apart := false, laid := [("errors.errorType", laid_errors_errorType)], narrowed := true }
def EditGuardsUptoSaid : Prop := editGuardsUptoRow.holds Tryd.pinned (OpenSpec.upto editGuardsSpec)

/-- 'shutterlaw14.EditInserts', WHERE WHAT IT READS IS OF BULK AT MOST 1048576: true; the input reads as it did. -/
def editInsertsUptoRow : OpenClaim := { program := "ytoafcmklomopaaadoor", sum := "e389bb8232fb21ece14e5a3b00e197cdce5d3a32ab42d89407774a3bd0d190f0", func := "shutter/shutterlaw14.EditInserts", spec := "editInserts", inPlace := ["internal/reflectlite.ValueOf", "(internal/reflectlite.Value).Type", "(internal/reflectlite.Value).IsNil", "internal/reflectlite.TypeOf", "(internal/reflectlite.Value).Elem", "(internal/reflectlite.Value).Set"], unfollowed := true, recurses := true, named := ["errors.errorType"], apart := false, laid := [("errors.errorType", laid_errors_errorType)], narrowed := true }
def EditInsertsUptoSaid : Prop := editInsertsUptoRow.holds Tryd.pinned (OpenSpec.upto editInsertsSpec)

/-- 'shutterlaw14.EditOver', WHERE WHAT IT READS IS OF BULK AT MOST 1048576: true; the input reads as it did. -/
def editOverUptoRow : OpenClaim := { program := "ytoafcmklomopaaadoor", sum := "e389bb8232fb21ece14e5a3b00e197cdce5d3a32ab42d89407774a3bd0d190f0", func := "shutter/shutterlaw14.EditOver", spec := "editOver", inPlace := ["internal/reflectlite.ValueOf", "(internal/reflectlite.Value).Type", "(internal/reflectlite.Value).IsNil", "internal/reflectlite.TypeOf", "(internal/reflectlite.Value).Elem", "(internal/reflectlite.Value).Set"], unfollowed := true, recurses := true, named := ["errors.errorType"], apart := false, laid := [("errors.errorType", laid_errors_errorType)], narrowed := true }
def EditOverUptoSaid : Prop := editOverUptoRow.holds Tryd.pinned (OpenSpec.upto editOverSpec)

end Rows
end Go.Proofs.YtoafcmklomopaaaDoor
