/-
  NARROWER THAN 'FOR EVERY INPUT', by the rows' own cells (each row's printed sentence says how): KeysDo: laid · KeysGuard: laid · KeysLocked: laid · KeysAsk: laid · KeysKeeps: laid.
  DERIVED. THE GIVEN ROWS OF THIS SEAT. 5 by the template 'for every input the law returns true; each argument reads behind the call as it read before'; 0 by the template 'total and deterministic' (their statements: YtpgbnnnfeaodmaaGreatDoorTotals.lean).
  GIVEN WITH THE SEED: the statements are not yours to turn. If you find one false, say at which input.
  Laid BY PROGRAM, IN A SANDBOX (cutbox-rows.mjs): the forced cells as the released guide's own fill.sh prints them over the translation fe98512cdaf6df23… (all of the seat's roots in one cut). By AI agents, Wed Nov 11 2026. No macro, syntax, notation, axiom, sorry.
-/
import Derived.Test.YtpgbnnnfeaodmaaGreatDoorChecked
import GoSem.Claim
import GoSem.ClaimJoined
import GoSem.ClaimMapViews
import Derived.JoinedTies
import Derived.KernelRfl
namespace Go.Proofs.YtpgbnnnfeaodmaaGreatDoor
/- THE CELL 'sum', in the pinned program and in every row, IS THE sha256 OF THE DUMP (.gsa) THAT YtpgbnnnfeaodmaaGreatDoorProg.lean LOADS. Nothing in Lean hashes anything: it is a label: what it is worth is what the hold of that sum in a sandbox is worth. -/
noncomputable def Tryz.pinned : Pinned := { name := "ytpgbnnnfeaodmaagreatdoor", sum := "fe98512cdaf6df23252071f6f0c8009bc37c825be88f38298f8a39e5689b2137", checked := Tryz.checked }
namespace Rows
def none {H : Type} : Left H := { results := [], args := [] }

/- WHAT THE LISTED PACKAGE-LEVEL VARIABLES READ AS WHEN THE CALL BEGINS. Each datum BY PROGRAM (the guide's laid-datum.mjs) off the statement by which the dump's own 'gosem.cut.vars' lays the variable. In a bare row this is a premise. The card (YtpgbnnnfeaodmaaGreatDoorCards.lean) ties it to the program's text. -/
def laid_errors_errorType {H : Type} : DataW H := .iface "internal/reflectlite.rtype" (.agg [.ptr (.lit (.string [101, 114, 114, 111, 114]))])

/-- 'shutterlaw17.KeysDo': WHATEVER THE INPUT: true; the input reads as it did. -/
def keysDoSpec : ChangeSpec := { name := "keysDo", fn := fun _ => fun
  | [d1, d2] => { results := [.lit (.bool true)], args := [d1, d2] }
  | _ => none }
def keysDoRow : OpenClaim := { program := "ytpgbnnnfeaodmaagreatdoor", sum := "fe98512cdaf6df23252071f6f0c8009bc37c825be88f38298f8a39e5689b2137", func := "shutter/shutterlaw17.KeysDo", spec := "keysDo", inPlace := ["internal/reflectlite.ValueOf", "(internal/reflectlite.Value).Type", "(internal/reflectlite.Value).IsNil", "internal/reflectlite.TypeOf", "(internal/reflectlite.Value).Elem", "(internal/reflectlite.Value).Set"], unfollowed := true, recurses := true, named := ["errors.errorType"], apart := false, laid := [("errors.errorType", laid_errors_errorType)] }
def KeysDoSaid : Prop := keysDoRow.holds Tryz.pinned (OpenSpec.ofChange keysDoSpec)

/-- ITS FALSE NEIGHBOUR: 'it returns false'. Refute it at one input. -/
def keysDoWrong : ChangeSpec := { name := "keysDo", fn := fun _ => fun
  | [d1, d2] => { results := [.lit (.bool false)], args := [d1, d2] }
  | _ => none }
def KeysDoWrongFalsely : Prop := keysDoRow.holds Tryz.pinned (OpenSpec.ofChange keysDoWrong)

/-- 'shutterlaw17.KeysGuard': WHATEVER THE INPUT: true; the input reads as it did. -/
def keysGuardSpec : ChangeSpec := { name := "keysGuard", fn := fun _ => fun
  | [d1, d2] => { results := [.lit (.bool true)], args := [d1, d2] }
  | _ => none }
def keysGuardRow : OpenClaim := { program := "ytpgbnnnfeaodmaagreatdoor", sum := "fe98512cdaf6df23252071f6f0c8009bc37c825be88f38298f8a39e5689b2137", func := "shutter/shutterlaw17.KeysGuard", spec := "keysGuard", inPlace := ["internal/reflectlite.ValueOf", "(internal/reflectlite.Value).Type", "(internal/reflectlite.Value).IsNil", "internal/reflectlite.TypeOf", "(internal/reflectlite.Value).Elem", "(internal/reflectlite.Value).Set"], unfollowed := true, recurses := true, named := ["errors.errorType"], apart := false, laid := [("errors.errorType", laid_errors_errorType)] }
def KeysGuardSaid : Prop := keysGuardRow.holds Tryz.pinned (OpenSpec.ofChange keysGuardSpec)

/-- ITS FALSE NEIGHBOUR: 'it returns false'. Refute it at one input. -/
def keysGuardWrong : ChangeSpec := { name := "keysGuard", fn := fun _ => fun
  | [d1, d2] => { results := [.lit (.bool false)], args := [d1, d2] }
  | _ => none }
def KeysGuardWrongFalsely : Prop := keysGuardRow.holds Tryz.pinned (OpenSpec.ofChange keysGuardWrong)

/-- 'shutterlaw17.KeysLocked': WHATEVER THE INPUT: true; the input reads as it did. -/
def keysLockedSpec : ChangeSpec := { name := "keysLocked", fn := fun _ => fun
  | [d1, d2] => { results := [.lit (.bool true)], args := [d1, d2] }
  | _ => none }
def keysLockedRow : OpenClaim := { program := "ytpgbnnnfeaodmaagreatdoor", sum := "fe98512cdaf6df23252071f6f0c8009bc37c825be88f38298f8a39e5689b2137", func := "shutter/shutterlaw17.KeysLocked", spec := "keysLocked", inPlace := ["internal/reflectlite.ValueOf", "(internal/reflectlite.Value).Type", "(internal/reflectlite.Value).IsNil", "internal/reflectlite.TypeOf", "(internal/reflectlite.Value).Elem", "(internal/reflectlite.Value).Set"], unfollowed := true, recurses := true, named := ["errors.errorType"], apart := false, laid := [("errors.errorType", laid_errors_errorType)] }
def KeysLockedSaid : Prop := keysLockedRow.holds Tryz.pinned (OpenSpec.ofChange keysLockedSpec)

/-- ITS FALSE NEIGHBOUR: 'it returns false'. Refute it at one input. -/
def keysLockedWrong : ChangeSpec := { name := "keysLocked", fn := fun _ => fun
  | [d1, d2] => { results := [.lit (.bool false)], args := [d1, d2] }
  | _ => none }
def KeysLockedWrongFalsely : Prop := keysLockedRow.holds Tryz.pinned (OpenSpec.ofChange keysLockedWrong)

/-- 'shutterlaw17.KeysAsk': WHATEVER THE INPUT: true; the input reads as it did. -/
def keysAskSpec : ChangeSpec := { name := "keysAsk", fn := fun _ => fun
  | [d1, d2, d3] => { results := [.lit (.bool true)], args := [d1, d2, d3] }
  | _ => none }
def keysAskRow : OpenClaim := { program := "ytpgbnnnfeaodmaagreatdoor", sum := "fe98512cdaf6df23252071f6f0c8009bc37c825be88f38298f8a39e5689b2137", func := "shutter/shutterlaw17.KeysAsk", spec := "keysAsk", inPlace := ["internal/reflectlite.ValueOf", "(internal/reflectlite.Value).Type", "(internal/reflectlite.Value).IsNil", "internal/reflectlite.TypeOf", "(internal/reflectlite.Value).Elem", "(internal/reflectlite.Value).Set"], unfollowed := true, recurses := true, named := ["errors.errorType"], apart := false, laid := [("errors.errorType", laid_errors_errorType)] }
def KeysAskSaid : Prop := keysAskRow.holds Tryz.pinned (OpenSpec.ofChange keysAskSpec)

/-- ITS FALSE NEIGHBOUR: 'it returns false'. Refute it at one input. -/
def keysAskWrong : ChangeSpec := { name := "keysAsk", fn := fun _ => fun
  | [d1, d2, d3] => { results := [.lit (.bool false)], args := [d1, d2, d3] }
  | _ => none }
def KeysAskWrongFalsely : Prop := keysAskRow.holds Tryz.pinned (OpenSpec.ofChange keysAskWrong)

/-- 'shutterlaw17.KeysKeeps': WHATEVER THE INPUT: true; the input reads as it did. -/
def keysKeepsSpec : ChangeSpec := { name := "keysKeeps", fn := fun _ => fun
  | [d1, d2] => { results := [.lit (.bool true)], args := [d1, d2] }
  | _ => none }
def keysKeepsRow : OpenClaim := { program := "ytpgbnnnfeaodmaagreatdoor", sum := "fe98512cdaf6df23252071f6f0c8009bc37c825be88f38298f8a39e5689b2137", func := "shutter/shutterlaw17.KeysKeeps", spec := "keysKeeps", inPlace := ["internal/reflectlite.ValueOf", "(internal/reflectlite.Value).Type", "(internal/reflectlite.Value).IsNil", "internal/reflectlite.TypeOf", "(internal/reflectlite.Value).Elem", "(internal/reflectlite.Value).Set"], unfollowed := true, recurses := true, named := ["errors.errorType"], apart := false, laid := [("errors.errorType", laid_errors_errorType)] }
def KeysKeepsSaid : Prop := keysKeepsRow.holds Tryz.pinned (OpenSpec.ofChange keysKeepsSpec)

/-- ITS FALSE NEIGHBOUR: 'it returns false'. Refute it at one input. -/
def keysKeepsWrong : ChangeSpec := { name := "keysKeeps", fn := fun _ => fun
  | [d1, d2] => { results := [.lit (.bool false)], args := [d1, d2] }
  | _ => none }
def KeysKeepsWrongFalsely : Prop := keysKeepsRow.holds Tryz.pinned (OpenSpec.ofChange keysKeepsWrong)

/- THE SECOND FORM. 'bulk': how many values and letters a reading holds, each counted each time it is reached (what is shared counts as often as it is met; a slice's spare places count too). A statement '..UptoSaid' is the law's where the arguments, and the package variables that the reading takes, are together of bulk at most 1048576: NARROWER than '..Said'. Prove '..Said' where nothing that the law and all that it calls make is longer than what came in: it says more and counts as full. Else prove '..UptoSaid'. A law counts once. -/
mutual
def uptoBulk {H : Type} : DataW H → Nat
  | .lit (.string bytes) => bytes.length + 1
  | .lit _ => 1
  | .nil => 1
  | .ptr d => uptoBulk d + 1
  | .slice elems spare => uptoBulkAll elems + uptoBulkAll spare + 1
  | .agg parts => uptoBulkAll parts + 1
  | .iface _ d => uptoBulk d + 1
  | .map entries => uptoBulkEntries entries + 1
  | .held _ => 1
def uptoBulkAll {H : Type} : List (DataW H) → Nat
  | [] => 0
  | d :: r => uptoBulk d + uptoBulkAll r
def uptoBulkEntries {H : Type} : List (Lit × DataW H) → Nat
  | [] => 0
  | x :: r => uptoBulkEntry x + uptoBulkEntries r
def uptoBulkEntry {H : Type} : Lit × DataW H → Nat
  | (.string bytes, d) => bytes.length + uptoBulk d + 1
  | (_, d) => uptoBulk d + 1
 end
def uptoSmall : (H : Type) → List (DataW H) → Bool := fun _ ds => decide (uptoBulkAll ds ≤ 1048576)
def OpenSpec.upto (s : _root_.Go.ChangeSpec) : _root_.Go.OpenSpec := { _root_.Go.OpenSpec.ofChange s with cond := some uptoSmall }

/-- 'shutterlaw17.KeysDo', WHERE WHAT IT READS IS OF BULK AT MOST 1048576: true; the input reads as it did. -/
def keysDoUptoRow : OpenClaim := { program := "ytpgbnnnfeaodmaagreatdoor", sum := "fe98512cdaf6df23252071f6f0c8009bc37c825be88f38298f8a39e5689b2137", func := "shutter/shutterlaw17.KeysDo", spec := "keysDo", inPlace := ["internal/reflectlite.ValueOf", "(internal/reflectlite.Value).Type", "(internal/reflectlite.Value).IsNil", "internal/reflectlite.TypeOf", "(internal/reflectlite.Value).Elem", "(internal/reflectlite.Value).Set"], unfollowed := true, recurses := true, named := ["errors.errorType"], apart := false, laid := [("errors.errorType", laid_errors_errorType)], narrowed := true }
def KeysDoUptoSaid : Prop := keysDoUptoRow.holds Tryz.pinned (OpenSpec.upto keysDoSpec)

/-- 'shutterlaw17.KeysGuard', WHERE WHAT IT READS IS OF BULK AT MOST 1048576: true; the input reads as it did. -/
def keysGuardUptoRow : OpenClaim := { program := "ytpgbnnnfeaodmaagreatdoor", sum := "fe98512cdaf6df23252071f6f0c8009bc37c825be88f38298f8a39e5689b2137", func := "shutter/shutterlaw17.KeysGuard", spec := "keysGuard", inPlace := ["internal/reflectlite.ValueOf", "(internal/reflectlite.Value).Type", "(internal/reflectlite.Value).IsNil", "internal/reflectlite.TypeOf", "(internal/reflectlite.Value).Elem", "(internal/reflectlite.Value).Set"], unfollowed := true, recurses := true, named := ["errors.errorType"], apart := false, laid := [("errors.errorType", laid_errors_errorType)], narrowed := true }
def KeysGuardUptoSaid : Prop := keysGuardUptoRow.holds Tryz.pinned (OpenSpec.upto keysGuardSpec)

/-- 'shutterlaw17.KeysLocked', WHERE WHAT IT READS IS OF BULK AT MOST 1048576: true; the input reads as it did. -/
def keysLockedUptoRow : OpenClaim := { program := "ytpgbnnnfeaodmaagreatdoor", sum := "fe98512cdaf6df23252071f6f0c8009bc37c825be88f38298f8a39e5689b2137", func := "shutter/shutterlaw17.KeysLocked", spec := "keysLocked", inPlace := ["internal/reflectlite.ValueOf", "(internal/reflectlite.Value).Type", "(internal/reflectlite.Value).IsNil", "internal/reflectlite.TypeOf", "(internal/reflectlite.Value).Elem", "(internal/reflectlite.Value).Set"], unfollowed := true, recurses := true, named := ["errors.errorType"], apart := false, laid := [("errors.errorType", laid_errors_errorType)], narrowed := true }
def KeysLockedUptoSaid : Prop := keysLockedUptoRow.holds Tryz.pinned (OpenSpec.upto keysLockedSpec)

/-- 'shutterlaw17.KeysAsk', WHERE WHAT IT READS IS OF BULK AT MOST 1048576: true; the input reads as it did. -/
def keysAskUptoRow : OpenClaim := { program := "ytpgbnnnfeaodmaagreatdoor", sum := "fe98512cdaf6df23252071f6f0c8009bc37c825be88f38298f8a39e5689b2137", func := "shutter/shutterlaw17.KeysAsk", spec := "keysAsk", inPlace := ["internal/reflectlite.ValueOf", "(internal/reflectlite.Value).Type", "(internal/reflectlite.Value).IsNil", "internal/reflectlite.TypeOf", "(internal/reflectlite.Value).Elem", "(internal/reflectlite.Value).Set"], unfollowed := true, recurses := true, named := ["errors.errorType"], apart := false, laid := [("errors.errorType", laid_errors_errorType)], narrowed := true }
def KeysAskUptoSaid : Prop := keysAskUptoRow.holds Tryz.pinned (OpenSpec.upto keysAskSpec)

/-- 'shutterlaw17.KeysKeeps', WHERE WHAT IT READS IS OF BULK AT MOST 1048576: true; the input reads as it did. -/
def keysKeepsUptoRow : OpenClaim := { program := "ytpgbnnnfeaodmaagreatdoor", sum := "fe98512cdaf6df23252071f6f0c8009bc37c825be88f38298f8a39e5689b2137", func := "shutter/shutterlaw17.KeysKeeps", spec := "keysKeeps", inPlace := ["internal/reflectlite.ValueOf", "(internal/reflectlite.Value).Type", "(internal/reflectlite.Value).IsNil", "internal/reflectlite.TypeOf", "(internal/reflectlite.Value).Elem", "(internal/reflectlite.Value).Set"], unfollowed := true, recurses := true, named := ["errors.errorType"], apart := false, laid := [("errors.errorType", laid_errors_errorType)], narrowed := true }
def KeysKeepsUptoSaid : Prop := keysKeepsUptoRow.holds Tryz.pinned (OpenSpec.upto keysKeepsSpec)

end Rows
end Go.Proofs.YtpgbnnnfeaodmaaGreatDoor
