/- What calls of package read answer. -/
import Derived.Test.YtpdlpmbjhopnnaaDoorRedInp
import Derived.Test.YtpdlpmbjhopnnaaDoorInpMem
import Derived.Test.YtpdlpmbjhopnnaaDoorBunScr
namespace Go.Proofs.YtpdlpmbjhopnnaaDoor
open Go.RowKit Sha Six Apd Cut Err
set_option linter.unusedVariables false
namespace Red
open Go.Proofs.YtpdlpmbjhopnnaaDoor.Inp (I F)
/-- What Modified answers of whatever byte, and the number of its error. -/
def asks (s : Grd.S) (c : Nat) : I := if Att.aid c then modified s c else Inp.noneI
def asksE (c : Nat) : Nat := if Att.aid c then 0 else 3
/-- What Reply answers: bytes, and the number of an error. -/
def imageB (s : Grd.S) : List Nat := (Str.cwrite ⟨241, false, false, false, image s⟩ s.cs.length).1
def replyB (s : Grd.S) (cmd : Int) (c : Nat) : List Nat := if cmd = 242 then imageB s else if cmd = 246 then (if Att.aid c then Inp.ibytes (modified s c) s.cs.length else []) else []
def replyE (cmd : Int) (c : Nat) : Nat := if cmd = 242 then 0 else if cmd = 246 then asksE c else 5
/-- Orders, all of them new memory. -/
def GaveO (w w' : World) (os : List Ord.O) (e : Ending) : Prop := ∃ va vc, e = .returned (.slice va os.length vc) ∧ Str.OwnOrds w' w.heap.size (.slice va os.length vc) os ∧ Below w.heap.size w w'
/-- A submission and the error of this number, all of it new memory. -/
def GaveM (w w' : World) (i : I) (code : Nat) (e : Ending) : Prop := ∃ va vc, e = .returned (.tuple #[.agg #[.int .u8 (i.aid : Int), .int .i64 i.cur, .slice va i.fs.length vc], Scr.errn code]) ∧ Inp.OwnFlds w' w.heap.size (.slice va i.fs.length vc) i.fs ∧ Below w.heap.size w w'
end Red
end Go.Proofs.YtpdlpmbjhopnnaaDoor
