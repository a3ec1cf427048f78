/- Boxes and answers of package keys. Written by tools/gen_kyb_code.py. -/
import Derived.Test.YtpgbnnnfeaodmaaGreatDoorSKybMore
import Derived.Test.YtpgbnnnfeaodmaaGreatDoorSBunSce
import Derived.Test.YtpgbnnnfeaodmaaGreatDoorSBunSce
import Derived.Test.YtpgbnnnfeaodmaaGreatDoorSBunScr
import Derived.Test.YtpgbnnnfeaodmaaGreatDoorSBunScr
import Derived.Deep.Cut
import Derived.IntWalk
namespace Go.Proofs.YtpgbnnnfeaodmaaGreatDoor
open Go.RowKit Sha Six Apd Cut Err Att Grd Fld Scr
set_option linter.unusedVariables false
namespace Kyb
open Edt
theorem cells2 {w : World} {B : Nat} {t : TypeId} {a0 a1 : Value} (h : w.heap[B]? = some (.cells #[a0, a1] t (0, 0))) : w.cell? ⟨B, 0, none⟩ = some a0 ∧ w.cell? ⟨B, 1, none⟩ = some a1 :=
  ⟨cell_of_row _ _ 0 _ _ _ h, cell_of_row _ _ 1 _ _ _ h⟩
theorem free2 {w : World} {B : Nat} {t : TypeId} {a0 a1 : Value} (h : w.heap[B]? = some (.cells #[a0, a1] t (0, 0))) : w.frozen? ⟨B, 0, none⟩ = false ∧ w.frozen? ⟨B, 1, none⟩ = false :=
  ⟨frozen_of_row _ _ 0 _ _ h, frozen_of_row _ _ 1 _ _ h⟩
def GaveK (w w' : World) (t : S) (asks : Bool) (code wh : Int) (e : Ending) : Prop := ∃ va vc ev, e = .returned (.tuple #[.agg #[.int .i64 t.rows, .int .i64 t.cols, .slice va t.cs.length vc, .int .i64 t.cur, .bool t.lk, .bool t.ins], .bool asks, ev]) ∧ CelsIn w' (.slice va t.cs.length vc) t.cs ∧ Err.Told w' ev code wh ∧ (code = 0 → ev = .nilIface ∧ OwnCels w' w.heap.size (.slice va t.cs.length vc) t.cs) ∧ Below w.heap.size w w'
def ShownK (w w' : World) (t : S) (asks : Bool) (code wh : Int) (e : Ending) : Prop := ∃ va vc, e = .returned (.tuple #[.agg #[.int .i64 t.rows, .int .i64 t.cols, .slice va t.cs.length vc, .int .i64 t.cur, .bool t.lk, .bool t.ins], .bool asks, .int .i64 code, .int .i64 wh]) ∧ CelsIn w' (.slice va t.cs.length vc) t.cs ∧ Below w.heap.size w w'
theorem results_cell_3 {fn : Func} {p u1 u2 u3 : Tmp} {ty : TypeId} (h : fn.results = #[.cell p ty, .tmp u1, .tmp u2, .tmp u3]) (tmps : Array Value) (P : Program) (w : World) (g : Nat) (cs : Array Value)
    (hp : tmps.getD p undef = .pointer (some ⟨g, 0, none⟩)) (hl : (loadVar ty ⟨g, 0, none⟩).run P w = .ok (.agg cs) w) (x1 x2 x3 : Value) (h1 : tmps.getD u1 undef = x1) (h2 : tmps.getD u2 undef = x2) (h3 : tmps.getD u3 undef = x3) :
    (results fn tmps).run P w = .ok (.tuple #[.agg cs, x1, x2, x3]) w := by
  subst h1 h2 h3
  have hp' : tmps[p]?.getD undef = .pointer (some ⟨g, 0, none⟩) := by simpa using hp
  simp [results, h]
  simp [hp', asAddr, hl]
theorem told_errn (w : World) (code : Nat) : Err.Told w (errn code) code (-1) := by
  unfold errn
  split
  · exact .inl ⟨rfl, by omega, rfl⟩
  · exact .inr (.inl ⟨rfl, rfl⟩)
theorem lay_G {w w1 w2 : World} {t : S} {va : Option Addr} {vc Z : Nat} {ev : Value} {code wh : Int} {n0 n1 : Int} {a2 a3 a4 a5 : Value} (hz : w2.heap[Z]? = some (.cells #[.int .i64 n0, .int .i64 n1, a2, a3, a4, a5] 24 (0, 0))) (hc : CelsIn w2 (.slice va t.cs.length vc) t.cs) (ht : Err.Told w2 ev code wh) (hn : code = 0 → ev = .nilIface ∧ OwnCels w2 w1.heap.size (.slice va t.cs.length vc) t.cs) (hk : Below w.heap.size w w2) (hle : w.heap.size ≤ Z) (h0 : 0 < t.cs.length) (hzw : Z < w1.heap.size) (hw : w.heap.size ≤ w1.heap.size) :
    ((((((w2.setCell ⟨Z, 0, none⟩ (.int .i64 t.rows)).setCell ⟨Z, 1, none⟩ (.int .i64 t.cols)).setCell ⟨Z, 2, none⟩ (.slice va t.cs.length vc)).setCell ⟨Z, 3, none⟩ (.int .i64 t.cur)).setCell ⟨Z, 4, none⟩ (.bool t.lk)).setCell ⟨Z, 5, none⟩ (.bool t.ins)).heap[Z]? = some (.cells (six va vc t) 24 (0, 0)) ∧
    CelsIn ((((((w2.setCell ⟨Z, 0, none⟩ (.int .i64 t.rows)).setCell ⟨Z, 1, none⟩ (.int .i64 t.cols)).setCell ⟨Z, 2, none⟩ (.slice va t.cs.length vc)).setCell ⟨Z, 3, none⟩ (.int .i64 t.cur)).setCell ⟨Z, 4, none⟩ (.bool t.lk)).setCell ⟨Z, 5, none⟩ (.bool t.ins)) (.slice va t.cs.length vc) t.cs ∧ Err.Told ((((((w2.setCell ⟨Z, 0, none⟩ (.int .i64 t.rows)).setCell ⟨Z, 1, none⟩ (.int .i64 t.cols)).setCell ⟨Z, 2, none⟩ (.slice va t.cs.length vc)).setCell ⟨Z, 3, none⟩ (.int .i64 t.cur)).setCell ⟨Z, 4, none⟩ (.bool t.lk)).setCell ⟨Z, 5, none⟩ (.bool t.ins)) ev code wh ∧
    (code = 0 → ev = .nilIface ∧ OwnCels ((((((w2.setCell ⟨Z, 0, none⟩ (.int .i64 t.rows)).setCell ⟨Z, 1, none⟩ (.int .i64 t.cols)).setCell ⟨Z, 2, none⟩ (.slice va t.cs.length vc)).setCell ⟨Z, 3, none⟩ (.int .i64 t.cur)).setCell ⟨Z, 4, none⟩ (.bool t.lk)).setCell ⟨Z, 5, none⟩ (.bool t.ins)) w.heap.size (.slice va t.cs.length vc) t.cs) ∧ Below w.heap.size w ((((((w2.setCell ⟨Z, 0, none⟩ (.int .i64 t.rows)).setCell ⟨Z, 1, none⟩ (.int .i64 t.cols)).setCell ⟨Z, 2, none⟩ (.slice va t.cs.length vc)).setCell ⟨Z, 3, none⟩ (.int .i64 t.cur)).setCell ⟨Z, 4, none⟩ (.bool t.lk)).setCell ⟨Z, 5, none⟩ (.bool t.ins)) := by
  have SF := over6 w2 Z 24 _ _ _ _ _ _ (.int .i64 t.rows) (.int .i64 t.cols) (.slice va t.cs.length vc) (.int .i64 t.cur) (.bool t.lk) (.bool t.ins) hz
  refine ⟨SF.1, celsIn_away hc SF.2 fun x hx => (not_screen hc h0 hz x hx).1, told_other ht SF.2 fun t x h => ?_, fun h => ⟨(hn h).1, ?_⟩, below_grown hk SF.2 hle⟩
  · rw [(cells6 hz).2.1] at h
    injection h with h
    cases h
  · have ho := (hn h).2
    exact OwnCels.mono (ho.away SF.2 (by intro e; have := own_ge ho _ e; omega)) hw
theorem gave_N {w w' : World} {t : S} {code : Nat} {e : Ending} (h : GaveN w w' t code e) : GaveE w w' t (code : Nat) (-1) e := by
  obtain ⟨va, vc, h1, h2, h3, h4⟩ := h
  exact ⟨va, vc, errn code, h1, h2, told_errn _ _, fun h => ⟨by unfold errn; rw [if_pos (by omega)], h3 (by omega)⟩, h4⟩
end Kyb
end Go.Proofs.YtpgbnnnfeaodmaaGreatDoor
