/- Keys that wipe on a screen that isn't locked, in the form of the laws' walks. Written by tools/gen_wip_ok.py. -/
import Derived.Test.YtaopkelobglnbaaDoorWipCode
import Derived.Test.YtaopkelobglnbaaDoorWipMore
namespace Go.Proofs.YtaopkelobglnbaaDoor
open Go.RowKit Sha Six Apd Cut Err Att Grd Fld Scr
set_option linter.unusedVariables false
namespace Wip
open Edt
def ul (s : S) : S := { s with lk := false }
theorem ul_right {s : S} (h : sright s = true) : sright (ul s) = true := h
theorem all_ok1 (s : S) (ad : Option Addr) (k : Nat) (w : World) (h : CelsIn w (.slice ad s.cs.length k) s.cs) (hr : sright s = true) (hl : s.cs.length < 10000) :
    Calls Tryd.prog 10 #[.agg #[.int .i64 s.rows, .int .i64 s.cols, .slice ad s.cs.length k, .int .i64 s.cur, .bool false, .bool s.ins], .int .i64 14] w fun e w' => ∃ va vc, e = .returned (.tuple #[.agg #[.int .i64 s.rows, .int .i64 s.cols, .slice va s.cs.length vc, .int .i64 (Hst.curOf s.cs), .bool false, .bool s.ins], .nilIface]) ∧ OwnCels w' w.heap.size (.slice va s.cs.length vc) (Hst.hclean s).cs ∧ Below w.heap.size w w' := by
  have := do_any (ul s) ad k 14 w h (ul_right hr) (right_sound hr) hl
  rw [wdo_14 (s := ul s) rfl] at this
  exact this.mono fun e w' ⟨va, vc, ev, h1, _, _, h3, h4⟩ => by
    obtain ⟨rfl, h5⟩ := h3 rfl
    have e1 : (wall (ul s)).cs.length = s.cs.length := Hst.hclean_length s
    rw [e1] at h1 h5
    exact ⟨va, vc, h1, h5, h4⟩
theorem wall_right {s : S} (h : sright s = true) : sright (wall s) = true := Hst.hclean_right h
theorem all_ok2 (s : S) (ad : Option Addr) (k : Nat) (w : World) (h : CelsIn w (.slice ad s.cs.length k) (Hst.hclean s).cs) (hr : sright s = true) (hl : s.cs.length < 10000) :
    Calls Tryd.prog 10 #[.agg #[.int .i64 s.rows, .int .i64 s.cols, .slice ad s.cs.length k, .int .i64 (Hst.curOf s.cs), .bool false, .bool s.ins], .int .i64 14] w fun e w' => ∃ va vc, e = .returned (.tuple #[.agg #[.int .i64 s.rows, .int .i64 s.cols, .slice va s.cs.length vc, .int .i64 (Hst.curOf s.cs), .bool false, .bool s.ins], .nilIface]) ∧ OwnCels w' w.heap.size (.slice va s.cs.length vc) (Hst.hclean s).cs ∧ Below w.heap.size w w' := by
  have e1 : (wall (ul s)).cs.length = s.cs.length := Hst.hclean_length s
  have hw := wall_right (ul_right hr)
  have := do_any (wall (ul s)) ad k 14 w (by rw [e1]; exact h) hw (right_sound hw) (by rw [e1]; exact hl)
  rw [(alls_twice (s := ul s) rfl).2, e1] at this
  exact this.mono fun e w' ⟨va, vc, ev, h1, _, _, h3, h4⟩ => by
    obtain ⟨rfl, h5⟩ := h3 rfl
    rw [e1] at h1 h5
    exact ⟨va, vc, h1, h5, h4⟩
theorem host_ok (s : S) (ad : Option Addr) (k : Nat) (w : World) (h : CelsIn w (.slice ad s.cs.length k) s.cs) (hr : sright s = true) (hl : s.cs.length < 10000) :
    Calls Tryd.prog 14 #[.agg #[.int .i64 s.rows, .int .i64 s.cols, .slice ad s.cs.length k, .int .i64 s.cur, .bool false, .bool s.ins], .agg #[.int .i64 111, .bool false, .bool false, .bool false, .slice none 0 0]] w fun e w' => ∃ va vc, e = .returned (.tuple #[.agg #[.int .i64 s.rows, .int .i64 s.cols, .slice va s.cs.length vc, .int .i64 (Hst.curOf s.cs), .bool false, .bool false], .nilIface]) ∧ OwnCels w' w.heap.size (.slice va s.cs.length vc) (Hst.hclean s).cs ∧ Below w.heap.size w w' := by
  have := Hst.do_ok (ul s) ad k ⟨111, false, false, false, []⟩ none 0 0 w h (ul_right hr) (right_sound hr) hl (Str.ordsIn_nil _ _) nofun (by decide) (Hst.clean_ok _)
  rw [show Hst.hdo (ul s) ⟨111, false, false, false, []⟩ = Hst.hclean s from by simp [Hst.hdo]; rfl] at this
  exact this.mono fun e w' ⟨va, vc, h1, h3, h4⟩ => by
    rw [Hst.hclean_length] at h1 h3
    exact ⟨va, vc, h1, h3, h4⟩
theorem del_ok (s : S) (ad : Option Addr) (k kc q : Nat) (w : World) (h : CelsIn w (.slice ad s.cs.length k) (dels (ul s) kc q).cs) (hr : sright s = true) (hl : s.cs.length < 10000) (hcur : s.cur = (kc : Int)) (hk : kc < s.cs.length) (ho : open_ s.cs kc = true) :
    Calls Tryd.prog 10 #[.agg #[.int .i64 s.rows, .int .i64 s.cols, .slice ad s.cs.length k, .int .i64 s.cur, .bool false, .bool s.ins], .int .i64 12] w fun e w' => ∃ va vc, e = .returned (.tuple #[.agg #[.int .i64 s.rows, .int .i64 s.cols, .slice va s.cs.length vc, .int .i64 s.cur, .bool false, .bool s.ins], .nilIface]) ∧ OwnCels w' w.heap.size (.slice va s.cs.length vc) (dels (ul s) kc (q + 1)).cs ∧ Below w.heap.size w w' := by
  have e1 : (dels (ul s) kc q).cs.length = s.cs.length := dels_length _ _ _
  have hw := dels_right (ul_right hr) hk q
  have := do_any (dels (ul s) kc q) ad k 12 w (by rw [e1]; exact h) hw (right_sound hw) (by rw [e1]; exact hl)
  rw [dels_step (s := ul s) (q := q) hcur hk rfl ho, dels_form (ul s) kc q, dels_form (ul s) kc (q + 1)] at this
  simp only at this
  rw [e1] at this
  exact this.mono fun e w' ⟨va, vc, ev, h1, _, _, h3, h4⟩ => by
    obtain ⟨rfl, h5⟩ := h3 rfl
    have e2 : (dels (ul s) kc (q + 1)).cs.length = s.cs.length := dels_length _ _ _
    simp only at h1 h5
    rw [e2] at h1 h5
    exact ⟨va, vc, h1, h5, h4⟩
theorem end_ok (s : S) (ad : Option Addr) (k kc q : Nat) (w : World) (h : CelsIn w (.slice ad s.cs.length k) (dels (ul s) kc q).cs) (hr : sright s = true) (hl : s.cs.length < 10000) (hcur : s.cur = (kc : Int)) (hk : kc < s.cs.length) (ho : open_ s.cs kc = true) :
    Calls Tryd.prog 10 #[.agg #[.int .i64 s.rows, .int .i64 s.cols, .slice ad s.cs.length k, .int .i64 s.cur, .bool false, .bool s.ins], .int .i64 13] w fun e w' => ∃ va vc, e = .returned (.tuple #[.agg #[.int .i64 s.rows, .int .i64 s.cols, .slice va s.cs.length vc, .int .i64 s.cur, .bool false, .bool s.ins], .nilIface]) ∧ OwnCels w' w.heap.size (.slice va s.cs.length vc) (dels (ul s) kc (lineLen s.cs kc)).cs ∧ Below w.heap.size w w' := by
  have e1 : (dels (ul s) kc q).cs.length = s.cs.length := dels_length _ _ _
  have hw := dels_right (ul_right hr) hk q
  have := do_any (dels (ul s) kc q) ad k 13 w (by rw [e1]; exact h) hw (right_sound hw) (by rw [e1]; exact hl)
  rw [ends_any (s := ul s) hcur hk rfl ho q, dels_form (ul s) kc q, dels_form (ul s) kc (lineLen (ul s).cs kc)] at this
  simp only at this
  rw [e1] at this
  exact this.mono fun e w' ⟨va, vc, ev, h1, _, _, h3, h4⟩ => by
    obtain ⟨rfl, h5⟩ := h3 rfl
    have e2 : (dels (ul s) kc (lineLen (ul s).cs kc)).cs.length = s.cs.length := dels_length _ _ _
    simp only at h1 h5
    rw [e2] at h1 h5
    exact ⟨va, vc, h1, h5, h4⟩
end Wip
end Go.Proofs.YtaopkelobglnbaaDoor
