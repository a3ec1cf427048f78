/- few of the laws of paint: are orders few? -/
import Derived.Test.YtdmieopdgihnkaaDoorBunPnt
import Derived.Test.YtdmieopdgihnkaaDoorBunStr
namespace Go.Proofs.YtdmieopdgihnkaaDoor
open Go.RowKit Sha Six Apd Cut Err Att Grd Fld
set_option linter.unusedVariables false
namespace Pnt
set_option maxRecDepth 100000 in
set_option maxHeartbeats 8000000 in
theorem pfew_any (al : Option Addr) (nl cl : Nat) (os : List Go.Proofs.YtdmieopdgihnkaaDoor.Ord.O) (w : World) (h : Str.OrdsIn w 0 (.slice al nl cl) os) (hm : os.length ≤ maxLen) :
    Calls Tryd.prog 15 #[.slice al nl cl] w fun e w' => e = .returned (.bool (Str.fewB os)) ∧ Below w.heap.size w w' := by
  obtain rfl := h.len
  have HF := Lib.hid (Str.few_any ⟨0, false, false, false, os⟩ al os.length cl w h hm)
  simp only at HF
  clear h hm
  go_enter Tryd.func15, Tryd.ntmps15
  go_wp2_with fail
  with_reducible refine HF.out.mono ?_
  rintro e w2 ⟨rfl, hb⟩
  go_wp2_with fail
  go_ret
  exact ⟨rfl, hb⟩
theorem few_sound {os : List Go.Proofs.YtdmieopdgihnkaaDoor.Ord.O} (h : Str.fewB os = true) (h8 : ∀ o ∈ os, (∀ x ∈ o.t, x < 256) ∧ o.c < 256) : os.length ≤ 60 ∧ Str.Sound os := by
  obtain ⟨h1, h2⟩ := Str.fewB_true h
  exact ⟨h1, fun o ho => ⟨(h8 o ho).1, Nat.lt_of_le_of_lt (h2 o ho) (by decide), (h8 o ho).2⟩⟩
end Pnt
end Go.Proofs.YtdmieopdgihnkaaDoor
