/- The document's Type of layer 14. Written by tools/gen_edt_rtype.py. -/
import Derived.Test.YtoafcmklomopaaaDoorEdtRtyp2
import Derived.Test.YtoafcmklomopaaaDoorEdtRight
import Derived.Test.YtoafcmklomopaaaDoorBunGrd
import Derived.Test.YtoafcmklomopaaaDoorBunFld
import Derived.Test.YtoafcmklomopaaaDoorBunRlp
import Derived.Deep.CutRange
import Derived.Deep.RegionHeld3
namespace Go.Proofs.YtoafcmklomopaaaDoor
open Go.RowKit Sha Six Apd Cut Err Att Grd Fld Scr
set_option linter.unusedVariables false
set_option linter.unusedSimpArgs false
namespace Edt
/-- The document's Type. -/
theorem rtype_any (s : S) (ad : Option Addr) (k c : Nat) (w : World) (h : CelsIn w (.slice ad s.cs.length k) s.cs) (hr : sright s = true) (hl : s.cs.length < 10000) (hc : c < 256) :
    Calls Tryd.prog 11 #[.agg #[.int .i64 s.rows, .int .i64 s.cols, .slice ad s.cs.length k, .int .i64 s.cur, .bool s.lk, .bool s.ins], .int .u8 (c : Int)] w fun e w' => ShownE w w' (typ s c).1 ((typ s c).2.1 : Nat) (typ s c).2.2 e := by
  obtain ⟨kc, e1, e2, hk⟩ := cur_nat hr
  have HT : typ s c = if ltr c = false then (s, 3, -1) else if s.lk = true then (s, 7, -1) else if open_ s.cs kc = false then (deny s, 8, s.cur) else if (((attrOf s.cs kc).n && !digit c) && (c != 28 && c != 30)) = true then (deny s, 9, s.cur) else if (s.ins && (free s.cs (line s.cs kc)).isNone) = true then (deny s, 10, s.cur) else (typed s kc c, 0, -1) := by
    unfold typ
    rw [e2]
  by_cases h1 : ltr c = false
  · rw [HT, if_pos h1]; exact rt_3 s ad k c kc w h hl hc hk e1 h1
  · rw [if_neg h1] at HT
    have h1 : ltr c = true := by simpa using h1
    by_cases h2 : s.lk = true
    · rw [HT, if_pos h2]; exact rt_7 s ad k c kc w h hl hc hk e1 h1 h2
    · rw [if_neg h2] at HT
      have h2 : s.lk = false := by simpa using h2
      by_cases h3 : open_ s.cs kc = false
      · rw [HT, if_pos h3]
        have := rt_8 s ad k c kc w h hl hc hk e1 h1 h2 h3
        rw [← e1] at this
        exact this
      · rw [if_neg h3] at HT
        have h3 : open_ s.cs kc = true := by simpa using h3
        by_cases h4 : (((attrOf s.cs kc).n && !digit c) && (c != 28 && c != 30)) = true
        · rw [HT, if_pos h4]
          have := rt_9 s ad k c kc w h hl hc hk e1 h1 h2 h3 h4
          rw [← e1] at this
          exact this
        · rw [if_neg h4] at HT
          have h4 : (((attrOf s.cs kc).n && !digit c) && (c != 28 && c != 30)) = false := by simpa using h4
          by_cases h5 : (s.ins && (free s.cs (line s.cs kc)).isNone) = true
          · rw [HT, if_pos h5]
            rw [Bool.and_eq_true] at h5
            have hn : free s.cs (line s.cs kc) = none := by
              have := h5.2
              cases hf : free s.cs (line s.cs kc) with
              | none => rfl
              | some j => rw [hf] at this; cases this
            have := rt_10 s ad k c kc w h hl hc hk e1 h1 h2 h3 h4 h5.1 hn
            rw [← e1] at this
            exact this
          · rw [HT, if_neg h5]
            have hj : s.ins = true → ∃ j, free s.cs (line s.cs kc) = some j := fun hi => by
              rw [hi] at h5
              cases hf : free s.cs (line s.cs kc) with
              | some j => exact ⟨j, rfl⟩
              | none => rw [hf] at h5; exact absurd rfl h5
            exact rt_ok s ad k c kc w h hl hc hk e1 h1 h2 h3 h4 hj
end Edt
end Go.Proofs.YtoafcmklomopaaaDoor
