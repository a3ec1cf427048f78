/- What api.Code and api.Where tell of a *api.Spot that wraps an api.Errno, and api.Where of other errors. -/
import Derived.Test.YtllpmgddcpgegaaDoorErrAs2
import Derived.Test.YtllpmgddcpgegaaDoorCode
namespace Go.Proofs.YtllpmgddcpgegaaDoor
open Go.RowKit
namespace Err
theorem where_nil (w : World) :
    Calls Tryd.prog 20 #[.nilIface] w fun e w' => e = .returned (.int .i64 (-1)) ∧ Below w.heap.size w w' := by
  go_enter Tryd.func20, Tryd.ntmps20
  go_wp2
  go_ret
  exact ⟨rfl, (Below.refl _ _).alloc (Nat.le_refl _) _⟩
set_option maxHeartbeats 1000000 in
theorem where_errno (k : Int) (w : World) (hg : Handle w) :
    Calls Tryd.prog 20 #[.iface 57 (.int .i64 k)] w fun e w' => e = .returned (.int .i64 (-1)) ∧ Below w.heap.size w w' := by
  have hlt := hg.pos
  have hgA : Handle (w.alloc (.cells #[.pointer none] 78)) := hg.below hlt ((Below.refl _ _).alloc (Nat.le_refl _) _)
  clear hg
  go_enter Tryd.func20, Tryd.ntmps20
  go_wp2_with (go_at_call 32; refine (as_not k _ _ hgA).mono ?_; rintro e w' ⟨rfl, rfl⟩)
  go_ret
  exact ⟨rfl, ((((Below.refl _ _).alloc (Nat.le_refl _) _).alloc (by simp) _).alloc (by simp <;> omega) _).alloc (by simp <;> omega) _⟩
set_option maxHeartbeats 1000000 in
theorem code_spot (b : Nat) (n k : Int) (w : World) (hg : Handle w) (h : SpotAt w b n k) :
    Calls Tryd.prog 10 #[.iface 78 (.pointer (some ⟨b, 0, none⟩))] w fun e w' => e = .returned (.int .i64 k) ∧ Below w.heap.size w w' := by
  have hlt := hg.pos
  have hgA : Handle (w.alloc (.cells #[.int .i64 0] 57)) := hg.below hlt ((Below.refl _ _).alloc (Nat.le_refl _) _)
  have hsA : SpotAt (w.alloc (.cells #[.int .i64 0] 57)) b n k := h.below h.pos ((Below.refl _ _).alloc (Nat.le_refl _) _)
  clear hg h
  go_enter Tryd.func10, Tryd.ntmps10
  go_wp2_with (go_at_call 32; refine (as_in b n k _ (.int .i64 0) _ hgA hsA ?_ ?_).mono ?_; simp; simp; rintro e w' ⟨rfl, rfl⟩)
  go_ret
  exact ⟨rfl, (((((Below.refl _ _).alloc (Nat.le_refl _) _).alloc (by simp) _).alloc (by simp <;> omega) _).alloc (by simp <;> omega) _).alloc (by simp <;> omega) _⟩
theorem as_spot_w (b : Nat) (old : Value) (t : Nat) (w : World) (hg : Handle w) (ht0 : w.cell? ⟨t, 0, none⟩ = some old) (hf0 : w.frozen? ⟨t, 0, none⟩ = false) :
    Calls Tryd.prog 32 #[.iface 78 (.pointer (some ⟨b, 0, none⟩)), .iface 79 (.pointer (some ⟨t, 0, none⟩))] w fun ev w' => ev = .returned (.bool true) ∧ Below t w w' ∧ w'.cell? ⟨t, 0, none⟩ = some (.pointer (some ⟨b, 0, none⟩)) := by
  have htl : t < w.heap.size := by
    rcases Nat.lt_or_ge t w.heap.size with h | h
    · exact h
    · simp [World.cell?, Array.getElem?_eq_none h] at ht0
  refine (as_spot b ⟨t, 0, none⟩ old w hg ht0 hf0).mono ?_
  rintro e w' ⟨rfl, rfl⟩
  refine ⟨rfl, ((((Below.refl _ _).alloc (by omega) _).alloc (by simp; omega) _).alloc (by simp; omega) _).alloc (by simp; omega) _ |>.setCell (p := ⟨t, 0, none⟩) (by simp) _, ?_⟩
  refine World.cell?_setCell_same' _ _ _ ?_
  rw [World.cell?_alloc_lt _ _ ⟨t, 0, none⟩ (by simp; omega), World.cell?_alloc_lt _ _ ⟨t, 0, none⟩ (by simp; omega), World.cell?_alloc_lt _ _ ⟨t, 0, none⟩ (by simp; omega), World.cell?_alloc_lt _ _ ⟨t, 0, none⟩ htl, ht0]; rfl
set_option maxHeartbeats 1000000 in
theorem where_spot (b : Nat) (n k : Int) (w : World) (hg : Handle w) (h : SpotAt w b n k) :
    Calls Tryd.prog 20 #[.iface 78 (.pointer (some ⟨b, 0, none⟩))] w fun e w' => e = .returned (.int .i64 n) ∧ Below w.heap.size w w' := by
  have hlt := hg.pos
  have hB : Below w.heap.size w (w.alloc (.cells #[.pointer none] 78)) := (Below.refl _ _).alloc (Nat.le_refl _) _
  have hgA : Handle (w.alloc (.cells #[.pointer none] 78)) := hg.below hlt hB
  have hb := h.pos
  have H0 := Lib.hid hB
  have HS := Lib.hid h
  clear hg h hB
  go_enter Tryd.func20, Tryd.ntmps20
  go_wp2_with (go_at_call 32; refine (as_spot_w b (.pointer none) _ _ hgA ?_ ?_).mono ?_; simp; simp; rintro e w' ⟨rfl, hB, hc⟩; (have HW := Lib.hid (H0.out.trans hB)); (have h0 := (HS.out.below hb HW.out).at0); clear hB HS hgA H0)
  go_ret
  exact ⟨rfl, HW.out⟩
end Err
end Go.Proofs.YtllpmgddcpgegaaDoor
