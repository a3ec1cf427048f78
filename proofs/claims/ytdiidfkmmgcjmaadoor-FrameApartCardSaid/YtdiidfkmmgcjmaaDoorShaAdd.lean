/- 'Add' of package hash adds parts to a sum, one behind the other. -/
import Derived.Test.YtdiidfkmmgcjmaaDoorShaNew
set_option maxRecDepth 100000
namespace Go.Proofs.YtdiidfkmmgcjmaaDoor
open Go.RowKit
namespace Sha
/-- v is a slice of the slices ps, all of it outside block b. -/
def PartsAt (w : World) (b : Nat) (v : Value) (ps : List (List Nat)) : Prop :=
  ∃ ad cap, v = .slice ad ps.length cap ∧ (ps = [] ∨ ∃ g off, ad = some ⟨g, off, none⟩ ∧ g ≠ b ∧ ∀ j, j < ps.length → ∃ u, w.cell? ⟨g, off + j, none⟩ = some u ∧ BytesAt w b u (ps.getD j []))

theorem take_flat (ps : List (List Nat)) (k : Nat) (h : k < ps.length) : (ps.take (k + 1)).flatten = (ps.take k).flatten ++ ps.getD k [] := by
  rw [List.take_succ_eq_append_getElem h, List.flatten_append, List.flatten_singleton, List.getD_eq_getElem?_getD, List.getElem?_eq_getElem h]; rfl
theorem take_flat_le (ps : List (List Nat)) (k : Nat) : ((ps.take k).flatten).length ≤ ps.flatten.length := by
  have : ps.flatten = (ps.take k).flatten ++ (ps.drop k).flatten := by rw [← List.flatten_append, List.take_append_drop]
  rw [this, List.length_append]; omega

set_option maxRecDepth 100000 in
set_option maxHeartbeats 1000000 in
theorem add_any (b : Nat) (m : List Nat) (ps : List (List Nat)) (v : Value) (w : World) (hS : SumAt w b m) (hP : PartsAt w b v ps) (h8 : ∀ p ∈ ps, ∀ x ∈ p, x < 256) (hm : m.length + ps.flatten.length < 1000000000) (hps : ps.length < 1000000) :
    Calls Tryd.prog 33 #[.pointer (some ⟨b, 0, none⟩), v] w fun e w' => e = .returned (.pointer (some ⟨b, 0, none⟩)) ∧ SumAt w' b (m ++ ps.flatten) ∧ w.grownBy w' (some b) := by
  obtain ⟨ad, cap, rfl, hc⟩ := hP
  have HS := Lib.hid hS
  have HC := Lib.hid hc
  have H8 := Lib.hid h8
  have HM := Lib.hid hm
  clear hS hc h8 hm
  go_enter Tryd.func33, Tryd.ntmps33
  go_wp2_with fail
  go_loopw [11] (fun i wr => ∃ k : Nat, k ≤ ps.length ∧ i = .int .i64 k ∧ SumAt wr b (m ++ (ps.take k).flatten) ∧ w.grownBy wr (some b)) (fun i _ => ps.length - (intOf i).toNat)
  case atStart => exact ⟨0, Nat.zero_le _, rfl, by simpa using HS.out, grefl _ _⟩
  case round =>
    obtain ⟨k, hk, rfl, hs, hg⟩ := hrel
    by_cases hlt : k < ps.length
    · rcases HC.out with h0 | ⟨g, off, rfl, hgb, hcells⟩
      · rw [h0] at hlt; simp at hlt
      obtain ⟨u, hu, hbu⟩ := hcells k hlt
      have hcu := hg.cell hu (by intro e; injection e with e; exact hgb e)
      have HBU := Lib.hid (bytes_grown hbu hg)
      have HG := Lib.hid hg
      have HSK := Lib.hid hs
      have hmem : ps.getD k [] ∈ ps := by rw [List.getD_eq_getElem?_getD, List.getElem?_eq_getElem hlt]; exact List.getElem_mem hlt
      have HX := Lib.hid (H8.out _ hmem)
      have HT := Lib.hid (take_flat ps k hlt)
      have hlen := take_flat_le ps (k + 1)
      have HLEN := Lib.hid (show (m ++ (ps.take k).flatten).length + (ps.getD k []).length < 1000000000 by
        have := HM.out; rw [HT.out] at hlen; simp only [List.length_append] at hlen ⊢; omega)
      generalize ps.getD k [] = p at HBU HX HT HLEN
      clear hu hbu hcells hg hs hmem hlen
      go_wp2_with fail
      refine (take_any b (m ++ (ps.take k).flatten) p u _ HSK.out HBU.out HX.out HLEN.out).mono ?_
      rintro e w3 ⟨rfl, hs3, hg3⟩
      have HS3 := Lib.hid hs3
      have HG3 := Lib.hid (gtrans HG.out hg3)
      clear hs3 hg3 hcu
      go_wp2_with fail
      go_roundw
      case rel =>
        refine ⟨k + 1, by omega, by go_num, ?_, HG3.out⟩
        rw [HT.out, ← List.append_assoc]
        exact HS3.out
      case measure => simp [intOf]; omega
    · have e : ps.take k = ps := List.take_of_length_le (by omega)
      rw [e] at hs
      have HSK := Lib.hid hs
      have HG := Lib.hid hg
      have hge : ps.length ≤ k := by omega
      clear hs hg e hlt
      go_wp2_with fail
      go_ret
      exact ⟨rfl, HSK.out, HG.out⟩
end Sha
end Go.Proofs.YtdiidfkmmgcjmaaDoor
