/- Clone of package slices, of cells; Copy of package grid, and the document's. -/
import Derived.Test.YtilabepmmebkcaaDoorGrdBox
import Derived.Deep.Cut
namespace Go.Proofs.YtilabepmmebkcaaDoor
open Go.RowKit Sha Six Apd Cut Err
set_option linter.unusedVariables false
namespace Grd
set_option maxRecDepth 100000 in
set_option maxHeartbeats 1000000 in
theorem clone_any (ad : Option Addr) (len cap : Nat) (cs : List C) (w : World) (hB : CelsIn w (.slice ad len cap) cs) (hl : cs.length < 100000000) :
    Calls Tryd.prog 27 #[.slice ad len cap] w fun e w' => ∃ v, e = .returned v ∧ OwnCels w' w.heap.size v cs ∧ Below w.heap.size w w' := by
  obtain rfl := hB.len
  cases ad with
  | none =>
    have hn : cs.length = 0 ∧ cap = 0 := by
      obtain ⟨_, _, e, _, hn⟩ := hB.form
      injection e with e1 e2 e3
      subst e1 e3
      exact hn rfl
    obtain ⟨h0, rfl⟩ := hn
    have hx : cs = [] := List.eq_nil_of_length_eq_zero h0
    subst hx
    clear hB hl h0
    have e0 := nil_eqC
    go_enter Tryd.func27, Tryd.ntmps27
    go_wp2
    go_ret
    exact ⟨_, rfl, World.ownsRow_nil _ _ _ _, Below.refl _ _⟩
  | some a =>
    have HS := Lib.hid (hB.below ((Below.refl w.heap.size w).alloc (Nat.le_refl _) (.cells #[] 36)))
    have HO := Lib.hid (World.ownsRow_lit (e := 36) (size := 6) w #[] 0 (Nat.le_refl _) (Nat.zero_le _) rfl)
    have HL := Lib.hid hl
    have HB := Lib.hid ((Below.refl w.heap.size w).alloc (Nat.le_refl _) (.cells #[] 36))
    clear hB hl
    have e0 := nil_neC
    go_enter Tryd.func27, Tryd.ntmps27
    go_wp2_with (at_builtin; refine wpList_mark ?_)
    refine Lib.hid ?_
    refine append_cels rfl (.tmp 5) (.tmp 6) rfl w.heap.size (.slice (some ⟨w.heap.size, 0, none⟩) 0 0) 0 [] rfl HO.out (some a) cs.length cap cs rfl HS.out (by have := HL.out; omega) HB.out.size ?_
    intro v' w' hown hgr
    have HR := Lib.hid (show OwnCels w' w.heap.size v' cs from by unfold OwnCels; simpa using hown)
    have HW := Lib.hid (HB.out.grown hgr HB.out.size (by intro k hk; simp [Value.ownBlock] at hk; omega))
    clear hown hgr HS HO HB HL
    obtain ⟨va, vc, rfl⟩ := HR.out.form
    go_wp2_with fail
    go_ret
    exact ⟨_, rfl, HR.out, HW.out⟩
/-- The answer of a copy. -/
def Copied (w w' : World) (s : S) (e : Ending) : Prop := ∃ va vc, e = .returned (.agg #[.int .i64 s.rows, .int .i64 s.cols, .slice va s.cs.length vc, .int .i64 s.cur, .bool s.lk, .bool s.ins]) ∧ OwnCels w' w.heap.size (.slice va s.cs.length vc) s.cs ∧ Below w.heap.size w w'
set_option maxRecDepth 100000 in
set_option maxHeartbeats 4000000 in
theorem copy_any (s : S) (ad : Option Addr) (k : Nat) (w : World) (h : CelsIn w (.slice ad s.cs.length k) s.cs) (hl : s.cs.length < 100000000) :
    Calls Tryd.prog 20 #[.agg #[.int .i64 s.rows, .int .i64 s.cols, .slice ad s.cs.length k, .int .i64 s.cur, .bool s.lk, .bool s.ins]] w fun e w' => Copied w w' s e := by
  obtain ⟨r, c, cs, cur, lk, ins⟩ := s
  simp only at h hl ⊢
  have HB := Lib.hid (kept_trans (al_any w (.cells #[.int .i64 r, .int .i64 c, .slice ad cs.length k, .int .i64 cur, .bool lk, .bool ins] 24)) (al_any _ (.cells #[.int .i64 0, .int .i64 0, .slice none 0 0, .int .i64 0, .bool false, .bool false] 24)))
  have HX := Lib.hid (heap_alloc2_old w (.cells #[.int .i64 r, .int .i64 c, .slice ad cs.length k, .int .i64 cur, .bool lk, .bool ins] 24) (.cells #[.int .i64 0, .int .i64 0, .slice none 0 0, .int .i64 0, .bool false, .bool false] 24))
  have HY := Lib.hid (heap_alloc2_new w (.cells #[.int .i64 r, .int .i64 c, .slice ad cs.length k, .int .i64 cur, .bool lk, .bool ins] 24) (.cells #[.int .i64 0, .int .i64 0, .slice none 0 0, .int .i64 0, .bool false, .bool false] 24))
  have HC := Lib.hid (h.below HB.out)
  have HL := Lib.hid hl
  clear h hl
  go_enter Tryd.func20, Tryd.ntmps20
  go_wp2_with fail
  generalize (w.alloc _).alloc _ = w1 at *
  with_reducible refine (clone_any ad _ k cs w1 HC.out HL.out).mono ?_
  rintro e w2 ⟨v, rfl, ho, hb⟩
  obtain ⟨va, vc, rfl⟩ := ho.form
  have K2 := kept_hid HB hb
  have HO := Lib.hid (ho.mono HB.out.size)
  have HOG := Lib.hid (show ∀ g, (Value.slice va cs.length vc).ownBlock = some g → w.heap.size + 1 < g from fun g hg => by
    have h1 := own_ge ho g hg
    have h2 := there_lt HY.out
    omega)
  have X2 := Lib.hid (blk HX.out hb)
  have Y2 := Lib.hid (blk HY.out hb)
  clear ho hb HX HY HB HC HL
  obtain ⟨f0, f1, f2, f3, f4, f5⟩ := free6 X2.out
  obtain ⟨c0, c1, c2, c3, c4, c5⟩ := cells6 X2.out
  have X3 := Lib.hid (heap_setCell_same w2 w.heap.size 2 _ 24 (.slice va cs.length vc) X2.out)
  have Y3 := Lib.hid (blk_g Y2.out (gsetCell w2 w.heap.size 2 (.slice va cs.length vc)) (by intro e; injection e with e; omega))
  have G3 := Lib.hid (gsetCell w2 w.heap.size 2 (.slice va cs.length vc))
  have O3 := Lib.hid (show OwnCels (w2.setCell ⟨w.heap.size, 2, none⟩ (.slice va cs.length vc)) w.heap.size (.slice va cs.length vc) cs from HO.out.kept (gsetCell w2 w.heap.size 2 (.slice va cs.length vc)) (.inr (fun e => by have := HOG.out _ e; omega)))
  have K3 := Lib.hid (below_grown K2.out G3.out (Nat.le_refl _))
  go_upto_region 2 with (fail)
  clear f0 f1 f2 f3 f4 f5 c0 c1 c2 c3 c4 c5
  generalize w2.setCell _ _ = w3 at *
  obtain ⟨c0, c1, c2, c3, c4, c5⟩ := cells6 X3.out
  obtain ⟨f0, f1, f2, f3, f4, f5⟩ := free6 Y3.out
  obtain ⟨d0, d1, d2, d3, d4, d5⟩ := cells6 Y3.out
  have SF := Lib.hid (over6 w3 (w.heap.size + 1) _ _ _ _ _ _ _ (.int .i64 r) (.int .i64 c) (.slice va cs.length vc) (.int .i64 cur) (.bool lk) (.bool ins) Y3.out)
  go_wp2_with fail
  clear c0 c1 c2 c3 c4 c5 d0 d1 d2 d3 d4 d5 f0 f1 f2 f3 f4 f5
  generalize (((((w3.setCell _ _).setCell _ _).setCell _ _).setCell _ _).setCell _ _).setCell _ _ = w4 at *
  refine bodyPost_ret (v := .agg #[.int .i64 r, .int .i64 c, .slice va cs.length vc, .int .i64 cur, .bool lk, .bool ins]) (results_cell_row rfl _ _ (w.heap.size + 1) 24 _ (0, 0) _ rfl SF.out.1 Tryd.underlying24 rfl (by kernel_rfl)) rfl ?_
  exact ⟨va, vc, rfl, O3.out.kept SF.out.2 (.inr (fun e => by have := HOG.out _ e; omega)), below_grown K3.out SF.out.2 (by omega)⟩
end Grd
end Go.Proofs.YtilabepmmebkcaaDoor
