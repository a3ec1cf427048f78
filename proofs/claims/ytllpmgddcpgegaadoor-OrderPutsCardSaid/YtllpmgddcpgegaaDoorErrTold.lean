/- api.Code and api.Where of an error that is nil, a number, or a number inside however many Spots. Written by tools/gen_told.py. -/
import Derived.Test.YtllpmgddcpgegaaDoorErrChain
import Derived.Test.YtllpmgddcpgegaaDoorCode2
namespace Go.Proofs.YtllpmgddcpgegaaDoor
open Go.RowKit Go.Extern.Stop Go.Stop Go.Extern
namespace Err
set_option maxHeartbeats 8000000 in
theorem as_chain (d : Nat) (ev : Value) (k : Int) (t : Addr) (old : Value) (w : World) (hg : Handle w) (h : Chain w k d ev) (ht0 : w.cell? t = some old) (hf0 : w.frozen? t = false) :
    Calls Tryd.prog 32 #[ev, .iface 63 (.pointer (some t))] w fun e w' => e = .returned (.bool true) ∧ w' = ((((w.alloc (.cells #[.pointer (some t)] 63)).alloc (.cells #[.pointer (some ⟨1, 63, none⟩), .pointer (some ⟨w.heap.size, 0, none⟩), .int .u64 150] 89)).alloc (.cells #[.pointer (some ⟨1, 63, none⟩), .pointer (some ⟨w.heap.size, 0, none⟩), .int .u64 150] 89)).alloc (.cells #[.int .i64 k] 57)).setCell t (.int .i64 k) := by
  have h6 := @run_callFunc_extern Tryd.prog 52 _ (fun args => ReflectliteValue.unpack (args.getD 0 (.tuple #[]))) Tryd.func52 (by kernel_rfl) (by kernel_rfl) (by kernel_rfl) (by kernel_rfl)
  have h7 := @run_callFunc_extern Tryd.prog 53 _ (ReflectliteValue.methodAny (ReflectliteValue.valueError "reflectlite.Value.Type" 0) (fun t _ _ _ => ReflectliteType.toType t)) Tryd.func53 (by kernel_rfl) (by kernel_rfl) (by kernel_rfl) (by kernel_rfl)
  have h8 := @run_callFunc_extern Tryd.prog 54 _ (ReflectliteValue.method (ReflectliteValue.valueError "reflectlite.Value.IsNil" 0) ReflectliteValue.isNil) Tryd.func54 (by kernel_rfl) (by kernel_rfl) (by kernel_rfl) (by kernel_rfl)
  have h27 := @run_callFunc_extern Tryd.prog 86 _ (ReflectliteType.abiMethod fun t => do pure (.int .u8 (← Rtype.kind t))) Tryd.func86 (by kernel_rfl) (by kernel_rfl) (by kernel_rfl) (by kernel_rfl)
  have h37 := @run_callFunc_extern Tryd.prog 98 _ (ReflectliteType.method ReflectliteType.elem) Tryd.func98 (by kernel_rfl) (by kernel_rfl) (by kernel_rfl) (by kernel_rfl)
  have h38 := @run_callFunc_extern Tryd.prog 99 _ (ReflectliteType.relation "Implements" ReflectliteType.implements_) Tryd.func99 (by kernel_rfl) (by kernel_rfl) (by kernel_rfl) (by kernel_rfl)
  have h10 := @run_callFunc_extern Tryd.prog 64 _ ReflectliteType.typeOf Tryd.func64 (by kernel_rfl) (by kernel_rfl) (by kernel_rfl) (by kernel_rfl)
  have h35 := @run_callFunc_extern Tryd.prog 96 _ (ReflectliteType.relation "AssignableTo" ReflectliteType.assignableTo) Tryd.func96 (by kernel_rfl) (by kernel_rfl) (by kernel_rfl) (by kernel_rfl)
  have h11 := @run_callFunc_extern Tryd.prog 65 _ (ReflectliteValue.method (ReflectliteValue.valueError "reflectlite.Value.Elem" 0) ReflectliteValue.elem) Tryd.func65 (by kernel_rfl) (by kernel_rfl) (by kernel_rfl) (by kernel_rfl)
  have h12 := @run_callFunc_extern Tryd.prog 66 _ ReflectliteValue.set Tryd.func66 (by kernel_rfl) (by kernel_rfl) (by kernel_rfl) (by kernel_rfl)
  have z0 := typeOfE
  have z1 := typeOfS
  have z2 := methodAssignableTo
  have z3 := methodKind
  have z4 := methodElem
  have z5 := methodImplements
  have z6 := methodUnwrap
  have z7 := valueOfP
  have z8 := typeP
  have z9 := kindP
  have z10 := kindE
  have z11 := elemP
  have z12 := implementsE
  have z13 := assignableE
  have z14 := assignableSE
  have z15 := valueOfE
  have z16 := noAsE
  have z17 := noUnE
  have z18 := noUnsE
  have z19 := noAsS
  have z20 := hasUnS
  have n8 := isNilP ⟨w.heap.size, 0, none⟩ t ((w.alloc (.cells #[.pointer (some t)] 63)).alloc (.cells #[.pointer (some ⟨1, 63, none⟩), .pointer (some ⟨w.heap.size, 0, none⟩), .int .u64 150] 89)) (by simp)
  have hlt := hg.pos
  have hg2 : ((w.alloc (.cells #[.pointer (some t)] 63)).alloc (.cells #[.pointer (some ⟨1, 63, none⟩), .pointer (some ⟨w.heap.size, 0, none⟩), .int .u64 150] 89)).cell? ⟨0, 0, none⟩ = some (.iface 109 (.agg #[.pointer (some ⟨1, 30, none⟩)])) := by
    rw [World.cell?_alloc_lt _ _ ⟨0, 0, none⟩ (by simp <;> omega), World.cell?_alloc_lt _ _ ⟨0, 0, none⟩ hlt]; exact hg
  have htl : t.block < w.heap.size := by
    rcases Nat.lt_or_ge t.block w.heap.size with h | h
    · exact h
    · simp [World.cell?, Array.getElem?_eq_none h] at ht0
  have HD := Lib.hid (as_deep d ev k t ⟨w.heap.size, 0, none⟩ old ((w.alloc (.cells #[.pointer (some t)] 63)).alloc (.cells #[.pointer (some ⟨1, 63, none⟩), .pointer (some ⟨w.heap.size, 0, none⟩), .int .u64 150] 89))
    (h.below (((Below.refl _ _).alloc (Nat.le_refl _) _).alloc (by simp) _))
    (by rw [World.cell?_alloc_lt _ _ ⟨w.heap.size, 0, none⟩ (by simp)]; simp)
    (by rw [World.cell?_alloc_lt _ _ t (by simp; omega), World.cell?_alloc_lt _ _ t htl]; exact ht0)
    (by rw [World.frozen?_alloc_old _ _ t (by simp; omega), World.frozen?_alloc_old _ _ t (Nat.ne_of_lt htl)]; exact hf0))
  rcases h.form with ⟨h3, rfl⟩ | ⟨b2, rfl⟩
  · clear h h3 hg ht0 hf0
    go_enter Tryd.func32, Tryd.ntmps32
    go_wp2_with (go_at_call 55; refine HD.out.mono ?_; rintro e w' ⟨rfl, rfl⟩)
    go_ret
    exact ⟨rfl, rfl⟩
  · clear h hg ht0 hf0
    go_enter Tryd.func32, Tryd.ntmps32
    go_wp2_with (go_at_call 55; refine HD.out.mono ?_; rintro e w' ⟨rfl, rfl⟩)
    go_ret
    exact ⟨rfl, rfl⟩
set_option maxHeartbeats 1000000 in
theorem code_chain (d : Nat) (ev : Value) (k : Int) (w : World) (hg : Handle w) (h : Chain w k d ev) :
    Calls Tryd.prog 10 #[ev] w fun e w' => e = .returned (.int .i64 k) ∧ Below w.heap.size w w' := by
  have hlt := hg.pos
  have hgA : Handle (w.alloc (.cells #[.int .i64 0] 57)) := hg.below hlt ((Below.refl _ _).alloc (Nat.le_refl _) _)
  have hsA : Chain (w.alloc (.cells #[.int .i64 0] 57)) k d ev := h.below ((Below.refl _ _).alloc (Nat.le_refl _) _)
  clear hg
  rcases h.form with ⟨h3, rfl⟩ | ⟨b2, rfl⟩
  · clear h
    go_enter Tryd.func10, Tryd.ntmps10
    go_wp2_with (go_at_call 32; refine (as_chain d _ k _ (.int .i64 0) _ hgA hsA ?_ ?_).mono ?_; simp; simp; rintro e w' ⟨rfl, rfl⟩)
    go_ret
    exact ⟨rfl, (((((Below.refl _ _).alloc (Nat.le_refl _) _).alloc (by simp) _).alloc (by simp <;> omega) _).alloc (by simp <;> omega) _).alloc (by simp <;> omega) _⟩
  · clear h
    go_enter Tryd.func10, Tryd.ntmps10
    go_wp2_with (go_at_call 32; refine (as_chain d _ k _ (.int .i64 0) _ hgA hsA ?_ ?_).mono ?_; simp; simp; rintro e w' ⟨rfl, rfl⟩)
    go_ret
    exact ⟨rfl, (((((Below.refl _ _).alloc (Nat.le_refl _) _).alloc (by simp) _).alloc (by simp <;> omega) _).alloc (by simp <;> omega) _).alloc (by simp <;> omega) _⟩
set_option maxHeartbeats 1000000 in
theorem where_cell (b : Nat) (n : Int) (w : World) (hg : Handle w) (h : w.cell? ⟨b, 0, none⟩ = some (.int .i64 n)) :
    Calls Tryd.prog 20 #[.iface 78 (.pointer (some ⟨b, 0, none⟩))] w fun e w' => e = .returned (.int .i64 n) ∧ Below w.heap.size w w' := by
  have hlt := hg.pos
  have hB : Below w.heap.size w (w.alloc (.cells #[.pointer none] 78)) := (Below.refl _ _).alloc (Nat.le_refl _) _
  have hgA : Handle (w.alloc (.cells #[.pointer none] 78)) := hg.below hlt hB
  have hb := block_lt h
  have H0 := Lib.hid hB
  have HS := Lib.hid h
  clear hg h hB
  go_enter Tryd.func20, Tryd.ntmps20
  go_wp2_with (go_at_call 32; refine (as_spot_w b (.pointer none) _ _ hgA ?_ ?_).mono ?_; simp; simp; rintro e w' ⟨rfl, hB, hc⟩; (have HW := Lib.hid (H0.out.trans hB)); (have h0 := (HW.out.cell (p := ⟨b, 0, none⟩) hb).trans HS.out); clear hB HS hgA H0)
  go_ret
  exact ⟨rfl, HW.out⟩
theorem code_told (ev : Value) (c n : Int) (w : World) (hg : Handle w) (h : Told w ev c n) :
    Calls Tryd.prog 10 #[ev] w fun e w' => e = .returned (.int .i64 c) ∧ Below w.heap.size w w' := by
  rcases h with ⟨rfl, rfl, _⟩ | ⟨rfl, _⟩ | ⟨d, b, _, _, h3⟩
  · exact code_nil w
  · exact code_errno c w hg
  · exact code_chain (d + 1) ev c w hg h3
theorem where_told (ev : Value) (c n : Int) (w : World) (hg : Handle w) (h : Told w ev c n) :
    Calls Tryd.prog 20 #[ev] w fun e w' => e = .returned (.int .i64 n) ∧ Below w.heap.size w w' := by
  rcases h with ⟨rfl, _, rfl⟩ | ⟨rfl, rfl⟩ | ⟨d, b, rfl, h2, _⟩
  · exact where_nil w
  · exact where_errno c w hg
  · exact where_cell b n w hg h2
end Err
end Go.Proofs.YtllpmgddcpgegaaDoor
