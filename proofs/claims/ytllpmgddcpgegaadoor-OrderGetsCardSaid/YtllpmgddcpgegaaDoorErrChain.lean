/- What errors.As, api.Code and api.Where tell of an api.Errno inside however many Spots (target *api.Errno). Written by tools/gen_chain.py. -/
import Derived.Test.YtllpmgddcpgegaaDoorErrSpot
import Derived.Test.YtllpmgddcpgegaaDoorCode
import Derived.Deep.LoopGhost
namespace Go.Proofs.YtllpmgddcpgegaaDoor
open Go.RowKit Go.Extern.Stop Go.Stop Go.Extern
namespace Err
set_option maxHeartbeats 8000000 in
theorem as_deep (d : Nat) (ev : Value) (k : Int) (t B : Addr) (old : Value) (w : World) (h : Chain w k d ev) (hB : w.cell? B = some (.pointer (some t))) (ht0 : w.cell? t = some old) (hf0 : w.frozen? t = false) :
    Calls Tryd.prog 55 #[ev, .iface 63 (.pointer (some t)), .agg #[.pointer (some ⟨1, 63, none⟩), .pointer (some B), .int .u64 150], .iface 109 (.agg #[.pointer (some ⟨1, 57, none⟩)])] w fun e w' => e = .returned (.bool true) ∧ w' = ((w.alloc (.cells #[.pointer (some ⟨1, 63, none⟩), .pointer (some B), .int .u64 150] 89)).alloc (.cells #[.int .i64 k] 57)).setCell t (.int .i64 k) := by
  have h6 := @run_callFunc_extern Tryd.prog 52 _ (fun args => ReflectliteValue.unpack (args.getD 0 (.tuple #[]))) Tryd.func52 (by kernel_rfl) (by kernel_rfl) (by kernel_rfl) (by kernel_rfl)
  have h7 := @run_callFunc_extern Tryd.prog 53 _ (ReflectliteValue.methodAny (ReflectliteValue.valueError "reflectlite.Value.Type" 0) (fun t _ _ _ => ReflectliteType.toType t)) Tryd.func53 (by kernel_rfl) (by kernel_rfl) (by kernel_rfl) (by kernel_rfl)
  have h8 := @run_callFunc_extern Tryd.prog 54 _ (ReflectliteValue.method (ReflectliteValue.valueError "reflectlite.Value.IsNil" 0) ReflectliteValue.isNil) Tryd.func54 (by kernel_rfl) (by kernel_rfl) (by kernel_rfl) (by kernel_rfl)
  have h27 := @run_callFunc_extern Tryd.prog 86 _ (ReflectliteType.abiMethod fun t => do pure (.int .u8 (← Rtype.kind t))) Tryd.func86 (by kernel_rfl) (by kernel_rfl) (by kernel_rfl) (by kernel_rfl)
  have h37 := @run_callFunc_extern Tryd.prog 98 _ (ReflectliteType.method ReflectliteType.elem) Tryd.func98 (by kernel_rfl) (by kernel_rfl) (by kernel_rfl) (by kernel_rfl)
  have h38 := @run_callFunc_extern Tryd.prog 99 _ (ReflectliteType.relation "Implements" ReflectliteType.implements_) Tryd.func99 (by kernel_rfl) (by kernel_rfl) (by kernel_rfl) (by kernel_rfl)
  have h10 := @run_callFunc_extern Tryd.prog 64 _ ReflectliteType.typeOf Tryd.func64 (by kernel_rfl) (by kernel_rfl) (by kernel_rfl) (by kernel_rfl)
  have h35 := @run_callFunc_extern Tryd.prog 96 _ (ReflectliteType.relation "AssignableTo" ReflectliteType.assignableTo) Tryd.func96 (by kernel_rfl) (by kernel_rfl) (by kernel_rfl) (by kernel_rfl)
  have h11 := @run_callFunc_extern Tryd.prog 65 _ (ReflectliteValue.method (ReflectliteValue.valueError "reflectlite.Value.Elem" 0) ReflectliteValue.elem) Tryd.func65 (by kernel_rfl) (by kernel_rfl) (by kernel_rfl) (by kernel_rfl)
  have h12 := @run_callFunc_extern Tryd.prog 66 _ ReflectliteValue.set Tryd.func66 (by kernel_rfl) (by kernel_rfl) (by kernel_rfl) (by kernel_rfl)
  have z0 := typeOfE
  have z1 := typeOfS
  have z2 := methodAssignableTo
  have z3 := methodKind
  have z4 := methodElem
  have z5 := methodImplements
  have z6 := methodUnwrap
  have z7 := valueOfP
  have z8 := typeP
  have z9 := kindP
  have z10 := kindE
  have z11 := elemP
  have z12 := implementsE
  have z13 := assignableE
  have z14 := assignableSE
  have z15 := valueOfE
  have z16 := noAsE
  have z17 := noUnE
  have z18 := noUnsE
  have z19 := noAsS
  have z20 := hasUnS
  have htl : t.block < w.heap.size := by
    rcases Nat.lt_or_ge t.block w.heap.size with h | h
    · exact h
    · simp [World.cell?, Array.getElem?_eq_none h] at ht0
  have hBl : B.block < w.heap.size := by
    rcases Nat.lt_or_ge B.block w.heap.size with h | h
    · exact h
    · simp [World.cell?, Array.getElem?_eq_none h] at hB
  have HC := Lib.hid (h.below ((Below.refl _ _).alloc (Nat.le_refl _) (.cells #[.pointer (some ⟨1, 63, none⟩), .pointer (some B), .int .u64 150] 89)))
  have el := elemV B t (w.alloc (.cells #[.pointer (some ⟨1, 63, none⟩), .pointer (some B), .int .u64 150] 89)) (by rw [World.cell?_alloc_lt _ _ B hBl]; exact hB)
  have st := setE t ⟨w.heap.size + 1, 0, none⟩ k old ((w.alloc (.cells #[.pointer (some ⟨1, 63, none⟩), .pointer (some B), .int .u64 150] 89)).alloc (.cells #[.int .i64 k] 57))
    (by rw [World.cell?_alloc_at _ _ _ _ (by simp)]; rfl)
    (by rw [World.cell?_alloc_lt _ _ t (by simp; omega), World.cell?_alloc_lt _ _ t htl]; exact ht0)
    (by rw [World.frozen?_alloc_old _ _ t (by simp; omega), World.frozen?_alloc_old _ _ t (Nat.ne_of_lt htl)]; exact hf0)
  clear h ht0 hf0 hB
  go_enter Tryd.func55, Tryd.ntmps55
  go_wp2_with fail
  go_loopg [0] d (fun n v wr => wr = (w.alloc (.cells #[.pointer (some ⟨1, 63, none⟩), .pointer (some B), .int .u64 150] 89)) ∧ Hid (Chain (w.alloc (.cells #[.pointer (some ⟨1, 63, none⟩), .pointer (some B), .int .u64 150] 89)) k n v))
  case atStart => exact ⟨rfl, HC.out⟩
  case round =>
    obtain ⟨rfl, hc⟩ := hrel
    clear HC
    cases gk with
    | zero =>
      obtain rfl := hc.out
      clear hc
      go_wp2
      go_ret
      exact ⟨rfl, rfl⟩
    | succ g =>
      obtain ⟨b, n, u, rfl, h0, h1, h2⟩ := hc.out
      clear hc
      have HC := Lib.hid h2
      rcases h2.form with ⟨h3, rfl⟩ | ⟨b2, rfl⟩
      · clear h2 h3
        go_wp2
        go_roundg g
        case measure => omega
        case rel => exact ⟨rfl, HC⟩
      · clear h2
        go_wp2
        go_roundg g
        case measure => omega
        case rel => exact ⟨rfl, HC⟩
end Err
end Go.Proofs.YtllpmgddcpgegaaDoor
