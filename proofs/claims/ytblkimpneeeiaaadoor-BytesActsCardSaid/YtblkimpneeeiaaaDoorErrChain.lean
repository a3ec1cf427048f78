/- What errors.As, api.Code and api.Where tell of an api.Errno inside however many Spots (target *api.Errno). Written by tools/gen_chain.py. -/
import Derived.Test.YtblkimpneeeiaaaDoorErrSpot
import Derived.Test.YtblkimpneeeiaaaDoorCode
import Derived.Deep.LoopGhost
namespace Go.Proofs.YtblkimpneeeiaaaDoor
open Go.RowKit Go.Extern.Stop Go.Stop Go.Extern
namespace Err
/-- v is the number k, inside d Spots. -/
def Chain (w : World) (k : Int) : Nat → Value → Prop
  | 0, v => v = .iface 38 (.int .i64 k)
  | d + 1, v => ∃ (b : Nat) (n : Int) (u : Value), v = .iface 55 (.pointer (some ⟨b, 0, none⟩)) ∧ w.cell? ⟨b, 0, none⟩ = some (.int .i64 n) ∧ w.cell? ⟨b, 1, none⟩ = some u ∧ Chain w k d u
theorem block_lt {w : World} {b o : Nat} {v : Value} (h : w.cell? ⟨b, o, none⟩ = some v) : b < w.heap.size := by
  rcases Nat.lt_or_ge b w.heap.size with h0 | h0
  · exact h0
  · simp [World.cell?, Array.getElem?_eq_none h0] at h
theorem Chain.keep {w w' : World} {k : Int} (hk : ∀ b o v, w.cell? ⟨b, o, none⟩ = some v → w'.cell? ⟨b, o, none⟩ = some v) : ∀ {d : Nat} {v : Value}, Chain w k d v → Chain w' k d v
  | 0, _, h => h
  | _ + 1, _, ⟨b, n, u, h1, h2, h3, h4⟩ => ⟨b, n, u, h1, hk _ _ _ h2, hk _ _ _ h3, Chain.keep hk h4⟩
theorem Chain.below {w w' : World} {k : Int} {d : Nat} {v : Value} (h : Chain w k d v) (hb : Below w.heap.size w w') : Chain w' k d v :=
  h.keep fun b o _ hu => (hb.cell (p := ⟨b, o, none⟩) (block_lt hu)).trans hu
theorem Chain.form {w : World} {k : Int} : ∀ {d : Nat} {v : Value}, Chain w k d v → (d = 0 ∧ v = .iface 38 (.int .i64 k)) ∨ ∃ b, v = .iface 55 (.pointer (some ⟨b, 0, none⟩))
  | 0, _, h => .inl ⟨rfl, h⟩
  | _ + 1, _, ⟨b, _, _, h1, _⟩ => .inr ⟨b, h1⟩
set_option maxHeartbeats 8000000 in
theorem as_deep (d : Nat) (ev : Value) (k : Int) (t B : Addr) (old : Value) (w : World) (h : Chain w k d ev) (hB : w.cell? B = some (.pointer (some t))) (ht0 : w.cell? t = some old) (hf0 : w.frozen? t = false) :
    Calls Tryd.prog 39 #[ev, .iface 59 (.pointer (some t)), .agg #[.pointer (some ⟨1, 59, none⟩), .pointer (some B), .int .u64 150], .iface 79 (.agg #[.pointer (some ⟨1, 38, none⟩)])] w fun e w' => e = .returned (.bool true) ∧ w' = ((w.alloc (.cells #[.pointer (some ⟨1, 59, none⟩), .pointer (some B), .int .u64 150] 68)).alloc (.cells #[.int .i64 k] 38)).setCell t (.int .i64 k) := by
  have h6 := @run_callFunc_extern Tryd.prog 36 _ (fun args => ReflectliteValue.unpack (args.getD 0 (.tuple #[]))) Tryd.func36 (by kernel_rfl) (by kernel_rfl) (by kernel_rfl) (by kernel_rfl)
  have h7 := @run_callFunc_extern Tryd.prog 37 _ (ReflectliteValue.methodAny (ReflectliteValue.valueError "reflectlite.Value.Type" 0) (fun t _ _ _ => ReflectliteType.toType t)) Tryd.func37 (by kernel_rfl) (by kernel_rfl) (by kernel_rfl) (by kernel_rfl)
  have h8 := @run_callFunc_extern Tryd.prog 38 _ (ReflectliteValue.method (ReflectliteValue.valueError "reflectlite.Value.IsNil" 0) ReflectliteValue.isNil) Tryd.func38 (by kernel_rfl) (by kernel_rfl) (by kernel_rfl) (by kernel_rfl)
  have h27 := @run_callFunc_extern Tryd.prog 62 _ (ReflectliteType.abiMethod fun t => do pure (.int .u8 (← Rtype.kind t))) Tryd.func62 (by kernel_rfl) (by kernel_rfl) (by kernel_rfl) (by kernel_rfl)
  have h37 := @run_callFunc_extern Tryd.prog 74 _ (ReflectliteType.method ReflectliteType.elem) Tryd.func74 (by kernel_rfl) (by kernel_rfl) (by kernel_rfl) (by kernel_rfl)
  have h38 := @run_callFunc_extern Tryd.prog 75 _ (ReflectliteType.relation "Implements" ReflectliteType.implements_) Tryd.func75 (by kernel_rfl) (by kernel_rfl) (by kernel_rfl) (by kernel_rfl)
  have h10 := @run_callFunc_extern Tryd.prog 42 _ ReflectliteType.typeOf Tryd.func42 (by kernel_rfl) (by kernel_rfl) (by kernel_rfl) (by kernel_rfl)
  have h35 := @run_callFunc_extern Tryd.prog 72 _ (ReflectliteType.relation "AssignableTo" ReflectliteType.assignableTo) Tryd.func72 (by kernel_rfl) (by kernel_rfl) (by kernel_rfl) (by kernel_rfl)
  have h11 := @run_callFunc_extern Tryd.prog 43 _ (ReflectliteValue.method (ReflectliteValue.valueError "reflectlite.Value.Elem" 0) ReflectliteValue.elem) Tryd.func43 (by kernel_rfl) (by kernel_rfl) (by kernel_rfl) (by kernel_rfl)
  have h12 := @run_callFunc_extern Tryd.prog 44 _ ReflectliteValue.set Tryd.func44 (by kernel_rfl) (by kernel_rfl) (by kernel_rfl) (by kernel_rfl)
  have z0 := typeOfE
  have z1 := typeOfS
  have z2 := methodAssignableTo
  have z3 := methodKind
  have z4 := methodElem
  have z5 := methodImplements
  have z6 := methodUnwrap
  have z7 := valueOfP
  have z8 := typeP
  have z9 := kindP
  have z10 := kindE
  have z11 := elemP
  have z12 := implementsE
  have z13 := assignableE
  have z14 := assignableSE
  have z15 := valueOfE
  have z16 := noAsE
  have z17 := noUnE
  have z18 := noUnsE
  have z19 := noAsS
  have z20 := hasUnS
  have htl : t.block < w.heap.size := by
    rcases Nat.lt_or_ge t.block w.heap.size with h | h
    · exact h
    · simp [World.cell?, Array.getElem?_eq_none h] at ht0
  have hBl : B.block < w.heap.size := by
    rcases Nat.lt_or_ge B.block w.heap.size with h | h
    · exact h
    · simp [World.cell?, Array.getElem?_eq_none h] at hB
  have HC := Lib.hid (h.below ((Below.refl _ _).alloc (Nat.le_refl _) (.cells #[.pointer (some ⟨1, 59, none⟩), .pointer (some B), .int .u64 150] 68)))
  have el := elemV B t (w.alloc (.cells #[.pointer (some ⟨1, 59, none⟩), .pointer (some B), .int .u64 150] 68)) (by rw [World.cell?_alloc_lt _ _ B hBl]; exact hB)
  have st := setE t ⟨w.heap.size + 1, 0, none⟩ k old ((w.alloc (.cells #[.pointer (some ⟨1, 59, none⟩), .pointer (some B), .int .u64 150] 68)).alloc (.cells #[.int .i64 k] 38))
    (by rw [World.cell?_alloc_at _ _ _ _ (by simp)]; rfl)
    (by rw [World.cell?_alloc_lt _ _ t (by simp; omega), World.cell?_alloc_lt _ _ t htl]; exact ht0)
    (by rw [World.frozen?_alloc_old _ _ t (by simp; omega), World.frozen?_alloc_old _ _ t (Nat.ne_of_lt htl)]; exact hf0)
  clear h ht0 hf0 hB
  go_enter Tryd.func39, Tryd.ntmps39
  go_wp2_with fail
  go_loopg [0] d (fun n v wr => wr = (w.alloc (.cells #[.pointer (some ⟨1, 59, none⟩), .pointer (some B), .int .u64 150] 68)) ∧ Hid (Chain (w.alloc (.cells #[.pointer (some ⟨1, 59, none⟩), .pointer (some B), .int .u64 150] 68)) k n v))
  case atStart => exact ⟨rfl, HC.out⟩
  case round =>
    obtain ⟨rfl, hc⟩ := hrel
    clear HC
    cases gk with
    | zero =>
      obtain rfl := hc.out
      clear hc
      go_wp2
      go_ret
      exact ⟨rfl, rfl⟩
    | succ g =>
      obtain ⟨b, n, u, rfl, h0, h1, h2⟩ := hc.out
      clear hc
      have HC := Lib.hid h2
      rcases h2.form with ⟨h3, rfl⟩ | ⟨b2, rfl⟩
      · clear h2 h3
        go_wp2
        go_roundg g
        case measure => omega
        case rel => exact ⟨rfl, HC⟩
      · clear h2
        go_wp2
        go_roundg g
        case measure => omega
        case rel => exact ⟨rfl, HC⟩
end Err
end Go.Proofs.YtblkimpneeeiaaaDoor
