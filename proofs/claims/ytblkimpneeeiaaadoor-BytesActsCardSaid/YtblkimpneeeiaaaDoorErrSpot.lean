/- What errors.As tells of a *api.Spot that wraps an api.Errno, and of an api.Errno where a *api.Spot is sought. -/
import Derived.Test.YtblkimpneeeiaaaDoorErrAs
namespace Go.Proofs.YtblkimpneeeiaaaDoor
open Go.RowKit Go.Extern.Stop Go.Stop Go.Extern
namespace Err
/-- In block b lies a Spot at the place n, that wraps the number k. -/
structure SpotAt (w : World) (b : Nat) (n k : Int) : Prop where
  at0 : w.cell? ⟨b, 0, none⟩ = some (.int .i64 n)
  at1 : w.cell? ⟨b, 1, none⟩ = some (.iface 38 (.int .i64 k))
theorem SpotAt.pos {w : World} {b : Nat} {n k : Int} (h : SpotAt w b n k) : b < w.heap.size := by
  rcases Nat.lt_or_ge b w.heap.size with h0 | h0
  · exact h0
  · have := h.at0; simp [World.cell?, Array.getElem?_eq_none h0] at this
theorem SpotAt.below {w w' : World} {b B : Nat} {n k : Int} (h : SpotAt w b n k) (hB : b < B) (hb : Below B w w') : SpotAt w' b n k :=
  ⟨(hb.cell (p := ⟨b, 0, none⟩) hB).trans h.at0, (hb.cell (p := ⟨b, 1, none⟩) hB).trans h.at1⟩

theorem noAsE (v : Value) (x : TypeId) (w : World) : (Instr.typeAssert (.iface 38 v) x 84 true).run Tryd.prog w = .ok (.tuple #[.nilIface, .bool false]) w :=
  run_typeAssert_lacksB Tryd.underlying84 (by kernel_rfl) (by kernel_rfl) v x w
theorem noUnE (v : Value) (x : TypeId) (w : World) : (Instr.typeAssert (.iface 38 v) x 87 true).run Tryd.prog w = .ok (.tuple #[.nilIface, .bool false]) w :=
  run_typeAssert_lacksB Tryd.underlying87 (by kernel_rfl) (by kernel_rfl) v x w
theorem noUnsE (v : Value) (x : TypeId) (w : World) : (Instr.typeAssert (.iface 38 v) x 88 true).run Tryd.prog w = .ok (.tuple #[.nilIface, .bool false]) w :=
  run_typeAssert_lacksB Tryd.underlying88 (by kernel_rfl) (by kernel_rfl) v x w
theorem noAsS (v : Value) (x : TypeId) (w : World) : (Instr.typeAssert (.iface 55 v) x 84 true).run Tryd.prog w = .ok (.tuple #[.nilIface, .bool false]) w :=
  run_typeAssert_lacksB Tryd.underlying84 (by kernel_rfl) (by kernel_rfl) v x w
theorem hasUnS (v : Value) (x : TypeId) (w : World) : (Instr.typeAssert (.iface 55 v) x 87 true).run Tryd.prog w = .ok (.tuple #[.iface 55 v, .bool true]) w :=
  run_typeAssert_hasB Tryd.underlying87 (by kernel_rfl) v x w
theorem methodUnwrap (p : Addr) (w : World) : (Go.method 224 55 (.pointer (some p)) "Unwrap").run Tryd.prog w = .ok (67, .pointer (some p)) w := by kernel_rfl
theorem typeOfS (v : Value) (w : World) : (ReflectliteType.typeOf #[.iface 55 v]).run Tryd.prog w = .ok (.iface 79 (.agg #[.pointer (some ⟨1, 55, none⟩)])) w := by kernel_rfl
theorem assignableSE (w : World) : (ReflectliteType.relation "AssignableTo" ReflectliteType.assignableTo #[.agg #[.pointer (some ⟨1, 55, none⟩)], .iface 79 (.agg #[.pointer (some ⟨1, 38, none⟩)])]).run Tryd.prog w = .ok (.bool false) w := by kernel_rfl
theorem assignableES (w : World) : (ReflectliteType.relation "AssignableTo" ReflectliteType.assignableTo #[.agg #[.pointer (some ⟨1, 38, none⟩)], .iface 79 (.agg #[.pointer (some ⟨1, 55, none⟩)])]).run Tryd.prog w = .ok (.bool false) w := by kernel_rfl
theorem assignableSS (w : World) : (ReflectliteType.relation "AssignableTo" ReflectliteType.assignableTo #[.agg #[.pointer (some ⟨1, 55, none⟩)], .iface 79 (.agg #[.pointer (some ⟨1, 55, none⟩)])]).run Tryd.prog w = .ok (.bool true) w := by kernel_rfl
theorem unwrap_any (b : Nat) (w : World) (n k : Int) (h : SpotAt w b n k) :
    Calls Tryd.prog 67 #[.pointer (some ⟨b, 0, none⟩)] w fun e w' => e = .returned (.iface 38 (.int .i64 k)) ∧ w' = w := by
  obtain ⟨h0, h1⟩ := h
  go_enter Tryd.func67, Tryd.ntmps67
  go_wp2
  go_ret
  exact ⟨rfl, rfl⟩
end Err
end Go.Proofs.YtblkimpneeeiaaaDoor
