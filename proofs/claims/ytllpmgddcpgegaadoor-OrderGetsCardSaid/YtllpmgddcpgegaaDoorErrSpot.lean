/- What errors.As tells of a *api.Spot that wraps an api.Errno, and of an api.Errno where a *api.Spot is sought. -/
import Derived.Test.YtllpmgddcpgegaaDoorErrAs
import Derived.Test.YtllpmgddcpgegaaDoorErrForm
namespace Go.Proofs.YtllpmgddcpgegaaDoor
open Go.RowKit Go.Extern.Stop Go.Stop Go.Extern
namespace Err
theorem noAsE (v : Value) (x : TypeId) (w : World) : (Instr.typeAssert (.iface 57 v) x 114 true).run Tryd.prog w = .ok (.tuple #[.nilIface, .bool false]) w :=
  run_typeAssert_lacksB Tryd.underlying114 (by kernel_rfl) (by kernel_rfl) v x w
theorem noUnE (v : Value) (x : TypeId) (w : World) : (Instr.typeAssert (.iface 57 v) x 117 true).run Tryd.prog w = .ok (.tuple #[.nilIface, .bool false]) w :=
  run_typeAssert_lacksB Tryd.underlying117 (by kernel_rfl) (by kernel_rfl) v x w
theorem noUnsE (v : Value) (x : TypeId) (w : World) : (Instr.typeAssert (.iface 57 v) x 118 true).run Tryd.prog w = .ok (.tuple #[.nilIface, .bool false]) w :=
  run_typeAssert_lacksB Tryd.underlying118 (by kernel_rfl) (by kernel_rfl) v x w
theorem noAsS (v : Value) (x : TypeId) (w : World) : (Instr.typeAssert (.iface 78 v) x 114 true).run Tryd.prog w = .ok (.tuple #[.nilIface, .bool false]) w :=
  run_typeAssert_lacksB Tryd.underlying114 (by kernel_rfl) (by kernel_rfl) v x w
theorem hasUnS (v : Value) (x : TypeId) (w : World) : (Instr.typeAssert (.iface 78 v) x 117 true).run Tryd.prog w = .ok (.tuple #[.iface 78 v, .bool true]) w :=
  run_typeAssert_hasB Tryd.underlying117 (by kernel_rfl) v x w
theorem methodUnwrap (p : Addr) (w : World) : (Go.method 252 78 (.pointer (some p)) "Unwrap").run Tryd.prog w = .ok (91, .pointer (some p)) w := by kernel_rfl
theorem typeOfS (v : Value) (w : World) : (ReflectliteType.typeOf #[.iface 78 v]).run Tryd.prog w = .ok (.iface 109 (.agg #[.pointer (some ⟨1, 78, none⟩)])) w := by kernel_rfl
theorem assignableSE (w : World) : (ReflectliteType.relation "AssignableTo" ReflectliteType.assignableTo #[.agg #[.pointer (some ⟨1, 78, none⟩)], .iface 109 (.agg #[.pointer (some ⟨1, 57, none⟩)])]).run Tryd.prog w = .ok (.bool false) w := by kernel_rfl
theorem assignableES (w : World) : (ReflectliteType.relation "AssignableTo" ReflectliteType.assignableTo #[.agg #[.pointer (some ⟨1, 57, none⟩)], .iface 109 (.agg #[.pointer (some ⟨1, 78, none⟩)])]).run Tryd.prog w = .ok (.bool false) w := by kernel_rfl
theorem assignableSS (w : World) : (ReflectliteType.relation "AssignableTo" ReflectliteType.assignableTo #[.agg #[.pointer (some ⟨1, 78, none⟩)], .iface 109 (.agg #[.pointer (some ⟨1, 78, none⟩)])]).run Tryd.prog w = .ok (.bool true) w := by kernel_rfl
theorem unwrap_any (b : Nat) (w : World) (n k : Int) (h : SpotAt w b n k) :
    Calls Tryd.prog 91 #[.pointer (some ⟨b, 0, none⟩)] w fun e w' => e = .returned (.iface 57 (.int .i64 k)) ∧ w' = w := by
  obtain ⟨h0, h1⟩ := h
  go_enter Tryd.func91, Tryd.ntmps91
  go_wp2
  go_ret
  exact ⟨rfl, rfl⟩
end Err
end Go.Proofs.YtllpmgddcpgegaaDoor
