/- What errors.Is tells of no error, of an api.Errno, and of one inside however many Spots, asked for a number. -/
import Derived.Test.YtpgbnnnfeaodmaaGreatDoorSBunBase
import Derived.Stop.Asserts
import Derived.LaidEql
import Derived.Deep.LoopGhost
namespace Go.Proofs.YtpgbnnnfeaodmaaGreatDoor
open Go.RowKit Go.Extern.Stop Go.Stop Go.Extern
set_option linter.unusedVariables false
namespace Err
theorem isTypeOf (v : Value) (w : World) : (ReflectliteType.typeOf #[.iface 48 v]).run Tryz.prog w = .ok (.iface 105 (.agg #[.pointer (some ⟨1, 48, none⟩)])) w := by kernel_rfl
theorem isMethod (h : Value) (w : World) : (Go.method 297 105 (.agg #[h]) "Comparable").run Tryz.prog w = .ok (158, .agg #[h]) w := by kernel_rfl
theorem isNoIsE (v : Value) (x : TypeId) (w : World) : (Instr.typeAssert (.iface 48 v) x 131 true).run Tryz.prog w = .ok (.tuple #[.nilIface, .bool false]) w :=
  run_typeAssert_lacksB Tryz.underlying131 (by kernel_rfl) (by kernel_rfl) v x w
theorem isNoIsS (v : Value) (x : TypeId) (w : World) : (Instr.typeAssert (.iface 59 v) x 131 true).run Tryz.prog w = .ok (.tuple #[.nilIface, .bool false]) w :=
  run_typeAssert_lacksB Tryz.underlying131 (by kernel_rfl) (by kernel_rfl) v x w
theorem isNoUnE (v : Value) (x : TypeId) (w : World) : (Instr.typeAssert (.iface 48 v) x 113 true).run Tryz.prog w = .ok (.tuple #[.nilIface, .bool false]) w :=
  run_typeAssert_lacksB Tryz.underlying113 (by kernel_rfl) (by kernel_rfl) v x w
theorem isNoUnsE (v : Value) (x : TypeId) (w : World) : (Instr.typeAssert (.iface 48 v) x 115 true).run Tryz.prog w = .ok (.tuple #[.nilIface, .bool false]) w :=
  run_typeAssert_lacksB Tryz.underlying115 (by kernel_rfl) (by kernel_rfl) v x w
theorem isHasUnS (v : Value) (x : TypeId) (w : World) : (Instr.typeAssert (.iface 59 v) x 113 true).run Tryz.prog w = .ok (.tuple #[.iface 59 v, .bool true]) w :=
  run_typeAssert_hasB Tryz.underlying113 (by kernel_rfl) v x w
theorem isUnwrap (p : Addr) (w : World) : (Go.method 297 59 (.pointer (some p)) "Unwrap").run Tryz.prog w = .ok (152, .pointer (some p)) w := by kernel_rfl
theorem isEqE (a b : Int) (w : World) : (binOp .eql 30 (.iface 48 (.int .i64 a)) (.iface 48 (.int .i64 b))).run Tryz.prog w = .ok (.bool (a == b)) w := by kernel_rfl
theorem isEqS (p : Addr) (b : Int) (w : World) : (binOp .eql 30 (.iface 59 (.pointer (some p))) (.iface 48 (.int .i64 b))).run Tryz.prog w = .ok (.bool false) w := by kernel_rfl
theorem isComparable (w : World) : ((ReflectliteType.method fun t => do Rtype.noPackHeld "Comparable" t; (fun a => Value.bool a.comparable) <$> typeInfo t) #[.agg #[.pointer (some ⟨1, 48, none⟩)]]).run Tryz.prog w = .ok (.bool true) w := by kernel_rfl
theorem isEqN (b : Int) (w : World) : (binOp .eql 30 .nilIface (.iface 48 (.int .i64 b))).run Tryz.prog w = .ok (.bool false) w := by kernel_rfl
set_option maxHeartbeats 4000000 in
theorem is_deep (d : Nat) (ev : Value) (k n : Int) (w : World) (h : Chain w k d ev) :
    Calls Tryz.prog 80 #[ev, .iface 48 (.int .i64 n), .bool true] w fun e w' => e = .returned (.bool (k == n)) ∧ w' = w := by
  have z0 := isNoIsE
  have z1 := isNoIsS
  have z2 := isNoUnE
  have z3 := isNoUnsE
  have z4 := isHasUnS
  have z5 := isUnwrap
  have z6 := isEqE
  have z7 := isEqS
  have HC := Lib.hid h
  clear h
  go_enter Tryz.func80, Tryz.ntmps80
  go_wp2_with fail
  go_loopg [0] d (fun g v wr => wr = w ∧ Hid (Chain w k g v))
  case atStart => exact ⟨rfl, HC⟩
  case round =>
    obtain ⟨rfl, hc⟩ := hrel
    clear HC
    cases gk with
    | zero =>
      obtain rfl := hc.out
      clear hc
      cases hkn : k == n with
      | true =>
        go_wp2
        go_ret
        exact ⟨by simp [hkn], rfl⟩
      | false =>
        go_wp2
        go_ret
        exact ⟨by simp [hkn], rfl⟩
    | succ g =>
      obtain ⟨b, m, u, rfl, h0, h1, h2⟩ := hc.out
      clear hc
      have HC := Lib.hid h2
      rcases h2.form with ⟨h3, rfl⟩ | ⟨b2, rfl⟩
      · clear h2 h3
        go_wp2
        go_roundg g
        case measure => omega
        case rel => exact ⟨rfl, HC⟩
      · clear h2
        go_wp2
        go_roundg g
        case measure => omega
        case rel => exact ⟨rfl, HC⟩
set_option maxRecDepth 100000 in
set_option maxHeartbeats 4000000 in
theorem is_told (ev : Value) (c p n : Int) (w : World) (h : Told w ev c p) (hn : n ≠ 0) :
    Calls Tryz.prog 57 #[ev, .iface 48 (.int .i64 n)] w fun e w' => e = .returned (.bool (c == n)) ∧ w' = w := by
  have h10 := @run_callFunc_extern Tryz.prog 77 _ ReflectliteType.typeOf Tryz.func77 (by kernel_rfl) (by kernel_rfl) (by kernel_rfl) (by kernel_rfl)
  have h11 := @run_callFunc_extern Tryz.prog 158 _ (ReflectliteType.method fun t => do Rtype.noPackHeld "Comparable" t; pure (.bool (← typeInfo t).comparable)) Tryz.func158 (by kernel_rfl) (by kernel_rfl) (by kernel_rfl) (by kernel_rfl)
  have hcmp := isComparable
  have z0 := isTypeOf
  have z1 := isMethod
  have z2 := isEqN
  rcases h with ⟨rfl, rfl, _⟩ | ⟨rfl, _⟩ | ⟨d, b, rfl, _, h3⟩
  · have e0 : ((0 : Int) == n) = false := by simp; omega
    rw [e0]
    go_enter Tryz.func57, Tryz.ntmps57
    go_wp2_with fail
    go_ret
    exact ⟨rfl, rfl⟩
  · have HD := Lib.hid (is_deep 0 (.iface 48 (.int .i64 c)) c n w rfl)
    generalize (c == n) = r at *
    go_enter Tryz.func57, Tryz.ntmps57
    go_wp2_with (go_at_call 80; refine HD.out.mono ?_; rintro e w' ⟨rfl, rfl⟩)
    go_ret
    exact ⟨rfl, rfl⟩
  · have HD := Lib.hid (is_deep (d + 1) (.iface 59 (.pointer (some ⟨b, 0, none⟩))) c n w h3)
    clear h3
    generalize (c == n) = r at *
    go_enter Tryz.func57, Tryz.ntmps57
    go_wp2_with (go_at_call 80; refine HD.out.mono ?_; rintro e w' ⟨rfl, rfl⟩)
    go_ret
    exact ⟨rfl, rfl⟩
end Err
end Go.Proofs.YtpgbnnnfeaodmaaGreatDoor
