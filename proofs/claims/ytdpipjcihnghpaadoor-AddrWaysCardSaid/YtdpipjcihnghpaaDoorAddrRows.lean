/- AddrGets and AddrBack, with what a row's proof hands on. -/
import Derived.Test.YtdpipjcihnghpaaDoorAddrDone
namespace Go.Proofs.YtdpipjcihnghpaaDoor
open Go.RowKit Err Six Sha
namespace Adr
theorem gets_row (a0 : Option Addr) (len0 cap0 : Nat) (z0 : List Int) (n : Int) (w : World) (w0 : IsRow .u8 w a0 len0 cap0 z0) (_w1 : (Lit.int .i64 n).wf = true) (hg : Handle w) :
    Calls Tryd.prog 3 #[.slice a0 len0 cap0, .int .i64 n] w fun e w' => e = .returned (.bool true) ∧ Below w.heap.size w w' := by
  obtain ⟨xs, _, hx8, hb⟩ := isRow_bytes w0
  exact gets_any a0 len0 cap0 n xs w hb hx8 hg
theorem back_row (a b c d : Int) (a3 : Option Addr) (len3 cap3 : Nat) (z3 : List Int) (w : World) (h : (Lit.int .u16 a).wf = true) (k : (Lit.int .u16 b).wf = true) (i : (Lit.int .u8 c).wf = true) (j : (Lit.int .u8 d).wf = true) (w3 : IsRow .u8 w a3 len3 cap3 z3) (hg : Handle w) :
    Calls Tryd.prog 4 #[.int .u16 a, .int .u16 b, .agg #[.int .u8 c, .int .u8 d], .slice a3 len3 cap3] w fun e w' => e = .returned (.bool true) ∧ Below w.heap.size w w' := by
  obtain ⟨n, rfl, hn⟩ := u16_nat h
  obtain ⟨m, rfl, hm⟩ := u16_nat k
  obtain ⟨x, rfl, hx⟩ : ∃ x : Nat, c = (x : Int) ∧ x < 256 := by
    have h1 : IntKind.u8.min ≤ c ∧ c ≤ IntKind.u8.max := by simpa [Lit.wf] using i
    have h2 : 0 ≤ c ∧ c ≤ 255 := h1
    exact ⟨c.toNat, by omega, by omega⟩
  obtain ⟨y, rfl, hy⟩ : ∃ x : Nat, d = (x : Int) ∧ x < 256 := by
    have h1 : IntKind.u8.min ≤ d ∧ d ≤ IntKind.u8.max := by simpa [Lit.wf] using j
    have h2 : 0 ≤ d ∧ d ≤ 255 := h1
    exact ⟨d.toNat, by omega, by omega⟩
  obtain ⟨xs, _, _, hb⟩ := isRow_bytes w3
  exact back_any n m x y a3 len3 cap3 xs w hn hm hx hy hb (isRow_nil w3) hg
end Adr
end Go.Proofs.YtdpipjcihnghpaaDoor
