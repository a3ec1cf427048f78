/- An argument that is an api.Order: its cells, and the bytes of its text. -/
import Derived.Test.YtllpmgddcpgegaaProg
import Derived.Test.YtllpmgddcpgegaaBytes
import Derived.WalkKit
import Derived.ProofKit
import Derived.OpenShut
import Derived.Lib.SmallJoins
namespace Go.Proofs.Ytllpmgddcpgegaa
open Go.ChangeShapes Go.WideShapes Go.RowKit Go.Joins Sha
namespace Opn
section
variable {H : Type} {enc : TypeId × Value → H} {W : World} {base b0 : Nat} {held : Bool} {r : Reach} {v : Value} {d : DataW H} {p : List MemPlace}
theorem trod_bytes {n : Nat} {c : Value} {y : DataW H × List MemPlace} (h : DataW.trod enc Try.prog W base (fun _ => true) held n 22 [c] = some y) :
    ∃ (a : Option Addr) (len cap : Nat) (zs : List Int), c = .slice a len cap ∧ IsRow .u8 W a len cap zs := by
  rcases open_ints Try.underlying22 Try.underlying5 (by kernel_rfl) h with ⟨hcs, _⟩ | ⟨x, l, c, zs, hcs, _, hl, hm, hz, _, hcell, hwz⟩
  · injection hcs with e _
    exact ⟨none, 0, 0, [], e, .inl ⟨rfl, rfl, rfl, rfl⟩⟩
  · injection hcs with e _
    exact ⟨some x, l, c, zs, e, .inr ⟨_, rfl, hl, hm, by simpa using hz, hcell, hwz⟩⟩
theorem open_order (hv : Value.okWide Try.prog W r b0 26 v) (h : DataW.Trod enc Try.prog W base (fun _ => true) held 26 v d p) :
    ∃ (k : Int) (a : Option Addr) (len cap : Nat) (zs : List Int) (p n : Bool) (s : Int) (m : Bool) (ad c : Int), v = .agg #[.int .i64 k, .slice a len cap, .bool p, .bool n, .int .i64 s, .bool m, .int .i64 ad, .int .u8 c] ∧ IsRow .u8 W a len cap zs ∧ (Lit.int .u8 c).wf = true := by
  obtain ⟨cs, rfl, hsz⟩ := okWide_struct Try.underlying26 hv
  have hC : Try.prog.cellsOf 26 = 8 := by kernel_rfl
  have k0 : Try.prog.cellsOf 3 = 1 := by kernel_rfl
  have k1 : Try.prog.cellsOf 22 = 1 := by kernel_rfl
  have k2 : Try.prog.cellsOf 24 = 4 := by kernel_rfl
  have k3 : Try.prog.cellsOf 5 = 1 := by kernel_rfl
  have k4 : Try.prog.cellsOf 4 = 1 := by kernel_rfl
  obtain ⟨l⟩ := cs
  match l, hsz.trans hC with
  | [c0, c1, c2, c3, c4, c5, c6, c7], _ =>
    obtain ⟨fuel, hf⟩ := h
    obtain ⟨xs, n, _, _, _, hlen, hg⟩ := DataW.trod_struct Try.underlying26 hf
    match xs, hlen with
    | [y0, y1, y2, y3, y4], _ =>
      have g0 := hg 0 _ rfl
      have g1 := hg 1 _ rfl
      have g2 := hg 2 _ rfl
      have g3 := hg 3 _ rfl
      have g4 := hg 4 _ rfl
      simp [Value.cells, k0] at g0
      simp [Value.cells, k1] at g1
      simp [Value.cells, k2] at g2
      simp [Value.cells, k0] at g3
      simp [Value.cells, k3] at g4
      obtain ⟨ys, n2, _, _, _, hlen2, hg2⟩ := DataW.trod_struct Try.underlying24 g2
      match ys, hlen2 with
      | [z0, z1, z2, z3], _ =>
        have f0 := hg2 0 _ rfl
        have f1 := hg2 1 _ rfl
        have f2 := hg2 2 _ rfl
        have f3 := hg2 3 _ rfl
        simp [k4] at f0
        simp [k4] at f1
        simp [k0] at f2
        simp [k4] at f3
        obtain ⟨a0, e0, _⟩ := DataW.trod_int Try.underlying3 g0
        obtain ⟨a, len, cap, zs, e1, hr⟩ := trod_bytes g1
        obtain ⟨b0, e2, _⟩ := DataW.trod_bool Try.underlying4 f0
        obtain ⟨b1, e3, _⟩ := DataW.trod_bool Try.underlying4 f1
        obtain ⟨a2, e4, _⟩ := DataW.trod_int Try.underlying3 f2
        obtain ⟨b3, e5, _⟩ := DataW.trod_bool Try.underlying4 f3
        obtain ⟨a3, e6, _⟩ := DataW.trod_int Try.underlying3 g3
        obtain ⟨a4, e7, _, w4⟩ := DataW.trod_int Try.underlying5 g4
        simp at e0 e2 e3 e4 e5 e6 e7
        subst e0 e1 e2 e3 e4 e5 e6 e7
        exact ⟨a0, a, len, cap, zs, b0, b1, a2, b3, a3, a4, rfl, hr, w4⟩
end
end Opn
end Go.Proofs.Ytllpmgddcpgegaa
