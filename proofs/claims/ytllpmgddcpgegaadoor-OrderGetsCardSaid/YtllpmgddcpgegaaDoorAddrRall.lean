/- The document's Get of whatever bytes and size: the same plain function. -/
import Derived.Test.YtllpmgddcpgegaaDoorAddrAll
import Derived.Test.YtllpmgddcpgegaaDoorAddrRef
namespace Go.Proofs.YtllpmgddcpgegaaDoor
open Go.RowKit Err Six Sha
namespace Adr
theorem rget_all (ad : Option Addr) (len cap : Nat) (ys : List Nat) (n : Int) (w : World) (hB : BytesIn w (.slice ad len cap) ys) (h8 : ∀ y ∈ ys, y < 256) :
    Calls Tryd.prog 44 #[.slice ad len cap, .int .i64 n] w fun e w' => e = .returned (.tuple #[.int .i64 ((aspec ys n).1 : Int), .int .i64 ((aspec ys n).2.1 : Int), .int .i64 (aspec ys n).2.2]) ∧ Below w.heap.size w w' := by
  unfold aspec
  by_cases h1 : n < 1 ∨ 16383 < n
  · simp only [if_pos h1]
    exact rget_size ad len cap n w h1
  simp only [if_neg h1]
  obtain ⟨N, rfl⟩ := Int.eq_ofNat_of_zero_le (a := n) (by omega)
  have hl := slice_len hB
  by_cases h2 : ys.length < 2
  · simp only [if_pos h2]
    exact rget_cut ad len cap N w (by omega) (by omega) (by omega)
  simp only [if_neg h2]
  obtain ⟨_, g, o, rfl, c0, c1⟩ := two_cells hB (by omega)
  have hx := byte_lt h8 (by decide) 0
  have hy := byte_lt h8 (by decide) 1
  generalize ys.getD 0 0 = x at c0 hx ⊢
  generalize ys.getD 1 0 = y at c1 hy ⊢
  by_cases h3 : (N : Int) ≤ 4096
  · simp only [if_pos h3]
    by_cases gx : isGraphic x = false
    · simp only [if_pos gx]
      cases gy : isGraphic y
      · exact rget_s_0f g o len cap N x y w (by omega) (by omega) (by omega) hx hy c0 c1 (by omega) gx gy
      · exact rget_s_0t g o len cap N x y w (by omega) (by omega) (by omega) hx hy c0 c1 (by omega) gx gy
    simp only [if_neg gx]
    have gx : isGraphic x = true := by simpa using gx
    by_cases gy : isGraphic y = false
    · simp only [if_pos gy]
      exact rget_s_1 g o len cap N x y w (by omega) (by omega) (by omega) hx hy c0 c1 (by omega) gx gy
    simp only [if_neg gy]
    have gy : isGraphic y = true := by simpa using gy
    by_cases h4 : (N : Int) ≤ ((64 * (x % 64) + y % 64 : Nat) : Int)
    · simp only [if_pos h4]
      exact rget_s_addr g o len cap N x y w (by omega) (by omega) (by omega) hx hy c0 c1 (by omega) gx gy (by omega)
    · simp only [if_neg h4]
      exact (rget_s_ok g o len cap N x y w (by omega) (by omega) (by omega) hx hy c0 c1 (by omega) gx gy (by omega)).mono fun e w' ⟨he, hb⟩ => ⟨by rw [he]; simp, hb⟩
  · simp only [if_neg h3]
    by_cases gx : 64 ≤ x
    · simp only [if_pos gx]
      exact rget_l_0 g o len cap N x y w (by omega) (by omega) (by omega) hx hy c0 c1 (by omega) gx
    simp only [if_neg gx]
    by_cases h4 : (N : Int) ≤ ((256 * x + y : Nat) : Int)
    · simp only [if_pos h4]
      exact rget_l_addr g o len cap N x y w (by omega) (by omega) (by omega) hx hy c0 c1 (by omega) (by omega) (by omega)
    · simp only [if_neg h4]
      exact (rget_l_ok g o len cap N x y w (by omega) (by omega) (by omega) hx hy c0 c1 (by omega) (by omega) (by omega)).mono fun e w' ⟨he, hb⟩ => ⟨by rw [he]; simp, hb⟩
end Adr
end Go.Proofs.YtllpmgddcpgegaaDoor
