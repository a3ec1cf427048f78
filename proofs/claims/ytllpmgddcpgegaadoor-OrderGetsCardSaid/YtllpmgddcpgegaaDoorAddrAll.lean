/- addr.Get of whatever bytes and size, by the plain function. -/
import Derived.Test.YtllpmgddcpgegaaDoorAddrGet
import Derived.Test.YtllpmgddcpgegaaDoorAddrSpec
import Derived.Test.YtllpmgddcpgegaaDoorCutB
import Derived.Test.YtllpmgddcpgegaaDoorErrForm
namespace Go.Proofs.YtllpmgddcpgegaaDoor
open Go.RowKit Err Six Sha
namespace Adr
theorem told_errno (w : World) (c : Int) : Err.Told w (.iface 57 (.int .i64 c)) c (-1) := .inr (.inl ⟨rfl, rfl⟩)
theorem told_nil (w : World) : Err.Told w .nilIface 0 (-1) := .inl ⟨rfl, rfl, rfl⟩
theorem told_spot {w : World} {B : Nat} {n k : Int} (h : SpotAt w B n k) : Err.Told w (.iface 78 (.pointer (some ⟨B, 0, none⟩))) k n :=
  .inr (.inr ⟨0, B, rfl, h.at0, B, n, _, rfl, h.at0, h.at1, rfl⟩)
theorem told_cases {w : World} {ev : Value} {c n : Int} (h : Err.Told w ev c n) (hc : c ≠ 0) : ∃ d, Chain w c d ev := by
  rcases h with ⟨_, h, _⟩ | ⟨h, _⟩ | ⟨d, _, _, _, h⟩
  · exact absurd h hc
  · exact ⟨0, h⟩
  · exact ⟨_, h⟩
theorem two_cells {w : World} {ad : Option Addr} {len cap : Nat} {ys : List Nat} (h : BytesIn w (.slice ad len cap) ys) (hl : 2 ≤ ys.length) :
    len = ys.length ∧ ∃ g o, ad = some ⟨g, o, none⟩ ∧ w.cell? ⟨g, o, none⟩ = some (.int .u8 ((ys.getD 0 0 : Nat) : Int)) ∧ w.cell? ⟨g, o + 1, none⟩ = some (.int .u8 ((ys.getD 1 0 : Nat) : Int)) := by
  obtain ⟨ad', c, hv, _, hc⟩ := h
  injection hv with e1 e2 e3
  subst e1 e2
  rcases hc with h0 | ⟨g, o, rfl, hc⟩
  · rw [h0] at hl; simp at hl
  · exact ⟨rfl, g, o, rfl, hc 0 (by omega), hc 1 (by omega)⟩
theorem slice_len {w : World} {ad : Option Addr} {len cap : Nat} {ys : List Nat} (h : BytesIn w (.slice ad len cap) ys) : len = ys.length := by
  obtain ⟨_, _, hv, _⟩ := h
  injection hv
theorem get_all (ad : Option Addr) (len cap : Nat) (ys : List Nat) (n : Int) (w : World) (hB : BytesIn w (.slice ad len cap) ys) (h8 : ∀ y ∈ ys, y < 256) :
    Calls Tryd.prog 61 #[.slice ad len cap, .int .i64 n] w fun e w' => ∃ ev, e = .returned (.tuple #[.int .i64 ((aspec ys n).1 : Int), ev]) ∧ Below w.heap.size w w' ∧
      Err.Told w' ev ((aspec ys n).2.1 : Int) (aspec ys n).2.2 ∧ ((aspec ys n).2.1 = 0 → ev = .nilIface) := by
  unfold aspec
  by_cases h1 : n < 1 ∨ 16383 < n
  · simp only [if_pos h1]
    exact (get_size ad len cap n w h1).mono fun e w' ⟨he, hw⟩ => ⟨_, he, by rw [← hw]; exact Below.refl _ _, told_errno _ _, nofun⟩
  simp only [if_neg h1]
  obtain ⟨N, rfl⟩ := Int.eq_ofNat_of_zero_le (a := n) (by omega)
  have hl := slice_len hB
  by_cases h2 : ys.length < 2
  · simp only [if_pos h2]
    exact (get_cut ad len cap N w (by omega) (by omega) (by omega)).mono fun e w' ⟨he, hw⟩ => ⟨_, he, by rw [← hw]; exact Below.refl _ _, told_errno _ _, nofun⟩
  simp only [if_neg h2]
  obtain ⟨_, g, o, rfl, c0, c1⟩ := two_cells hB (by omega)
  have hx := byte_lt h8 (by decide) 0
  have hy := byte_lt h8 (by decide) 1
  generalize ys.getD 0 0 = x at c0 hx ⊢
  generalize ys.getD 1 0 = y at c1 hy ⊢
  by_cases h3 : (N : Int) ≤ 4096
  · simp only [if_pos h3]
    by_cases gx : isGraphic x = false
    · simp only [if_pos gx]
      exact (get_short_spot _ len cap N 0 w (by omega) (by omega) (by omega) (by omega) (getShort_0 g o len cap x w (by omega) hx c0 gx)).mono fun e w' ⟨B, he, hs, hb⟩ => ⟨_, he, hb, told_spot hs, nofun⟩
    simp only [if_neg gx]
    have gx : isGraphic x = true := by simpa using gx
    by_cases gy : isGraphic y = false
    · simp only [if_pos gy]
      exact (get_short_spot _ len cap N 1 w (by omega) (by omega) (by omega) (by omega) (getShort_1 g o len cap x y w (by omega) hx hy c0 c1 gx gy)).mono fun e w' ⟨B, he, hs, hb⟩ => ⟨_, he, hb, told_spot hs, nofun⟩
    simp only [if_neg gy]
    have gy : isGraphic y = true := by simpa using gy
    have HR := getShort_ok g o len cap x y w (by omega) hx hy c0 c1 gx gy
    by_cases h4 : (N : Int) ≤ ((64 * (x % 64) + y % 64 : Nat) : Int)
    · simp only [if_pos h4]
      exact (get_short_addr _ len cap N (x % 64) (y % 64) w (by omega) (by omega) (by omega) (by omega) (by omega) (by omega) (by omega) HR).mono fun e w' ⟨he, hb⟩ => ⟨_, he, hb, told_errno _ _, nofun⟩
    · simp only [if_neg h4]
      exact (get_short_ok _ len cap N (x % 64) (y % 64) w (by omega) (by omega) (by omega) (by omega) (by omega) (by omega) (by omega) HR).mono fun e w' ⟨he, hb⟩ => ⟨_, by rw [he]; simp, hb, told_nil _, fun _ => rfl⟩
  · simp only [if_neg h3]
    by_cases gx : 64 ≤ x
    · simp only [if_pos gx]
      exact (get_long_spot _ len cap N 0 w (by omega) (by omega) (by omega) (by omega) (getLong_0 g o len cap x w (by omega) hx gx c0)).mono fun e w' ⟨B, he, hs, hb⟩ => ⟨_, he, hb, told_spot hs, nofun⟩
    simp only [if_neg gx]
    have HR := getLong_ok g o len cap x y w (by omega) (by omega) hy c0 c1
    by_cases h4 : (N : Int) ≤ ((256 * x + y : Nat) : Int)
    · simp only [if_pos h4]
      exact (get_long_addr _ len cap N x y w (by omega) (by omega) (by omega) (by omega) (by omega) (by omega) (by omega) HR).mono fun e w' ⟨he, hb⟩ => ⟨_, he, hb, told_errno _ _, nofun⟩
    · simp only [if_neg h4]
      exact (get_long_ok _ len cap N x y w (by omega) (by omega) (by omega) (by omega) (by omega) (by omega) (by omega) HR).mono fun e w' ⟨he, hb⟩ => ⟨_, by rw [he]; simp, hb, told_nil _, fun _ => rfl⟩
end Adr
end Go.Proofs.YtllpmgddcpgegaaDoor
