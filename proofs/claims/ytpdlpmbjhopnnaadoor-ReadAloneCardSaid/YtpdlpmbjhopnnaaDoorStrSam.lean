/- Plain: orders and commands that are the same. -/
import Derived.Test.YtpdlpmbjhopnnaaDoorBunPlain
namespace Go.Proofs.YtpdlpmbjhopnnaaDoor
open Six Att
namespace Str
open Go.Proofs.YtpdlpmbjhopnnaaDoor.Ord
theorem getD_ext {xs ys : List O} (hl : xs.length = ys.length) (h : ∀ i, i < xs.length → xs.getD i none_ = ys.getD i none_) : xs = ys := by
  apply List.ext_getElem hl
  intro i h1 h2
  have := h i h1
  rwa [List.getD_eq_getElem?_getD, List.getD_eq_getElem?_getD, List.getElem?_eq_getElem h1, List.getElem?_eq_getElem h2] at this
/-- Are two lists of orders the same? -/
def sames : List O → List O → Bool
  | [], [] => true
  | x :: xs, y :: ys => same x y && sames xs ys
  | _, _ => false
theorem sames_iff : ∀ (xs ys : List O), sames xs ys = true ↔ xs = ys
  | [], [] => by simp [sames]
  | [], y :: ys => by simp [sames]
  | x :: xs, [] => by simp [sames]
  | x :: xs, y :: ys => by simp [sames, same_iff, sames_iff xs ys]
/-- Are two commands the same? -/
def csame (x y : Cm) : Bool := (x.cmd == y.cmd) && ((x.a == y.a && (x.u == y.u && x.r == y.r)) && sames x.os y.os)
theorem csame_iff (x y : Cm) : csame x y = true ↔ x = y := by
  obtain ⟨c, a, u, r, os⟩ := x
  obtain ⟨c', a', u', r', os'⟩ := y
  simp [csame, sames_iff, and_assoc]
end Str
end Go.Proofs.YtpdlpmbjhopnnaaDoor
