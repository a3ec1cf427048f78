/- An argument that is a []shutterlaw21.Mail: its cells. -/
import Derived.Test.YtoiidedigbfnaaaDoorBunBase
import Derived.WalkKit
import Derived.ProofKit
import Derived.OpenShut
import Derived.Lib.SmallJoins
import Derived.Deep.Slices
import Derived.ChangeMaps5
namespace Go.Proofs.YtoiidedigbfnaaaDoor
open Go.ChangeShapes Go.WideShapes Go.RowKit Go.Joins Go.Deep Sha
namespace Rom
/-- A mail: a number, where it comes from, is it forged. -/
structure Ml where
  q : Nat
  s : ByteArray
  f : Bool
def mlz : Ml := ⟨0, ⟨#[]⟩, false⟩
structure Mails (w : World) (a : Option Addr) (l : List Ml) : Prop where
  cell : ∀ j, j < l.length → ∃ g off, a = some ⟨g, off, none⟩ ∧ w.cell? ⟨g, off + j * 3, none⟩ = some (.int .u16 ((l.getD j mlz).q : Nat)) ∧ w.cell? ⟨g, off + j * 3 + 1, none⟩ = some (.string (l.getD j mlz).s) ∧ w.cell? ⟨g, off + j * 3 + 2, none⟩ = some (.bool (l.getD j mlz).f)
  small : ∀ x ∈ l, x.q < 65536
theorem Mails.below {w w' : World} {a : Option Addr} {l : List Ml} (h : Mails w a l) (hb : Below w.heap.size w w') : Mails w' a l := by
  refine ⟨fun j hj => ?_, h.small⟩
  obtain ⟨g, off, e, h0, h1, h2⟩ := h.cell j hj
  exact ⟨g, off, e, (hb.cell (p := ⟨g, off + j * 3, none⟩) (block_lt_of_cell h0)).trans h0, (hb.cell (p := ⟨g, off + j * 3 + 1, none⟩) (block_lt_of_cell h1)).trans h1, (hb.cell (p := ⟨g, off + j * 3 + 2, none⟩) (block_lt_of_cell h2)).trans h2⟩
end Rom
namespace Opn
open Rom
section
variable {H : Type} {enc : TypeId × Value → H} {W : World} {base b0 : Nat} {held : Bool} {r : Reach} {v : Value} {d : DataW H} {p : List MemPlace}
set_option maxRecDepth 100000 in
theorem trod_mail {fuel : Nat} {cs : List Value} {x : DataW H × List MemPlace} (hl : cs.length = 3) (hf : DataW.trod enc Tryd.prog W base (fun _ => true) held fuel 35 cs = some x) :
    ∃ m : Ml, cs = [.int .u16 (m.q : Int), .string m.s, .bool m.f] ∧ m.q < 65536 := by
  have k0 : Tryd.prog.cellsOf 33 = 1 := by kernel_rfl
  have k1 : Tryd.prog.cellsOf 9 = 1 := by kernel_rfl
  have k2 : Tryd.prog.cellsOf 4 = 1 := by kernel_rfl
  match cs, hl with
  | [c0, c1, c2], _ =>
    obtain ⟨xs, n, _, _, _, hlen, hg⟩ := DataW.trod_struct Tryd.underlying35 hf
    match xs, hlen with
    | [y0, y1, y2], _ =>
      have g0 := hg 0 _ rfl
      have g1 := hg 1 _ rfl
      have g2 := hg 2 _ rfl
      simp [k0] at g0
      simp [k1] at g1
      simp [k2] at g2
      obtain ⟨a0, e0, _, w0⟩ := DataW.trod_int Tryd.underlying33 g0
      obtain ⟨a1, e1, _, _⟩ := DataW.trod_string Tryd.underlying9 g1
      obtain ⟨a2, e2, _⟩ := DataW.trod_bool Tryd.underlying4 g2
      simp at e0 e1 e2
      subst e0 e1 e2
      have hw := bounds_u16 w0
      obtain ⟨a0, rfl⟩ := Int.eq_ofNat_of_zero_le (a := a0) (by omega)
      exact ⟨⟨a0, a1, a2⟩, rfl, by simp only; omega⟩
set_option maxRecDepth 100000 in
theorem open_mails (hv : Value.okWide Tryd.prog W r b0 23 v) (h : DataW.Trod enc Tryd.prog W base (fun _ => true) held 23 v d p) :
    ∃ (a : Option Addr) (cap : Nat) (l : List Ml), v = .slice a l.length cap ∧ Mails W a l ∧ l.length ≤ maxLen := by
  have hC : Tryd.prog.cellsOf 35 = 3 := by kernel_rfl
  obtain ⟨a, len, cap, rfl⟩ := okWide_slice Tryd.underlying23 hv
  obtain ⟨fuel, hf⟩ := h
  rcases open_slice Tryd.underlying23 hf with ⟨hcs, _⟩ | ⟨x, len', cap', m, k, D, Pl, hcs, _, hl, hm, hmm, _, hx⟩
  · simp [Value.cells] at hcs
    obtain ⟨rfl, rfl, rfl⟩ := hcs
    exact ⟨none, 0, [], rfl, ⟨fun j hj => by simp at hj, nofun⟩, Nat.zero_le _⟩
  · simp [Value.cells] at hcs
    obtain ⟨rfl, rfl, rfl⟩ := hcs
    rw [if_pos rfl] at hmm
    subst hmm
    rw [hC] at hx
    have this : ∀ i, i < len → ∃ o : Ml, x.add (i * 3) = ⟨(x.add (i * 3)).block, (x.add (i * 3)).off, none⟩ ∧ (W.cell? (x.add (i * 3)) = some (.int .u16 (o.q : Int)) ∧ W.cell? ((x.add (i * 3)).add 1) = some (.string o.s) ∧ W.cell? ((x.add (i * 3)).add 2) = some (.bool o.f)) ∧ o.q < 65536 := fun i hi => by
      obtain ⟨cs', h1, h2⟩ := hx i (by omega)
      obtain ⟨_, hl3, hat⟩ := World.cells?_some h1
      obtain ⟨o, rfl, hq⟩ := trod_mail hl3 h2
      have h0 := hat 0 (by decide)
      rw [show (x.add (i * 3)).add 0 = x.add (i * 3) from rfl] at h0
      exact ⟨o, spot_of_cell (h0.trans rfl), ⟨h0.trans rfl, (hat 1 (by decide)).trans rfl, (hat 2 (by decide)).trans rfl⟩, hq⟩
    have ⟨f, hf⟩ : ∃ f : Nat → Ml, ∀ i, i < len → x.add (i * 3) = ⟨(x.add (i * 3)).block, (x.add (i * 3)).off, none⟩ ∧ (W.cell? (x.add (i * 3)) = some (.int .u16 ((f i).q : Int)) ∧ W.cell? ((x.add (i * 3)).add 1) = some (.string (f i).s) ∧ W.cell? ((x.add (i * 3)).add 2) = some (.bool (f i).f)) ∧ (f i).q < 65536 := by
      classical
      refine ⟨fun i => if hi : i < len then Classical.choose (this i hi) else mlz, fun i hi => ?_⟩
      simp only [dif_pos hi]
      exact Classical.choose_spec (this i hi)
    have hgd : ∀ i, i < len → ((List.range len).map f).getD i mlz = f i := fun i hi => by simp [List.getD_eq_getElem?_getD, hi]
    refine ⟨some x, _, (List.range len).map f, by simp; rfl, ⟨fun j hj => ?_, fun o ho => ?_⟩, by simp; omega⟩
    · simp only [List.length_map, List.length_range] at hj
      have ha := (hf 0 (by omega)).1
      rw [Nat.zero_mul, show x.add 0 = x from rfl] at ha
      have h2 := (hf j hj).2.1
      rw [ha] at h2
      simp only [Addr.add_mid] at h2
      rw [hgd j hj]
      exact ⟨x.block, x.off, by rw [← ha], h2⟩
    · simp only [List.mem_map, List.mem_range] at ho
      obtain ⟨i, hi, rfl⟩ := ho
      exact (hf i hi).2.2
end
end Opn
end Go.Proofs.YtoiidedigbfnaaaDoor
