/- An argument that is an api.Out: its cells, and its orders. -/
import Derived.Test.YtkobodoejpioeaaGreatDoorBunStr
import Derived.Test.YtkobodoejpioeaaGreatDoorBunOrd
import Derived.WalkKit
import Derived.ProofKit
import Derived.OpenShut
import Derived.Lib.SmallJoins
import Derived.Deep.Slices
namespace Go.Proofs.YtkobodoejpioeaaGreatDoor
open Go.ChangeShapes Go.WideShapes Go.RowKit Go.Joins Go.Deep Sha Go.Proofs.YtkobodoejpioeaaGreatDoor.Ord Str
namespace Opn
section
variable {H : Type} {enc : TypeId × Value → H} {W : World} {base b0 : Nat} {held : Bool} {r : Reach} {v : Value} {d : DataW H} {p : List MemPlace}
set_option maxRecDepth 100000 in
theorem trod_bytes {n : Nat} {c : Value} {y : DataW H × List MemPlace} (h : DataW.trod enc Tryz.prog W base (fun _ => true) held n 37 [c] = some y) :
    ∃ (a : Option Addr) (len cap : Nat) (zs : List Int), c = .slice a len cap ∧ IsRow .u8 W a len cap zs := by
  rcases open_ints Tryz.underlying37 Tryz.underlying5 (by kernel_rfl) h with ⟨hcs, _⟩ | ⟨x, l, c, zs, hcs, _, hl, hm, hz, _, hcell, hwz⟩
  · injection hcs with e _
    exact ⟨none, 0, 0, [], e, .inl ⟨rfl, rfl, rfl, rfl⟩⟩
  · injection hcs with e _
    exact ⟨some x, l, c, zs, e, .inr ⟨_, rfl, hl, hm, by simpa using hz, hcell, hwz⟩⟩
set_option maxRecDepth 100000 in
theorem trod_order {fuel : Nat} {cs : List Value} {x : DataW H × List MemPlace} (hl : cs.length = 8) (hf : DataW.trod enc Tryz.prog W base (fun _ => true) held fuel 49 cs = some x) :
    ∃ (k : Int) (a : Option Addr) (len cap : Nat) (zs : List Int) (p n : Bool) (s : Int) (m : Bool) (ad c : Int), cs = [.int .i64 k, .slice a len cap, .bool p, .bool n, .int .i64 s, .bool m, .int .i64 ad, .int .u8 c] ∧ IsRow .u8 W a len cap zs ∧ (Lit.int .u8 c).wf = true := by
  have k0 : Tryz.prog.cellsOf 3 = 1 := by kernel_rfl
  have k1 : Tryz.prog.cellsOf 37 = 1 := by kernel_rfl
  have k2 : Tryz.prog.cellsOf 45 = 4 := by kernel_rfl
  have k3 : Tryz.prog.cellsOf 5 = 1 := by kernel_rfl
  have k4 : Tryz.prog.cellsOf 4 = 1 := by kernel_rfl
  match cs, hl with
  | [c0, c1, c2, c3, c4, c5, c6, c7], _ =>
    obtain ⟨xs, n, _, _, _, hlen, hg⟩ := DataW.trod_struct Tryz.underlying49 hf
    match xs, hlen with
    | [y0, y1, y2, y3, y4], _ =>
      have g0 := hg 0 _ rfl
      have g1 := hg 1 _ rfl
      have g2 := hg 2 _ rfl
      have g3 := hg 3 _ rfl
      have g4 := hg 4 _ rfl
      simp [k0] at g0
      simp [k1] at g1
      simp [k2] at g2
      simp [k0] at g3
      simp [k3] at g4
      obtain ⟨ys, n2, _, _, _, hlen2, hg2⟩ := DataW.trod_struct Tryz.underlying45 g2
      match ys, hlen2 with
      | [z0, z1, z2, z3], _ =>
        have f0 := hg2 0 _ rfl
        have f1 := hg2 1 _ rfl
        have f2 := hg2 2 _ rfl
        have f3 := hg2 3 _ rfl
        simp [k4] at f0
        simp [k4] at f1
        simp [k0] at f2
        simp [k4] at f3
        obtain ⟨a0, e0, _⟩ := DataW.trod_int Tryz.underlying3 g0
        obtain ⟨a, len, cap, zs, e1, hr⟩ := trod_bytes g1
        obtain ⟨b0, e2, _⟩ := DataW.trod_bool Tryz.underlying4 f0
        obtain ⟨b1, e3, _⟩ := DataW.trod_bool Tryz.underlying4 f1
        obtain ⟨a2, e4, _⟩ := DataW.trod_int Tryz.underlying3 f2
        obtain ⟨b3, e5, _⟩ := DataW.trod_bool Tryz.underlying4 f3
        obtain ⟨a3, e6, _⟩ := DataW.trod_int Tryz.underlying3 g3
        obtain ⟨a4, e7, _, w4⟩ := DataW.trod_int Tryz.underlying5 g4
        simp at e0 e2 e3 e4 e5 e6 e7
        subst e0 e1 e2 e3 e4 e5 e6 e7
        exact ⟨a0, a, len, cap, zs, b0, b1, a2, b3, a3, a4, rfl, hr, w4⟩
/-- An order that came in, in memory. -/
theorem ordAt_of {a : Addr} {cs : List Value} {n : Nat} {x : DataW H × List MemPlace} (hc : W.cells? base a 8 = some cs) (hf : DataW.trod enc Tryz.prog W base (fun _ => true) held n 49 cs = some x) :
    ∃ o : O, a = ⟨a.block, a.off, none⟩ ∧ OrdAt W 0 a.block a.off o ∧ (∀ y ∈ o.t, y < 256) ∧ o.c < 256 := by
  obtain ⟨_, hl, hat⟩ := World.cells?_some hc
  obtain ⟨k, ta, tn, tc, zs, p, m, s, q, ad, c, rfl, hr, hw⟩ := trod_order hl hf
  obtain ⟨xs, hx, h8, hB⟩ := isRow_bytes hr
  have hw := wf_u8 hw
  obtain ⟨c, rfl⟩ := Int.eq_ofNat_of_zero_le (a := c) (by omega)
  have h0 := hat 0 (by decide)
  rw [show a.add 0 = a from rfl] at h0
  have ha : a = ⟨a.block, a.off, none⟩ := spot_of_cell (h0.trans rfl)
  refine ⟨⟨k, xs, p, m, s, q, ad, c⟩, ha, ⟨ta, tn, tc, fun j u hj => ?_, hB, isRow_nil hr, fun _ _ => Nat.zero_le _⟩, h8, by simp only; omega⟩
  have hj8 : j < 8 := by
    rcases Nat.lt_or_ge j 8 with h' | h'
    · exact h'
    · rw [List.getElem?_eq_none (by simp [ocells]; omega)] at hj; cases hj
  have h1 := hat j hj8
  rw [ha, Addr.add_mid] at h1
  rw [h1]; exact hj
/-- A slice of orders that came in. -/
theorem trod_orders {n : Nat} {c : Value} {y : DataW H × List MemPlace} (h : DataW.trod enc Tryz.prog W base (fun _ => true) held n 27 [c] = some y) :
    ∃ os : List O, OrdsIn W 0 c os ∧ (∀ o ∈ os, (∀ x ∈ o.t, x < 256) ∧ o.c < 256) ∧ os.length ≤ maxLen := by
  have hC : Tryz.prog.cellsOf 49 = 8 := by kernel_rfl
  rcases open_slice Tryz.underlying27 h with ⟨hcs, _⟩ | ⟨a, len, cap, m, k, D, Pl, hcs, _, hl, hm, hmm, _, hx⟩
  · injection hcs with e _
    subst e
    exact ⟨[], ordsIn_nil _ _, nofun, Nat.zero_le _⟩
  · injection hcs with e _
    subst e
    rw [if_pos rfl] at hmm
    subst hmm
    rw [hC] at hx
    have : ∀ i, i < len → ∃ o : O, a.add (i * 8) = ⟨(a.add (i * 8)).block, (a.add (i * 8)).off, none⟩ ∧ OrdAt W 0 (a.add (i * 8)).block (a.add (i * 8)).off o ∧ (∀ y ∈ o.t, y < 256) ∧ o.c < 256 := fun i hi => by
      obtain ⟨cs', h1, h2⟩ := hx i (by omega)
      exact ordAt_of h1 h2
    have ⟨f, hf⟩ : ∃ f : Nat → O, ∀ i, i < len → a.add (i * 8) = ⟨(a.add (i * 8)).block, (a.add (i * 8)).off, none⟩ ∧ OrdAt W 0 (a.add (i * 8)).block (a.add (i * 8)).off (f i) ∧ (∀ y ∈ (f i).t, y < 256) ∧ (f i).c < 256 := by
      classical
      refine ⟨fun i => if hi : i < len then Classical.choose (this i hi) else none_, fun i hi => ?_⟩
      simp only [dif_pos hi]
      exact Classical.choose_spec (this i hi)
    have hgd : ∀ i, i < len → ((List.range len).map f).getD i none_ = f i := fun i hi => by simp [List.getD_eq_getElem?_getD, hi]
    refine ⟨(List.range len).map f, ⟨some a, m, by simp, by simpa using hl, nofun, ?_⟩, fun o ho => ?_, by simp; omega⟩
    · by_cases h0 : len = 0
      · exact .inl (by subst h0; rfl)
      · have ha := (hf 0 (by omega)).1
        rw [Nat.zero_mul, show a.add 0 = a from rfl] at ha
        refine .inr ⟨a.block, a.off, by rw [← ha], Nat.zero_le _, fun i hi => ?_⟩
        simp only [List.length_map, List.length_range] at hi
        rw [hgd i hi]
        have h2 := (hf i hi).2.1
        rw [ha, Addr.add_mid] at h2
        exact h2
    · simp only [List.mem_map, List.mem_range] at ho
      obtain ⟨i, hi, rfl⟩ := ho
      exact (hf i hi).2.2
set_option maxRecDepth 100000 in
theorem open_out (hv : Value.okWide Tryz.prog W r b0 29 v) (h : DataW.Trod enc Tryz.prog W base (fun _ => true) held 29 v d p) :
    ∃ (cmd : Int) (a u rs : Bool) (ov : Value) (os : List O), v = .agg #[.int .i64 cmd, .bool a, .bool u, .bool rs, ov] ∧ OrdsIn W 0 ov os ∧ (∀ o ∈ os, (∀ x ∈ o.t, x < 256) ∧ o.c < 256) ∧ os.length ≤ maxLen := by
  obtain ⟨cs, rfl, hsz⟩ := okWide_struct Tryz.underlying29 hv
  have hC : Tryz.prog.cellsOf 29 = 5 := by kernel_rfl
  have k0 : Tryz.prog.cellsOf 3 = 1 := by kernel_rfl
  have k1 : Tryz.prog.cellsOf 27 = 1 := by kernel_rfl
  have k2 : Tryz.prog.cellsOf 26 = 3 := by kernel_rfl
  have k4 : Tryz.prog.cellsOf 4 = 1 := by kernel_rfl
  obtain ⟨l⟩ := cs
  match l, hsz.trans hC with
  | [c0, c1, c2, c3, c4], _ =>
    obtain ⟨fuel, hf⟩ := h
    obtain ⟨xs, n, _, _, _, hlen, hg⟩ := DataW.trod_struct Tryz.underlying29 hf
    match xs, hlen with
    | [y0, y1, y2], _ =>
      have g0 := hg 0 _ rfl
      have g1 := hg 1 _ rfl
      have g2 := hg 2 _ rfl
      simp [Value.cells, k0] at g0
      simp [Value.cells, k2] at g1
      simp [Value.cells, k1] at g2
      obtain ⟨ys, n2, _, _, _, hlen2, hg2⟩ := DataW.trod_struct Tryz.underlying26 g1
      match ys, hlen2 with
      | [z0, z1, z2], _ =>
        have f0 := hg2 0 _ rfl
        have f1 := hg2 1 _ rfl
        have f2 := hg2 2 _ rfl
        simp [k4] at f0
        simp [k4] at f1
        simp [k4] at f2
        obtain ⟨a0, e0, _⟩ := DataW.trod_int Tryz.underlying3 g0
        obtain ⟨b0, e2, _⟩ := DataW.trod_bool Tryz.underlying4 f0
        obtain ⟨b1, e3, _⟩ := DataW.trod_bool Tryz.underlying4 f1
        obtain ⟨b2, e4, _⟩ := DataW.trod_bool Tryz.underlying4 f2
        obtain ⟨os, ho, hs, hm⟩ := trod_orders g2
        simp at e0 e2 e3 e4
        subst e0 e2 e3 e4
        exact ⟨a0, b0, b1, b2, c4, os, rfl, ho, hs, hm⟩
end
end Opn
end Go.Proofs.YtkobodoejpioeaaGreatDoor
