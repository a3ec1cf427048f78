/- Arguments that are an api.Screen, or an api.Cell. -/
import Derived.Test.YtpdlpmbjhopnnaaGreatDoorBunGrd
import Derived.Test.YtpdlpmbjhopnnaaGreatDoorBunBase
import Derived.WalkKit
import Derived.ProofKit
import Derived.OpenShut
import Derived.Lib.SmallJoins
import Derived.Deep.Slices
namespace Go.Proofs.YtpdlpmbjhopnnaaGreatDoor
open Go.ChangeShapes Go.WideShapes Go.RowKit Go.Joins Go.Deep Sha Grd
namespace Opn
section
variable {H : Type} {enc : TypeId × Value → H} {W : World} {base b0 : Nat} {held : Bool} {r : Reach} {v : Value} {d : DataW H} {p : List MemPlace}
set_option maxRecDepth 100000 in
theorem trod_cell {fuel : Nat} {cs : List Value} {x : DataW H × List MemPlace} (hl : cs.length = 6) (hf : DataW.trod enc Tryz.prog W base (fun _ => true) held fuel 64 cs = some x) :
    ∃ o : C, cs = ccells o ∧ o.c < 256 ∧ IntKind.i64.wrap o.s = o.s := by
  have k0 : Tryz.prog.cellsOf 3 = 1 := by kernel_rfl
  have k2 : Tryz.prog.cellsOf 62 = 4 := by kernel_rfl
  have k3 : Tryz.prog.cellsOf 5 = 1 := by kernel_rfl
  have k4 : Tryz.prog.cellsOf 4 = 1 := by kernel_rfl
  match cs, hl with
  | [c0, c1, c2, c3, c4, c5], _ =>
    obtain ⟨xs, n, _, _, _, hlen, hg⟩ := DataW.trod_struct Tryz.underlying64 hf
    match xs, hlen with
    | [y0, y1, y2], _ =>
      have g0 := hg 0 _ rfl
      have g1 := hg 1 _ rfl
      have g2 := hg 2 _ rfl
      simp [k4] at g0
      simp [k2] at g1
      simp [k3] at g2
      obtain ⟨ys, n2, _, _, _, hlen2, hg2⟩ := DataW.trod_struct Tryz.underlying62 g1
      match ys, hlen2 with
      | [z0, z1, z2, z3], _ =>
        have f0 := hg2 0 _ rfl
        have f1 := hg2 1 _ rfl
        have f2 := hg2 2 _ rfl
        have f3 := hg2 3 _ rfl
        simp [k4] at f0
        simp [k4] at f1
        simp [k0] at f2
        simp [k4] at f3
        obtain ⟨a0, e0, _⟩ := DataW.trod_bool Tryz.underlying4 g0
        obtain ⟨a1, e1, _⟩ := DataW.trod_bool Tryz.underlying4 f0
        obtain ⟨a2, e2, _⟩ := DataW.trod_bool Tryz.underlying4 f1
        obtain ⟨a3, e3, _, w3⟩ := DataW.trod_int Tryz.underlying3 f2
        obtain ⟨a4, e4, _⟩ := DataW.trod_bool Tryz.underlying4 f3
        obtain ⟨a5, e5, _, w5⟩ := DataW.trod_int Tryz.underlying5 g2
        simp at e0 e1 e2 e3 e4 e5
        subst e0 e1 e2 e3 e4 e5
        have hw := Go.Proofs.YtpdlpmbjhopnnaaGreatDoor.Ord.wf_u8 w5
        obtain ⟨c, rfl⟩ := Int.eq_ofNat_of_zero_le (a := a5) (by omega)
        exact ⟨⟨a0, a1, a2, a3, a4, c⟩, rfl, by simp only; omega, by have := bounds_i64 w3; exact IntWalk.i64_in _ (by omega)⟩
theorem cell_of {a : Addr} {cs : List Value} {n : Nat} {x : DataW H × List MemPlace} (hc : W.cells? base a 6 = some cs) (hf : DataW.trod enc Tryz.prog W base (fun _ => true) held n 64 cs = some x) :
    ∃ o : C, a = ⟨a.block, a.off, none⟩ ∧ (∀ j u, (ccells o)[j]? = some u → W.cell? ⟨a.block, a.off + j, none⟩ = some u) ∧ o.c < 256 ∧ IntKind.i64.wrap o.s = o.s := by
  obtain ⟨_, hl, hat⟩ := World.cells?_some hc
  obtain ⟨o, rfl, h8, hs⟩ := trod_cell hl hf
  have h0 := hat 0 (by decide)
  rw [show a.add 0 = a from rfl] at h0
  have ha : a = ⟨a.block, a.off, none⟩ := spot_of_cell (h0.trans rfl)
  refine ⟨o, ha, fun j u hj => ?_, h8, hs⟩
  have hj8 : j < 6 := by
    rcases Nat.lt_or_ge j 6 with h' | h'
    · exact h'
    · rw [List.getElem?_eq_none (by simp [ccells]; omega)] at hj; cases hj
  have h1 := hat j hj8
  rw [ha, Addr.add_mid] at h1
  rw [h1]; exact hj
/-- Cells that came in are sound. -/
def Wf (cs : List C) : Prop := ∀ o ∈ cs, o.c < 256 ∧ IntKind.i64.wrap o.s = o.s
theorem trod_cels {n : Nat} {c : Value} {y : DataW H × List MemPlace} (h : DataW.trod enc Tryz.prog W base (fun _ => true) held n 22 [c] = some y) :
    ∃ cs : List C, CelsIn W c cs ∧ Wf cs ∧ cs.length ≤ maxLen := by
  have hC : Tryz.prog.cellsOf 64 = 6 := by kernel_rfl
  rcases open_slice Tryz.underlying22 h with ⟨hcs, _⟩ | ⟨a, len, cap, m, k, D, Pl, hcs, _, hl, hm, hmm, _, hx⟩
  · injection hcs with e _
    subst e
    exact ⟨[], ⟨none, 0, rfl, Nat.le_refl _, fun _ => ⟨rfl, rfl⟩, .inl rfl⟩, nofun, Nat.zero_le _⟩
  · injection hcs with e _
    subst e
    rw [if_pos rfl] at hmm
    subst hmm
    rw [hC] at hx
    have : ∀ i, i < len → ∃ o : C, a.add (i * 6) = ⟨(a.add (i * 6)).block, (a.add (i * 6)).off, none⟩ ∧ (∀ j u, (ccells o)[j]? = some u → W.cell? ⟨(a.add (i * 6)).block, (a.add (i * 6)).off + j, none⟩ = some u) ∧ o.c < 256 ∧ IntKind.i64.wrap o.s = o.s := fun i hi => by
      obtain ⟨cs', h1, h2⟩ := hx i (by omega)
      exact cell_of h1 h2
    have ⟨f, hf⟩ : ∃ f : Nat → C, ∀ i, i < len → a.add (i * 6) = ⟨(a.add (i * 6)).block, (a.add (i * 6)).off, none⟩ ∧ (∀ j u, (ccells (f i))[j]? = some u → W.cell? ⟨(a.add (i * 6)).block, (a.add (i * 6)).off + j, none⟩ = some u) ∧ (f i).c < 256 ∧ IntKind.i64.wrap (f i).s = (f i).s := by
      classical
      refine ⟨fun i => if hi : i < len then Classical.choose (this i hi) else noC, fun i hi => ?_⟩
      simp only [dif_pos hi]
      exact Classical.choose_spec (this i hi)
    have hgd : ∀ i, i < len → ((List.range len).map f).getD i noC = f i := fun i hi => by simp [List.getD_eq_getElem?_getD, hi]
    refine ⟨(List.range len).map f, ⟨some a, m, by simp, by simpa using hl, nofun, ?_⟩, fun o ho => ?_, by simp; omega⟩
    · by_cases h0 : len = 0
      · exact .inl (by subst h0; rfl)
      · have ha := (hf 0 (by omega)).1
        rw [Nat.zero_mul, show a.add 0 = a from rfl] at ha
        refine .inr ⟨a.block, a.off, by rw [← ha], fun i hi j u hu => ?_⟩
        simp only [List.length_map, List.length_range] at hi
        rw [hgd i hi] at hu
        have h2 := (hf i hi).2.1 j u hu
        rw [ha, Addr.add_mid] at h2
        exact h2
    · simp only [List.mem_map, List.mem_range] at ho
      obtain ⟨i, hi, rfl⟩ := ho
      exact (hf i hi).2.2
set_option maxRecDepth 100000 in
theorem open_screen (hv : Value.okWide Tryz.prog W r b0 24 v) (h : DataW.Trod enc Tryz.prog W base (fun _ => true) held 24 v d p) :
    ∃ (s : S) (ad : Option Addr) (k : Nat), v = .agg #[.int .i64 s.rows, .int .i64 s.cols, .slice ad s.cs.length k, .int .i64 s.cur, .bool s.lk, .bool s.ins] ∧ CelsIn W (.slice ad s.cs.length k) s.cs ∧ Wf s.cs ∧ s.cs.length ≤ maxLen := by
  obtain ⟨cs, rfl, hsz⟩ := okWide_struct Tryz.underlying24 hv
  have hC : Tryz.prog.cellsOf 24 = 6 := by kernel_rfl
  have k0 : Tryz.prog.cellsOf 3 = 1 := by kernel_rfl
  have k1 : Tryz.prog.cellsOf 22 = 1 := by kernel_rfl
  have k4 : Tryz.prog.cellsOf 4 = 1 := by kernel_rfl
  obtain ⟨l⟩ := cs
  match l, hsz.trans hC with
  | [c0, c1, c2, c3, c4, c5], _ =>
    obtain ⟨fuel, hf⟩ := h
    obtain ⟨xs, n, _, _, _, hlen, hg⟩ := DataW.trod_struct Tryz.underlying24 hf
    match xs, hlen with
    | [y0, y1, y2, y3, y4, y5], _ =>
      have g0 := hg 0 _ rfl
      have g1 := hg 1 _ rfl
      have g2 := hg 2 _ rfl
      have g3 := hg 3 _ rfl
      have g4 := hg 4 _ rfl
      have g5 := hg 5 _ rfl
      simp [Value.cells, k0] at g0
      simp [Value.cells, k0] at g1
      simp [Value.cells, k1] at g2
      simp [Value.cells, k0] at g3
      simp [Value.cells, k4] at g4
      simp [Value.cells, k4] at g5
      obtain ⟨a0, e0, _⟩ := DataW.trod_int Tryz.underlying3 g0
      obtain ⟨a1, e1, _⟩ := DataW.trod_int Tryz.underlying3 g1
      obtain ⟨os, ho, hs, hm⟩ := trod_cels g2
      obtain ⟨a3, e3, _⟩ := DataW.trod_int Tryz.underlying3 g3
      obtain ⟨a4, e4, _⟩ := DataW.trod_bool Tryz.underlying4 g4
      obtain ⟨a5, e5, _⟩ := DataW.trod_bool Tryz.underlying4 g5
      simp at e0 e1 e3 e4 e5
      subst e0 e1 e3 e4 e5
      obtain ⟨ad, k, rfl, _⟩ := ho.form
      exact ⟨⟨a0, a1, os, a3, a4, a5⟩, ad, k, rfl, ho, hs, hm⟩
set_option maxRecDepth 100000 in
theorem open_cell (hv : Value.okWide Tryz.prog W r b0 64 v) (h : DataW.Trod enc Tryz.prog W base (fun _ => true) held 64 v d p) :
    ∃ o : C, v = .agg #[.bool o.f, .bool o.p, .bool o.n, .int .i64 o.s, .bool o.m, .int .u8 (o.c : Int)] ∧ o.c < 256 ∧ IntKind.i64.wrap o.s = o.s := by
  obtain ⟨cs, rfl, hsz⟩ := okWide_struct Tryz.underlying64 hv
  have hC : Tryz.prog.cellsOf 64 = 6 := by kernel_rfl
  obtain ⟨l⟩ := cs
  obtain ⟨fuel, hf⟩ := h
  obtain ⟨o, ho, h8, hs⟩ := trod_cell (hsz.trans hC) hf
  simp at ho
  subst ho
  exact ⟨o, rfl, h8, hs⟩
end
end Opn
namespace Grd
theorem wf_sound {cs : List C} (h : Opn.Wf cs) : Sound cs := fun o ho => (h o ho).1
end Grd
end Go.Proofs.YtpdlpmbjhopnnaaGreatDoor
