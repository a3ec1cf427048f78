/- An argument that is an api.In: its cells, and its fields. -/
import Derived.Test.YthjocmcafoifbaaDoorInpMem
import Derived.Test.YthjocmcafoifbaaDoorBunBase
import Derived.WalkKit
import Derived.ProofKit
import Derived.OpenShut
import Derived.Lib.SmallJoins
import Derived.Deep.Slices
namespace Go.Proofs.YthjocmcafoifbaaDoor
open Go.ChangeShapes Go.WideShapes Go.RowKit Go.Joins Go.Deep Sha Inp
namespace Opn
section
variable {H : Type} {enc : TypeId × Value → H} {W : World} {base b0 : Nat} {held : Bool} {r : Reach} {v : Value} {d : DataW H} {p : List MemPlace}
set_option maxRecDepth 100000 in
theorem trod_bytes {n : Nat} {c : Value} {y : DataW H × List MemPlace} (h : DataW.trod enc Tryd.prog W base (fun _ => true) held n 22 [c] = some y) :
    ∃ (a : Option Addr) (len cap : Nat) (zs : List Int), c = .slice a len cap ∧ IsRow .u8 W a len cap zs := by
  rcases open_ints Tryd.underlying22 Tryd.underlying5 (by kernel_rfl) h with ⟨hcs, _⟩ | ⟨x, l, c, zs, hcs, _, hl, hm, hz, _, hcell, hwz⟩
  · injection hcs with e _
    exact ⟨none, 0, 0, [], e, .inl ⟨rfl, rfl, rfl, rfl⟩⟩
  · injection hcs with e _
    exact ⟨some x, l, c, zs, e, .inr ⟨_, rfl, hl, hm, by simpa using hz, hcell, hwz⟩⟩
set_option maxRecDepth 100000 in
theorem trod_field {fuel : Nat} {cs : List Value} {x : DataW H × List MemPlace} (hl : cs.length = 2) (hf : DataW.trod enc Tryd.prog W base (fun _ => true) held fuel 47 cs = some x) :
    ∃ (k : Int) (a : Option Addr) (len cap : Nat) (zs : List Int), cs = [.int .i64 k, .slice a len cap] ∧ IsRow .u8 W a len cap zs := by
  have k0 : Tryd.prog.cellsOf 3 = 1 := by kernel_rfl
  have k1 : Tryd.prog.cellsOf 22 = 1 := by kernel_rfl
  match cs, hl with
  | [c0, c1], _ =>
    obtain ⟨xs, n, _, _, _, hlen, hg⟩ := DataW.trod_struct Tryd.underlying47 hf
    match xs, hlen with
    | [y0, y1], _ =>
      have g0 := hg 0 _ rfl
      have g1 := hg 1 _ rfl
      simp [k0] at g0
      simp [k1] at g1
      obtain ⟨a0, e0, _⟩ := DataW.trod_int Tryd.underlying3 g0
      obtain ⟨a, len, cap, zs, e1, hr⟩ := trod_bytes g1
      simp at e0
      subst e0 e1
      exact ⟨a0, a, len, cap, zs, rfl, hr⟩
/-- A field that came in, in memory. -/
theorem fldAt_of {a : Addr} {cs : List Value} {n : Nat} {x : DataW H × List MemPlace} (hc : W.cells? base a 2 = some cs) (hf : DataW.trod enc Tryd.prog W base (fun _ => true) held n 47 cs = some x) :
    ∃ o : F, a = ⟨a.block, a.off, none⟩ ∧ FldAt W 0 a.block a.off o ∧ (∀ y ∈ o.t, y < 256) := by
  obtain ⟨_, hl, hat⟩ := World.cells?_some hc
  obtain ⟨k, ta, tn, tc, zs, rfl, hr⟩ := trod_field hl hf
  obtain ⟨xs, hx, h8, hB⟩ := isRow_bytes hr
  have h0 := hat 0 (by decide)
  rw [show a.add 0 = a from rfl] at h0
  have ha : a = ⟨a.block, a.off, none⟩ := spot_of_cell (h0.trans rfl)
  refine ⟨⟨k, xs⟩, ha, ⟨ta, tn, tc, fun j u hj => ?_, hB, isRow_nil hr, fun _ _ => Nat.zero_le _⟩, h8⟩
  have hj8 : j < 2 := by
    rcases Nat.lt_or_ge j 2 with h' | h'
    · exact h'
    · rw [List.getElem?_eq_none (by simp [fcells]; omega)] at hj; cases hj
  have h1 := hat j hj8
  rw [ha, Addr.add_mid] at h1
  rw [h1]; exact hj
/-- A slice of fields that came in. -/
theorem trod_fields {n : Nat} {c : Value} {y : DataW H × List MemPlace} (h : DataW.trod enc Tryd.prog W base (fun _ => true) held n 25 [c] = some y) :
    ∃ os : List F, FldsIn W 0 c os ∧ (∀ o ∈ os, ∀ x ∈ o.t, x < 256) ∧ os.length ≤ maxLen := by
  have hC : Tryd.prog.cellsOf 47 = 2 := by kernel_rfl
  rcases open_slice Tryd.underlying25 h with ⟨hcs, _⟩ | ⟨a, len, cap, m, k, D, Pl, hcs, _, hl, hm, hmm, _, hx⟩
  · injection hcs with e _
    subst e
    exact ⟨[], fldsIn_nil _ _, nofun, Nat.zero_le _⟩
  · injection hcs with e _
    subst e
    rw [if_pos rfl] at hmm
    subst hmm
    rw [hC] at hx
    have : ∀ i, i < len → ∃ o : F, a.add (i * 2) = ⟨(a.add (i * 2)).block, (a.add (i * 2)).off, none⟩ ∧ FldAt W 0 (a.add (i * 2)).block (a.add (i * 2)).off o ∧ (∀ y ∈ o.t, y < 256) := fun i hi => by
      obtain ⟨cs', h1, h2⟩ := hx i (by omega)
      exact fldAt_of h1 h2
    have ⟨f, hf⟩ : ∃ f : Nat → F, ∀ i, i < len → a.add (i * 2) = ⟨(a.add (i * 2)).block, (a.add (i * 2)).off, none⟩ ∧ FldAt W 0 (a.add (i * 2)).block (a.add (i * 2)).off (f i) ∧ (∀ y ∈ (f i).t, y < 256) := by
      classical
      refine ⟨fun i => if hi : i < len then Classical.choose (this i hi) else noneF, fun i hi => ?_⟩
      simp only [dif_pos hi]
      exact Classical.choose_spec (this i hi)
    have hgd : ∀ i, i < len → ((List.range len).map f).getD i noneF = f i := fun i hi => by simp [List.getD_eq_getElem?_getD, hi]
    refine ⟨(List.range len).map f, ⟨some a, m, by simp, by simpa using hl, nofun, ?_⟩, fun o ho => ?_, by simp; omega⟩
    · by_cases h0 : len = 0
      · exact .inl (by subst h0; rfl)
      · have ha := (hf 0 (by omega)).1
        rw [Nat.zero_mul, show a.add 0 = a from rfl] at ha
        refine .inr ⟨a.block, a.off, by rw [← ha], Nat.zero_le _, fun i hi => ?_⟩
        simp only [List.length_map, List.length_range] at hi
        rw [hgd i hi]
        have h2 := (hf i hi).2.1
        rw [ha, Addr.add_mid] at h2
        exact h2
    · simp only [List.mem_map, List.mem_range] at ho
      obtain ⟨i, hi, rfl⟩ := ho
      exact (hf i hi).2.2
set_option maxRecDepth 100000 in
theorem open_in (hv : Value.okWide Tryd.prog W r b0 27 v) (h : DataW.Trod enc Tryd.prog W base (fun _ => true) held 27 v d p) :
    ∃ (aid : Nat) (cur : Int) (ov : Value) (os : List F), v = .agg #[.int .u8 (aid : Int), .int .i64 cur, ov] ∧ aid < 256 ∧ FldsIn W 0 ov os ∧ (∀ o ∈ os, ∀ x ∈ o.t, x < 256) ∧ os.length ≤ maxLen := by
  obtain ⟨cs, rfl, hsz⟩ := okWide_struct Tryd.underlying27 hv
  have hC : Tryd.prog.cellsOf 27 = 3 := by kernel_rfl
  have k0 : Tryd.prog.cellsOf 3 = 1 := by kernel_rfl
  have k1 : Tryd.prog.cellsOf 25 = 1 := by kernel_rfl
  have k2 : Tryd.prog.cellsOf 5 = 1 := by kernel_rfl
  obtain ⟨l⟩ := cs
  match l, hsz.trans hC with
  | [c0, c1, c2], _ =>
    obtain ⟨fuel, hf⟩ := h
    obtain ⟨xs, n, _, _, _, hlen, hg⟩ := DataW.trod_struct Tryd.underlying27 hf
    match xs, hlen with
    | [y0, y1, y2], _ =>
      have g0 := hg 0 _ rfl
      have g1 := hg 1 _ rfl
      have g2 := hg 2 _ rfl
      simp [Value.cells, k2] at g0
      simp [Value.cells, k0] at g1
      simp [Value.cells, k1] at g2
      obtain ⟨a0, e0, _, w0⟩ := DataW.trod_int Tryd.underlying5 g0
      obtain ⟨a1, e1, _⟩ := DataW.trod_int Tryd.underlying3 g1
      obtain ⟨os, ho, hs, hm⟩ := trod_fields g2
      simp at e0 e1
      subst e0 e1
      have hw := Go.Proofs.YthjocmcafoifbaaDoor.Ord.wf_u8 w0
      obtain ⟨c, rfl⟩ := Int.eq_ofNat_of_zero_le (a := a0) (by omega)
      exact ⟨c, a1, c2, os, rfl, by omega, ho, hs, hm⟩
end
end Opn
end Go.Proofs.YthjocmcafoifbaaDoor
