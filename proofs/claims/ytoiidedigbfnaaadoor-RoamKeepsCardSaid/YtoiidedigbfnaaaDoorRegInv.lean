/- A region that draws, by an invariant: each operation is walked once, in whatever order they come. -/
import Derived.Test.YtoiidedigbfnaaaDoorBunFru
import Derived.Deep.RegionHeld3
import Derived.Lib.SmallJoins
namespace Go.Proofs.YtoiidedigbfnaaaDoor
open Go.RowKit Sha Six Apd Cut Err Frm
set_option linter.unusedVariables false
set_option linter.unusedSimpArgs false
namespace Reg
section
variable {P : Program} {ops : Array Oper} {Q : Exit → Act → World → Prop}
theorem mem_ready {i : Nat} {l : Array Bool} : i ∈ Region.ready .any ops l ↔ i < ops.size ∧ l.getD i true = false ∧ ((ops[i]?).map (·.after.all fun e => !Region.binds .any e || l.getD e.on false)).getD false = true := by
  simp [Region.ready]
theorem count_set {l : Array Bool} {i : Nat} (h : l.getD i true = false) : (l.setIfInBounds i true).toList.count false + 1 = l.toList.count false := by
  have hi : i < l.size := by
    refine Classical.byContradiction fun hn => ?_
    rw [Array.getD_eq_getD_getElem?, Array.getElem?_eq_none (by omega)] at h
    cases h
  have hv : l.toList[i]'(by simpa using hi) = false := by
    rw [Array.getD_eq_getD_getElem?, Array.getElem?_eq_getElem hi] at h
    simpa using h
  have hp : 0 < l.toList.count false := List.count_pos_iff.2 (by rw [← hv]; exact List.getElem_mem _)
  rw [Array.toList_setIfInBounds, List.count_set (by simpa using hi), hv]
  simp only [beq_self_eq_true, if_true, show (true == false) = false from rfl, Bool.false_eq_true, if_false]
  omega
theorem wpAny_inv (J : Array Bool → Act → World → Prop)
    (hstep : ∀ l a w i, l.size = ops.size → J l a w → i ∈ Region.ready .any ops l → wpOp P ops Q i (J (l.setIfInBounds i true)) a w)
    (hend : ∀ l a w, l.size = ops.size → J l a w → Region.ready .any ops l = [] → Q .normal a w) :
    ∀ fuel l a w, l.size = ops.size → l.toList.count false ≤ fuel → J l a w → wpAny P .any ops Q fuel l a w
  | 0, l, a, w, hs, hc, hj => by
    have hr : Region.ready .any ops l = [] := List.eq_nil_iff_forall_not_mem.2 fun i hi => by
      have := count_set (mem_ready.1 hi).2.1
      omega
    exact ⟨hr, hend l a w hs hj hr⟩
  | fuel + 1, l, a, w, hs, hc, hj => ⟨hend l a w hs hj, fun i hi => wpOp_mono (fun a' w' h => wpAny_inv J hstep hend fuel _ a' w' (by simpa using hs) (by have := count_set (mem_ready.1 hi).2.1; omega) h) (hstep l a w i hs hj hi)⟩
/-- An operation's turn has come. -/
def L (l : Array Bool) (j : Nat) : Prop := l.getD j false = true
def deps (ops : Array Oper) (i : Nat) : List Nat := ((ops[i]?).map fun o => (o.after.toList.filter (Region.binds .any)).map (·.on)).getD []
theorem dep {i d : Nat} {l : Array Bool} (hi : i ∈ Region.ready .any ops l) (hd : (deps ops i).contains d = true) : L l d := by
  obtain ⟨h1, _, h3⟩ := mem_ready.1 hi
  unfold deps at hd
  rw [Array.getElem?_eq_getElem h1] at h3 hd
  simp only [Option.map_some, Option.getD_some] at h3 hd
  have hm := List.contains_iff_mem.1 hd
  simp only [List.mem_map, List.mem_filter] at hm
  obtain ⟨e, ⟨he, hb⟩, rfl⟩ := hm
  have := Array.all_eq_true_iff_forall_mem.1 h3 e (Array.mem_toList_iff.1 he)
  rw [hb] at this
  simpa [L] using this
theorem turn {i : Nat} {l : Array Bool} (hi : i ∈ Region.ready .any ops l) : ¬ L l i ∧ i < ops.size := by
  obtain ⟨h1, h2, _⟩ := mem_ready.1 hi
  refine ⟨fun h => ?_, h1⟩
  unfold L at h
  rw [Array.getD_eq_getD_getElem?] at h h2
  cases hx : l[i]? with
  | none => rw [hx] at h; cases h
  | some b => rw [hx] at h h2; simp at h h2; rw [h] at h2; cases h2
theorem set_ne {l : Array Bool} {i j : Nat} (hne : i ≠ j) (h : L (l.setIfInBounds i true) j) : L l j := by
  unfold L at *
  rw [Array.getD_eq_getD_getElem?] at *
  rwa [Array.getElem?_setIfInBounds_ne hne] at h
theorem no_set {l : Array Bool} {i j : Nat} (h : L l j) (hs : j < l.size) : L (l.setIfInBounds i true) j := by
  unfold L at *
  rw [Array.getD_eq_getD_getElem?] at *
  rw [Array.getElem?_setIfInBounds]
  split
  · rename_i e
    subst e
    rw [if_pos hs]; rfl
  · exact h
theorem set_self {l : Array Bool} {i : Nat} (hs : i < l.size) : L (l.setIfInBounds i true) i := by
  unfold L
  rw [Array.getD_eq_getD_getElem?, Array.getElem?_setIfInBounds_self_of_lt hs]
  rfl
theorem L_none {n j : Nat} (h : L (Array.replicate n false) j) : False := by
  unfold L at h
  rw [Array.getD_eq_getD_getElem?, Array.getElem?_replicate] at h
  split at h <;> cases h
/-- Behind all of them. -/
theorem all_done {l : Array Bool} (hs : l.size = ops.size) (h : Region.ready .any ops l = []) (i : Nat) (hi : i < ops.size) (hd : ∀ d ∈ deps ops i, L l d) : L l i := by
  refine Classical.byContradiction fun hn => ?_
  have : i ∈ Region.ready .any ops l := mem_ready.2 ⟨hi, by
    unfold L at hn
    rw [Array.getD_eq_getD_getElem?, Array.getElem?_eq_getElem (by omega)] at *
    simpa using hn, by
    unfold deps at hd
    rw [Array.getElem?_eq_getElem hi] at hd ⊢
    simp only [Option.map_some, Option.getD_some] at hd ⊢
    refine Array.all_eq_true_iff_forall_mem.2 fun e he => ?_
    cases hb : Region.binds .any e with
    | false => rfl
    | true =>
      have := hd e.on (List.mem_map.2 ⟨e, List.mem_filter.2 ⟨Array.mem_toList_iff.2 he, hb⟩, rfl⟩)
      simpa [L] using this⟩
  rw [h] at this
  cases this
theorem done {l : Array Bool} (hs : l.size = ops.size) (h : Region.ready .any ops l = []) (hc : ((List.range ops.size).all fun i => (deps ops i).all fun d => decide (d < i)) = true) (i : Nat) (hi : i < ops.size) : L l i := by
  induction i using Nat.strongRecOn with
  | _ i ih =>
    refine all_done hs h i hi fun d hd => ?_
    have h1 := List.all_eq_true.1 hc i (List.mem_range.2 hi)
    have h2 := of_decide_eq_true (List.all_eq_true.1 h1 d hd)
    exact ih d h2 (by omega)
/-- What has had its turn has had it behind what it waits for. -/
def Down (ops : Array Oper) (l : Array Bool) : Prop := ∀ j d, L l j → (deps ops j).contains d = true → L l d
theorem Down.step {l : Array Bool} {i : Nat} (h : Down ops l) (hs : l.size = ops.size) (hi : i ∈ Region.ready .any ops l) : Down ops (l.setIfInBounds i true) := fun j d hj hd => by
  have hlt : ∀ {d}, L l d → d < l.size := fun {d} hL => by
    refine Classical.byContradiction fun hn => ?_
    unfold L at hL
    rw [Array.getD_eq_getD_getElem?, Array.getElem?_eq_none (by omega)] at hL
    cases hL
  by_cases hij : i = j
  · subst hij
    have := dep hi hd
    exact no_set this (hlt this)
  · have := h j d (set_ne hij hj) hd
    exact no_set this (hlt this)
/-- The first frame, with these slots over it. -/
def over (a : Act) (ns : List (Nat × Value)) : Act := ⟨ns.foldl (fun t p => t.setIfInBounds p.1 p.2) a.tmps, a.defers⟩
theorem over_self (a : Act) : ∀ ss : List Nat, over a (ss.map fun s => (s, a.tmps.getD s undef)) = a
  | [] => rfl
  | s :: ss => by
    have h : a.tmps.setIfInBounds s (a.tmps.getD s undef) = a.tmps := by
      refine Array.ext_getElem? fun i => ?_
      rw [Array.getElem?_setIfInBounds]
      split
      · rename_i e
        subst e
        split
        · rename_i hs
          rw [Array.getElem?_eq_getElem hs]; rfl
        · rename_i hs
          rw [Array.getElem?_eq_none (by omega)]
      · rfl
    have := over_self a ss
    unfold over at *
    simp only [List.map_cons, List.foldl_cons, h]
    exact this
theorem wp_region_inv {id : Nat} {a : Act} {w : World} (hm : P.follows .mixedOrders = true) (J : Act → Array Bool → Act → World → Prop)
    (h0 : J a (Array.replicate ops.size false) a w.drew)
    (hstep : ∀ l a' w' i, l.size = ops.size → Down ops l → J a l a' w' → i ∈ Region.ready .any ops l → wpOp P ops Q i (J a (l.setIfInBounds i true)) a' w')
    (hend : ∀ l a' w', l.size = ops.size → J a l a' w' → Region.ready .any ops l = [] → Q .normal a' w') : (Code.region id ops true).wp P Q a w :=
  wp_region_any hm (wpAny_inv (fun l a' w' => Down ops l ∧ J a l a' w') (fun l a' w' i hs hj hi => wpOp_mono (fun _ _ h => ⟨hj.1.step hs hi, h⟩) (hstep l a' w' i hs hj.1 hj.2 hi)) (fun l a' w' hs hj => hend l a' w' hs hj.2) _ _ _ _ (by simp) (by simp [List.count_replicate]) ⟨fun j d h _ => (L_none h).elim, h0⟩)
end
/-! What stays where a block is marked. -/
theorem freeze_heap {w : World} {g k : Nat} {c : Array Value} {e : TypeId} (h : w.heap[g]? = some (.cells c e (0, 0))) : (w.freeze ⟨g, k, none⟩ 1).heap[g]? = some (.cells c e (k, k + 1)) := by
  unfold World.freeze
  rw [if_neg (by decide)]
  simp [Array.getElem?_modify, h]
theorem freeze_other {w : World} {g b k : Nat} (hne : b ≠ g) : (w.freeze ⟨g, k, none⟩ 1).heap[b]? = w.heap[b]? := by
  unfold World.freeze
  rw [if_neg (by decide)]
  simp [Array.getElem?_modify, Ne.symm hne]
theorem freeze_cell (w : World) (g k : Nat) (p : Addr) : (w.freeze ⟨g, k, none⟩ 1).cell? p = w.cell? p := by
  unfold World.cell?
  by_cases h : p.block = g
  · unfold World.freeze
    rw [if_neg (by decide)]
    simp only [Array.getElem?_modify, h, if_true]
    cases w.heap[g]? with
    | none => rfl
    | some o => cases o <;> rfl
  · rw [freeze_other h]
theorem freeze_size (w : World) (g k : Nat) : (w.freeze ⟨g, k, none⟩ 1).heap.size = w.heap.size := by
  unfold World.freeze; rw [if_neg (by decide)]; simp
theorem freeze_grown (w : World) (g k : Nat) : w.grownBy (w.freeze ⟨g, k, none⟩ 1) (some g) := by
  unfold World.freeze
  rw [if_neg (by decide)]
  refine ⟨rfl, rfl, rfl, by simp, fun b _ hb => ?_⟩
  have hne : g ≠ b := fun e => hb (by rw [e])
  simp [Array.getElem?_modify, hne]
theorem ne_of_obj {w : World} {a b : Nat} {x y : Obj} (ha : w.heap[a]? = some x) (hb : w.heap[b]? = some y) (h : x ≠ y) : a ≠ b := fun e => by
  subst e; rw [ha] at hb; exact h (by injection hb)
theorem run_conv {P : Program} (w : World) (t e : TypeId) (C : Array Value) (n c g : Nat) (hw : w.heap[g]? = some (.cells C e (0, 0))) (ht : P.underlying t = some (.slice e)) (he : P.underlying e = some (.int .u8)) :
    (convert t t (.slice (some ⟨g, 0, none⟩) n c)).run P w = .ok (.slice (some ⟨g, 0, none⟩) n c) (w.freeze ⟨g, C.size, none⟩ 1) := by
  have hsh : w.shape? g = some (e, C.size) := by unfold World.shape?; rw [hw]
  simp [convert, run_underlying ht, run_underlying he, markStringish, hsh]
theorem Byts.freeze {w : World} {a : Option Addr} {c : Nat} {xs : List Nat} (h : Byts w a c xs) (g k : Nat) : Byts (w.freeze ⟨g, k, none⟩ 1) a c xs := by
  obtain ⟨⟨a', c', e, hl, hc⟩, h8, hn⟩ := h
  refine ⟨⟨a', c', e, hl, ?_⟩, h8, hn⟩
  rcases hc with hc | ⟨b, o, e2, hc⟩
  · exact .inl hc
  · exact .inr ⟨b, o, e2, fun j hj => (freeze_cell w g k _).trans (hc j hj)⟩
theorem byts_lit {w : World} {g x : Nat} {m : Nat × Nat} (h : w.heap[g]? = some (.cells #[.int .u8 (x : Int)] 5 m)) (hx : x < 256) : Byts w (some ⟨g, 0, none⟩) 1 [x] :=
  ⟨⟨_, _, rfl, Nat.le_refl _, .inr ⟨_, 0, rfl, fun j hj => by
    have h0 : j = 0 := by simp at hj; omega
    subst h0
    show World.cell? _ ⟨g, 0 + 0, none⟩ = _
    simp [World.cell?, h]⟩⟩, by simpa using hx, nofun⟩
theorem byts_lit2 {w : World} {g x y : Nat} {m : Nat × Nat} (h : w.heap[g]? = some (.cells #[.int .u8 (x : Int), .int .u8 (y : Int)] 5 m)) (hx : x < 256) (hy : y < 256) : Byts w (some ⟨g, 0, none⟩) 2 [x, y] :=
  ⟨⟨_, _, rfl, Nat.le_refl _, .inr ⟨_, 0, rfl, fun j hj => by
    show World.cell? _ ⟨g, 0 + j, none⟩ = _
    rw [Nat.zero_add]
    have h0 : j = 0 ∨ j = 1 := by simp at hj; omega
    rcases h0 with rfl | rfl <;> simp [World.cell?, h]⟩⟩, by simp; exact ⟨hx, hy⟩, nofun⟩
theorem byts_grown {w w' : World} {g0 : Nat} {a : Option Addr} {c : Nat} {xs : List Nat} (hgr : w.grownBy w' (some g0)) (hno : ∀ i x, w.cell? ⟨g0, i, none⟩ ≠ some (.int .u8 x)) (h : Byts w a c xs) : Byts w' a c xs := by
  obtain ⟨⟨a', c', e, hl, hc⟩, h8, hn⟩ := h
  refine ⟨⟨a', c', e, hl, ?_⟩, h8, hn⟩
  rcases hc with hc | ⟨b, o, e2, hc⟩
  · exact .inl hc
  · refine .inr ⟨b, o, e2, fun j hj => ?_⟩
    have h1 := hc j hj
    have hne : b ≠ g0 := fun e => by subst e; exact hno _ _ h1
    have hb := hgr.block b (block_lt_of_cell (a := ⟨b, o + j, none⟩) h1) (by intro h; injection h with h; exact hne h)
    rw [← h1]
    unfold World.cell?
    simp only [hb]
theorem no_u8 {w : World} {g : Nat} {cs : Array Value} {t : TypeId} {m : Nat × Nat} (h : w.heap[g]? = some (.cells cs t m)) (hc : ∀ v ∈ cs.toList, ∀ x, v ≠ .int .u8 x) : ∀ i x, w.cell? ⟨g, i, none⟩ ≠ some (.int .u8 x) := fun i x e => by
  unfold World.cell? at e
  simp only [h] at e
  simp at e
  exact hc _ (Array.mem_toList_iff.2 (Array.mem_of_getElem? e)) x rfl
end Reg
end Go.Proofs.YtoiidedigbfnaaaDoor
