/- StrOwn, RedOwn, RedInp, RedGave, RedLast, RedShape, RedLaw, RedGvb, RedBck in one text (by tools/bundle.py). -/
import Derived.Test.YtpdlpmbjhopnnaaGreatDoorBunStr
import Derived.Test.YtpdlpmbjhopnnaaGreatDoorBunBase
import Derived.Test.YtpdlpmbjhopnnaaGreatDoorBunRdp
import Derived.Test.YtpdlpmbjhopnnaaGreatDoorBunGrd
import Derived.Test.YtpdlpmbjhopnnaaGreatDoorBunInp
import Derived.Test.YtpdlpmbjhopnnaaGreatDoorBunScr
import Derived.Test.YtpdlpmbjhopnnaaGreatDoorBunErr
/- A slice of orders of the call's own, made by appends: each text is a row of its own, too. -/
namespace Go.Proofs.YtpdlpmbjhopnnaaGreatDoor
open Go.RowKit Sha Six Apd
namespace Str
open Go.Proofs.YtpdlpmbjhopnnaaGreatDoor.Ord Cut
/-- v is a row of the call's own, of the orders os; their texts are rows of its own. -/
def OwnOrds (w : World) (base : Nat) (v : Value) (os : List O) : Prop :=
  ∃ us, w.ownsRow base 76 8 v os.length us ∧ (os = [] → v = .slice none 0 0) ∧ ∀ i, i < os.length → ∃ ta tn tc, (∀ j u, (ocells (os.getD i none_) (.slice ta tn tc))[j]? = some u → us[i * 8 + j]? = some u) ∧ w.ownsRow base 5 1 (.slice ta tn tc) tn (u8s (os.getD i none_).t)
theorem ownOrds_nil (w : World) (base : Nat) : OwnOrds w base (.slice none 0 0) [] := ⟨[], World.ownsRow_nil _ _ _ _, fun _ => rfl, nofun⟩
theorem OwnOrds.other {w w' : World} {base C : Nat} {v : Value} {os : List O} (h : OwnOrds w base v os) (hg : w.grownBy w' (some C)) (hC : C < base) : OwnOrds w' base v os := by
  obtain ⟨us, h1, h0, h2⟩ := h
  refine ⟨us, own_other h1 hg hC, h0, fun i hi => ?_⟩
  obtain ⟨ta, tn, tc, k1, k2⟩ := h2 i hi
  exact ⟨ta, tn, tc, k1, own_other k2 hg hC⟩
theorem OwnOrds.below {w w' : World} {base : Nat} {v : Value} {os : List O} (h : OwnOrds w base v os) (hb : Below w.heap.size w w') : OwnOrds w' base v os := by
  obtain ⟨us, h1, h0, h2⟩ := h
  refine ⟨us, own_below h1 hb, h0, fun i hi => ?_⟩
  obtain ⟨ta, tn, tc, k1, k2⟩ := h2 i hi
  exact ⟨ta, tn, tc, k1, own_below k2 hb⟩
theorem OwnOrds.form {w : World} {base : Nat} {v : Value} {os : List O} (h : OwnOrds w base v os) : ∃ ad c, v = .slice ad os.length c := by
  obtain ⟨us, h1, _⟩ := h
  exact own_form h1
theorem OwnOrds.to {w : World} {base : Nat} {v : Value} {os : List O} (h : OwnOrds w base v os) : OrdsIn w base v os := by
  obtain ⟨ad, c, rfl⟩ := h.form
  obtain ⟨us, h1, _, h2⟩ := h
  have hcap : os.length ≤ c := by
    rcases h1.2 with ⟨hv, h0⟩ | ⟨g, cap2, cur, hv, _, _, h4, _⟩
    · injection hv with _ _ e3; omega
    · injection hv with _ _ e3; omega
  refine ordsIn_own h1 rfl hcap fun i hi => ?_
  obtain ⟨ta, tn, tc, k1, k2⟩ := h2 i hi
  exact ⟨ta, tn, tc, k1, own_bytes k2, own_nil k2, fun x hx => (own_blocks k2 x hx).1⟩
/-- Rows of unlike elements lie in blocks of their own. -/
theorem row_apart {w : World} {b1 b2 s1 s2 n1 n2 n c : Nat} {v : Value} {t1 t2 : TypeId} {us xs : List Value} {ad : Option Addr} (h1 : w.ownsRow b1 t1 s1 v n1 us) (h2 : w.ownsRow b2 t2 s2 (.slice ad n c) n2 xs) (ht : t1 ≠ t2) : ∀ a, ad = some a → ∀ g, v.ownBlock = some g → a.block ≠ g := by
  intro a ha g hg e
  rcases h1.2 with ⟨rfl, _⟩ | ⟨g1, c1, cur1, rfl, _, k1, _⟩
  · cases hg
  · injection hg with hg
    rcases h2.2 with ⟨hv, _⟩ | ⟨g2, c2, cur2, hv, _, k2, _⟩
    · injection hv with e1; rw [ha] at e1; cases e1
    · injection hv with e1
      rw [ha] at e1; injection e1 with e1
      subst e1
      simp only at e hg
      subst hg; subst e
      rw [k1] at k2
      injection k2 with k2
      injection k2 with _ k3
      exact ht k3
theorem own_keeps {w w' : World} {base n c m : Nat} {v : Value} {us : List Value} {ad : Option Addr} {xs : List Value} (h1 : w.ownsRow base 76 8 v m us) (h2 : w.ownsRow base 5 1 (.slice ad n c) n xs) (hg : w.grownBy w' v.ownBlock) : w'.ownsRow base 5 1 (.slice ad n c) n xs := by
  cases hv : v.ownBlock with
  | none =>
    rw [hv] at hg
    exact own_below h2 (belowg hg)
  | some g =>
    rw [hv] at hg
    exact own_apart h2 hg (fun a ha => row_apart h1 h2 (by decide) a ha g hv)
theorem infoO : (Tryz.prog.info? 76).map (fun i => (i.zero, i.size, i.bytes)) = some (some (.agg #[.int .i64 0, .slice none 0 0, .bool false, .bool false, .int .i64 0, .bool false, .int .i64 0, .int .u8 0]), 8, 72) := by kernel_rfl
theorem ocells_one (o : O) (ta : Option Addr) (tn tc : Nat) : ∀ u ∈ ocells o (.slice ta tn tc), u.oneCell' = true := by
  intro u hu
  simp only [ocells, List.mem_cons, List.not_mem_nil, or_false] at hu
  rcases hu with rfl | rfl | rfl | rfl | rfl | rfl | rfl | rfl <;> rfl
/-- append of one order whose cells lie in block L. -/
theorem append_ord {ops : Array Oper} {rest : List Oper} {o : Oper} {a : Act} {Q : Exit → Act → World → Prop} {w : World} (hgd : o.guard = none) (s x : Operand)
    (ho : o.op = .call { callee := .builtin .append, args := #[s, x], argTypes := #[34, 34] }) (base : Nat) (v : Value) (os : List O) (hs : a.eval s = v) (hown : OwnOrds w base v os)
    (L : Nat) (q : O) (ta : Option Addr) (tn tc : Nat) (hx : a.eval x = .slice (some ⟨L, 0, none⟩) 1 1) (hL : w.heap[L]? = some (.cells (ocells q (.slice ta tn tc)).toArray 76 (0, 0))) (ht : w.ownsRow base 5 1 (.slice ta tn tc) tn (u8s q.t))
    (hn : os.length < 1000000000) (hbase : base ≤ w.heap.size)
    (h : ∀ v' w', OwnOrds w' base v' (os ++ [q]) → w.grownBy w' v.ownBlock → wpList Tryz.prog ops Q rest (a.put o.dst v') w') : wpList Tryz.prog ops Q (o :: rest) a w := by
  obtain ⟨us, h1, _, h2⟩ := hown
  obtain ⟨i0, hi, hz0, hz1, hz2⟩ := info_parts infoO
  refine wpList_append_own _ hgd s x 34 ho base 76 i0 _ 8 72 Tryz.underlying34 hi hz0 hz1 hz2 rfl (by decide) v os.length us hs h1 ⟨L, 0, none⟩ 1 1 (ocells q (.slice ta tn tc)) hx rfl (fun j u hj => ?_) (ocells_one _ _ _ _) (by unfold maxLen; omega) (by omega) hbase fun v' w' k1 k2 _ => h v' w' ⟨_, by rw [List.length_append]; exact k1, fun h0 => by simp at h0, fun i hi => ?_⟩ k2
  · rw [Addr.add_mid, Nat.zero_add, cell_of_row w L j _ _ (0, 0) hL, List.getElem?_toArray]; exact hj
  · have hlen : us.length = os.length * 8 := h1.1
    by_cases hio : i < os.length
    · obtain ⟨ta1, tn1, tc1, k3, k4⟩ := h2 i hio
      have e : (os ++ [q]).getD i none_ = os.getD i none_ := by simp [List.getD_eq_getElem?_getD, List.getElem?_append_left hio]
      rw [e]
      refine ⟨ta1, tn1, tc1, fun j u hj => ?_, own_keeps h1 k4 k2⟩
      have hj8 : j < 8 := by
        rcases Nat.lt_or_ge j 8 with h' | h'
        · exact h'
        · rw [List.getElem?_eq_none (by simp [ocells]; omega)] at hj; cases hj
      rw [List.getElem?_append_left (by omega)]
      exact k3 j u hj
    · rw [List.length_append] at hi
      simp only [List.length_cons, List.length_nil] at hi
      obtain rfl : i = os.length := by omega
      have e : (os ++ [q]).getD os.length none_ = q := by simp
      rw [e]
      refine ⟨ta, tn, tc, fun j u hj => ?_, own_keeps h1 ht k2⟩
      rw [List.getElem?_append_right (by omega), hlen, Nat.add_sub_cancel_left]
      exact hj
end Str
end Go.Proofs.YtpdlpmbjhopnnaaGreatDoor
/- Rows of orders of the call's own: of one literal order; at another base; grown by an order without a text, or by one whose text is a row that was grown behind it. -/
namespace Go.Proofs.YtpdlpmbjhopnnaaGreatDoor
open Go.RowKit Sha Six Apd Cut
set_option linter.unusedVariables false
namespace Red
open Str Go.Proofs.YtpdlpmbjhopnnaaGreatDoor.Ord
theorem own_no (w : World) (base : Nat) : w.ownsRow base 5 1 (.slice none 0 0) 0 (u8s []) := by simpa [u8s] using World.ownsRow_nil w base 5 1
theorem ords_mono {w : World} {b base : Nat} {v : Value} {os : List O} (h : OwnOrds w base v os) (hb : b ≤ base) : OwnOrds w b v os := by
  obtain ⟨us, h1, h0, h2⟩ := h
  refine ⟨us, own_mono h1 hb, h0, fun i hi => ?_⟩
  obtain ⟨ta, tn, tc, k1, k2⟩ := h2 i hi
  exact ⟨ta, tn, tc, k1, own_mono k2 hb⟩
theorem ords_ge {w : World} {base n c : Nat} {ad : Option Addr} {os : List O} (h : OwnOrds w base (.slice ad n c) os) : ∀ g, (Value.slice ad n c).ownBlock = some g → base ≤ g := by
  obtain ⟨us, h1, _⟩ := h
  exact own_ge h1
/-- One literal order. -/
theorem ords_lit (w : World) (o : O) (ht : o.t = []) (base : Nat) (hb : base ≤ w.heap.size) : OwnOrds (w.alloc (.cells (ocells o (.slice none 0 0)).toArray 76)) base (.slice (some ⟨w.heap.size, 0, none⟩) 1 1) [o] := by
  refine ⟨ocells o (.slice none 0 0), ?_, nofun, fun i hi => ?_⟩
  · have := World.ownsRow_lit (base := base) (e := 76) (size := 8) w (ocells o (.slice none 0 0)).toArray 1 hb (by unfold maxLen; omega) (by simp [ocells])
    simpa using this
  · have hi0 : i = 0 := by simp at hi; omega
    subst hi0
    refine ⟨none, 0, 0, fun j u hj => by simpa using hj, ?_⟩
    show World.ownsRow _ _ _ _ _ _ (u8s o.t)
    rw [ht]
    exact own_no _ _
/-- A screen's cells stay where a row grows that lies behind the screen's box. -/
theorem celsIn_grown_ {w w' : World} {ad : Option Addr} {n c base : Nat} {v : Value} {cs : List Grd.C} (h : Grd.CelsIn w (.slice ad n c) cs) (hl : ∀ x, ad = some x → x.block < base) (hg : w.grownBy w' v.ownBlock) (hb : ∀ g, v.ownBlock = some g → base ≤ g) : Grd.CelsIn w' (.slice ad n c) cs := by
  obtain ⟨ad2, cap, hv, hcap, hn, hc⟩ := h
  injection hv with e1 e2 e3
  subst e1
  subst e3
  refine ⟨_, _, by rw [e2], hcap, hn, ?_⟩
  rcases hc with h0 | ⟨b, off, h1, h2⟩
  · exact .inl h0
  · refine .inr ⟨b, off, h1, fun i hi j u hj => ?_⟩
    have hbb := hl _ h1
    exact hg.cell (a := ⟨b, off + i * 6 + j, none⟩) (h2 i hi j u hj) (fun e => by have := hb _ e.symm; simp only at hbb this; omega)
end Red
end Go.Proofs.YtpdlpmbjhopnnaaGreatDoor
/- Rows of fields of the call's own: at another base; a submission laid over its box. -/
namespace Go.Proofs.YtpdlpmbjhopnnaaGreatDoor
open Go.RowKit Sha Six Apd Cut
set_option linter.unusedVariables false
namespace Red
/-- A row of three cells laid over a box. -/
theorem over3 (a : World) (B : Nat) (t : TypeId) (a0 a1 a2 u0 u1 u2 : Value) (h : a.heap[B]? = some (.cells #[a0, a1, a2] t (0, 0))) :
    (((a.setCell ⟨B, 0, none⟩ u0).setCell ⟨B, 1, none⟩ u1).setCell ⟨B, 2, none⟩ u2).heap[B]? = some (.cells #[u0, u1, u2] t (0, 0)) ∧
    a.grownBy (((a.setCell ⟨B, 0, none⟩ u0).setCell ⟨B, 1, none⟩ u1).setCell ⟨B, 2, none⟩ u2) (some B) := by
  have h := heap_setCell_same _ B 0 _ t u0 h
  have h := heap_setCell_same _ B 1 _ t u1 h
  have h := heap_setCell_same _ B 2 _ t u2 h
  exact ⟨h, gtrans (gsetCell _ _ _ _) (gtrans (gsetCell _ _ _ _) (gsetCell _ _ _ _))⟩
theorem cellsP {w : World} {B : Nat} {t : TypeId} {a0 a1 : Value} (h : w.heap[B]? = some (.cells #[a0, a1] t (0, 0))) : w.cell? ⟨B, 0, none⟩ = some a0 ∧ w.cell? ⟨B, 1, none⟩ = some a1 := ⟨cell_of_row w B 0 _ _ (0, 0) h, cell_of_row w B 1 _ _ (0, 0) h⟩
theorem flds_mono {w : World} {b base : Nat} {v : Value} {os : List Inp.F} (h : Inp.OwnFlds w base v os) (hb : b ≤ base) : Inp.OwnFlds w b v os := by
  obtain ⟨us, h1, h0, h2⟩ := h
  refine ⟨us, own_mono h1 hb, h0, fun i hi => ?_⟩
  obtain ⟨ta, tn, tc, k1, k2⟩ := h2 i hi
  exact ⟨ta, tn, tc, k1, own_mono k2 hb⟩
theorem flds_ge {w : World} {base n c : Nat} {ad : Option Addr} {os : List Inp.F} (h : Inp.OwnFlds w base (.slice ad n c) os) : ∀ g, (Value.slice ad n c).ownBlock = some g → base ≤ g := by
  obtain ⟨us, h1, _⟩ := h
  exact own_ge h1
/-- What Modified answers. -/
def GaveI (w w' : World) (i : Inp.I) (e : Ending) : Prop := ∃ va vc, e = .returned (.agg #[.int .u8 (i.aid : Int), .int .i64 i.cur, .slice va i.fs.length vc]) ∧ Inp.OwnFlds w' w.heap.size (.slice va i.fs.length vc) i.fs ∧ Below w.heap.size w w'
end Red
end Go.Proofs.YtpdlpmbjhopnnaaGreatDoor
/- What calls of package read answer. -/
namespace Go.Proofs.YtpdlpmbjhopnnaaGreatDoor
open Go.RowKit Sha Six Apd Cut Err
set_option linter.unusedVariables false
namespace Red
open Go.Proofs.YtpdlpmbjhopnnaaGreatDoor.Inp (I F)
/-- What Modified answers of whatever byte, and the number of its error. -/
def asks (s : Grd.S) (c : Nat) : I := if Att.aid c then modified s c else Inp.noneI
def asksE (c : Nat) : Nat := if Att.aid c then 0 else 3
/-- What Reply answers: bytes, and the number of an error. -/
def imageB (s : Grd.S) : List Nat := (Str.cwrite ⟨241, false, false, false, image s⟩ s.cs.length).1
def replyB (s : Grd.S) (cmd : Int) (c : Nat) : List Nat := if cmd = 242 then imageB s else if cmd = 246 then (if Att.aid c then Inp.ibytes (modified s c) s.cs.length else []) else []
def replyE (cmd : Int) (c : Nat) : Nat := if cmd = 242 then 0 else if cmd = 246 then asksE c else 5
/-- Orders, all of them new memory. -/
def GaveO (w w' : World) (os : List Ord.O) (e : Ending) : Prop := ∃ va vc, e = .returned (.slice va os.length vc) ∧ Str.OwnOrds w' w.heap.size (.slice va os.length vc) os ∧ Below w.heap.size w w'
/-- A submission and the error of this number, all of it new memory. -/
def GaveM (w w' : World) (i : I) (code : Nat) (e : Ending) : Prop := ∃ va vc, e = .returned (.tuple #[.agg #[.int .u8 (i.aid : Int), .int .i64 i.cur, .slice va i.fs.length vc], Scr.errn code]) ∧ Inp.OwnFlds w' w.heap.size (.slice va i.fs.length vc) i.fs ∧ Below w.heap.size w w'
end Red
end Go.Proofs.YtpdlpmbjhopnnaaGreatDoor
/- A row of orders of the call's own whose last order's text may grow where it lies: no other text lies in its block. -/
namespace Go.Proofs.YtpdlpmbjhopnnaaGreatDoor
open Go.RowKit Sha Six Apd Cut
set_option linter.unusedVariables false
namespace Red
open Str Go.Proofs.YtpdlpmbjhopnnaaGreatDoor.Ord
/-- v is a row of the call's own of the orders os and, behind them, q, whose text is (ta, tn, tc), at block M or behind; the others' texts lie ahead of M. -/
def Last (w : World) (base M : Nat) (v : Value) (os : List O) (q : O) (ta : Option Addr) (tn tc : Nat) : Prop :=
  ∃ us, w.ownsRow base 76 8 v (os.length + 1) us ∧ (base ≤ M ∧ M ≤ w.heap.size) ∧
    (∀ i, i < os.length → ∃ ta tn tc, (∀ j u, (ocells (os.getD i none_) (.slice ta tn tc))[j]? = some u → us[i * 8 + j]? = some u) ∧ w.ownsRow base 5 1 (.slice ta tn tc) tn (u8s (os.getD i none_).t) ∧ ∀ a, ta = some a → a.block < M) ∧
    (∀ j u, (ocells q (.slice ta tn tc))[j]? = some u → us[os.length * 8 + j]? = some u) ∧ w.ownsRow M 5 1 (.slice ta tn tc) tn (u8s q.t)
theorem getD_app1 (os : List O) (q : O) {i : Nat} (hi : i < os.length) : (os ++ [q]).getD i none_ = os.getD i none_ := by simp [List.getD_eq_getElem?_getD, List.getElem?_append_left hi]
theorem getD_app2 (os : List O) (q : O) : (os ++ [q]).getD os.length none_ = q := by simp
theorem ocells_lt {o : O} {v u : Value} {j : Nat} (hj : (ocells o v)[j]? = some u) : j < 8 := by
  rcases Nat.lt_or_ge j 8 with h' | h'
  · exact h'
  · rw [List.getElem?_eq_none (by simp [ocells]; omega)] at hj; cases hj
theorem Last.to {w : World} {base M : Nat} {v : Value} {os : List O} {q : O} {ta : Option Addr} {tn tc : Nat} (h : Last w base M v os q ta tn tc) : OwnOrds w base v (os ++ [q]) := by
  obtain ⟨us, h1, hM, h2, h3, h4⟩ := h
  refine ⟨us, by rw [List.length_append]; exact h1, fun h0 => by simp at h0, fun i hi => ?_⟩
  by_cases hio : i < os.length
  · obtain ⟨ta1, tn1, tc1, k1, k2, _⟩ := h2 i hio
    rw [getD_app1 os q hio]
    exact ⟨ta1, tn1, tc1, k1, k2⟩
  · rw [List.length_append] at hi
    simp only [List.length_cons, List.length_nil] at hi
    obtain rfl : i = os.length := by omega
    rw [getD_app2]
    exact ⟨ta, tn, tc, h3, own_mono h4 hM.1⟩
theorem Last.below {w w' : World} {base M : Nat} {v : Value} {os : List O} {q : O} {ta : Option Addr} {tn tc : Nat} (h : Last w base M v os q ta tn tc) (hb : Below w.heap.size w w') : Last w' base M v os q ta tn tc := by
  obtain ⟨us, h1, hM, h2, h3, h4⟩ := h
  refine ⟨us, own_below h1 hb, ⟨hM.1, Nat.le_trans hM.2 hb.size⟩, fun i hi => ?_, h3, own_below h4 hb⟩
  obtain ⟨ta1, tn1, tc1, k1, k2, k3⟩ := h2 i hi
  exact ⟨ta1, tn1, tc1, k1, own_below k2 hb, k3⟩
theorem Last.ge {w : World} {base M n c : Nat} {ad : Option Addr} {os : List O} {q : O} {ta : Option Addr} {tn tc : Nat} (h : Last w base M (.slice ad n c) os q ta tn tc) : ∀ g, (Value.slice ad n c).ownBlock = some g → base ≤ g := by
  obtain ⟨us, h1, _⟩ := h
  exact own_ge h1
theorem Last.room {w : World} {base M : Nat} {v : Value} {os : List O} {q : O} {ta : Option Addr} {tn tc : Nat} (h : Last w base M v os q ta tn tc) : base ≤ M ∧ M ≤ w.heap.size ∧ (∀ y, ta = some y → y.block < w.heap.size) ∧ w.ownsRow M 5 1 (.slice ta tn tc) tn (u8s q.t) := by
  obtain ⟨us, h1, hM, h2, h3, h4⟩ := h
  exact ⟨hM.1, hM.2, fun y hy => (own_blocks h4 y hy).2, h4⟩
/-- The cells of the last order. -/
theorem Last.spot {w : World} {base M g n c : Nat} {os : List O} {q : O} {ta : Option Addr} {tn tc : Nat} (h : Last w base M (.slice (some ⟨g, 0, none⟩) n c) os q ta tn tc) : w.cell? ⟨g, os.length * 8, none⟩ = some (.int .i64 q.k) ∧ w.cell? ⟨g, os.length * 8 + 1, none⟩ = some (.slice ta tn tc) ∧ w.frozen? ⟨g, os.length * 8 + 1, none⟩ = false ∧ g < w.heap.size ∧ base ≤ g := by
  obtain ⟨us, h1, hM, h2, h3, h4⟩ := h
  have hlen : us.length = (os.length + 1) * 8 := h1.1
  have k0 := World.ownsRow.cells h1 (g := g) rfl (os.length * 8) _ (h3 0 _ rfl)
  have k1 := World.ownsRow.cells h1 (g := g) rfl (os.length * 8 + 1) _ (h3 1 _ rfl)
  rw [Addr.add_mid, Nat.zero_add] at k0 k1
  rcases h1.2 with ⟨hv, _⟩ | ⟨g2, cap, cur, hv, hg, hcur, _⟩
  · cases hv
  · injection hv with e1 e2 e3
    injection e1 with e1
    injection e1 with e1
    subst e1
    exact ⟨k0, k1, frozen_of_row w g _ cur _ hcur, there_lt hcur, hg⟩
theorem Last.form {w : World} {base M : Nat} {v : Value} {os : List O} {q : O} {ta : Option Addr} {tn tc : Nat} (h : Last w base M v os q ta tn tc) : ∃ g c, v = .slice (some ⟨g, 0, none⟩) (os.length + 1) c ∧ base ≤ g ∧ g < w.heap.size := by
  obtain ⟨us, h1, _⟩ := h
  rcases h1.2 with ⟨_, h0⟩ | ⟨g, cap, cur, hv, hg, hcur, _⟩
  · cases h0
  · exact ⟨g, cap, hv, hg, there_lt hcur⟩
/-- One literal order without a text. -/
theorem last_lit (w : World) (o : O) (ht : o.t = []) (base : Nat) (hb : base ≤ w.heap.size) : Last (w.alloc (.cells (ocells o (.slice none 0 0)).toArray 76)) base base (.slice (some ⟨w.heap.size, 0, none⟩) 1 1) [] o none 0 0 := by
  refine ⟨ocells o (.slice none 0 0), ?_, ⟨Nat.le_refl _, by simp; omega⟩, fun i hi => absurd hi (Nat.not_lt_zero _), fun j u hj => by simpa using hj, ?_⟩
  · have := World.ownsRow_lit (base := base) (e := 76) (size := 8) w (ocells o (.slice none 0 0)).toArray 1 hb (by unfold maxLen; omega) (by simp [ocells])
    simpa using this
  · rw [ht]
    exact own_no _ _
theorem own_keeps2 {w w' : World} {base K n c m : Nat} {v : Value} {us : List Value} {ad : Option Addr} {xs : List Value} (h1 : w.ownsRow base 76 8 v m us) (h2 : w.ownsRow K 5 1 (.slice ad n c) n xs) (hg : w.grownBy w' v.ownBlock) : w'.ownsRow K 5 1 (.slice ad n c) n xs := by
  cases hv : v.ownBlock with
  | none =>
    rw [hv] at hg
    exact own_below h2 (belowg hg)
  | some g =>
    rw [hv] at hg
    exact own_apart h2 hg (fun a ha => row_apart h1 h2 (by decide) a ha g hv)
theorem own_n {w : World} {base e size n c m : Nat} {a : Addr} {us : List Value} (h1 : w.ownsRow base e size (.slice (some a) n c) m us) : n = m := by
  rcases h1.2 with ⟨hv, _⟩ | ⟨_, _, _, hv, _⟩
  · injection hv with e1; cases e1
  · injection hv with _ e2
/-- append of one order, whose cells lie in block L and whose text lies behind all others'. -/
theorem append_last {ops : Array Oper} {rest : List Oper} {o : Oper} {a : Act} {Q : Exit → Act → World → Prop} {w : World} (hgd : o.guard = none) (s x : Operand)
    (ho : o.op = .call { callee := .builtin .append, args := #[s, x], argTypes := #[34, 34] }) (base M K : Nat) (v : Value) (os : List O) (q : O) (ta : Option Addr) (tn tc : Nat) (hs : a.eval s = v) (hown : Last w base M v os q ta tn tc)
    (hK1 : M ≤ K) (hK2 : ∀ y, ta = some y → y.block < K) (hK3 : K ≤ w.heap.size)
    (L : Nat) (p : O) (sa : Option Addr) (sn sc : Nat) (hx : a.eval x = .slice (some ⟨L, 0, none⟩) 1 1) (hL : w.heap[L]? = some (.cells (ocells p (.slice sa sn sc)).toArray 76 (0, 0))) (ht : w.ownsRow K 5 1 (.slice sa sn sc) sn (u8s p.t))
    (hn : os.length < 1000000) (hbase : base ≤ w.heap.size)
    (h : ∀ v' w', Last w' base K v' (os ++ [q]) p sa sn sc → w.grownBy w' v.ownBlock → wpList Tryz.prog ops Q rest (a.put o.dst v') w') : wpList Tryz.prog ops Q (o :: rest) a w := by
  obtain ⟨us, h1, hM, h2, h3, h4⟩ := hown
  obtain ⟨i0, hi, hz0, hz1, hz2⟩ := info_parts infoO
  refine wpList_append_own _ hgd s x 34 ho base 76 i0 _ 8 72 Tryz.underlying34 hi hz0 hz1 hz2 rfl (by decide) v (os.length + 1) us hs h1 ⟨L, 0, none⟩ 1 1 (ocells p (.slice sa sn sc)) hx rfl (fun j u hj => ?_) (ocells_one _ _ _ _) (by unfold maxLen; omega) (by omega) hbase fun v' w' k1 k2 _ => h v' w' ⟨_, by rw [List.length_append]; exact k1, ⟨Nat.le_trans hM.1 hK1, Nat.le_trans hK3 k2.size⟩, fun i hi => ?_, fun j u hj => ?_, own_keeps2 h1 ht k2⟩ k2
  · rw [Addr.add_mid, Nat.zero_add, cell_of_row w L j _ _ (0, 0) hL, List.getElem?_toArray]; exact hj
  · have hlen : us.length = (os.length + 1) * 8 := h1.1
    by_cases hio : i < os.length
    · obtain ⟨ta1, tn1, tc1, k3, k4, k5⟩ := h2 i hio
      rw [getD_app1 os q hio]
      refine ⟨ta1, tn1, tc1, fun j u hj => ?_, own_keeps h1 k4 k2, fun y hy => Nat.lt_of_lt_of_le (k5 y hy) hK1⟩
      have hj8 := ocells_lt hj
      rw [List.getElem?_append_left (by omega)]
      exact k3 j u hj
    · rw [List.length_append] at hi
      simp only [List.length_cons, List.length_nil] at hi
      obtain rfl : i = os.length := by omega
      rw [getD_app2]
      refine ⟨ta, tn, tc, fun j u hj => ?_, own_mono (own_keeps2 h1 h4 k2) hM.1, hK2⟩
      have hj8 := ocells_lt hj
      rw [List.getElem?_append_left (by omega)]
      exact h3 j u hj
  · have hlen : us.length = (os.length + 1) * 8 := h1.1
    rw [List.length_append, List.getElem?_append_right (by simp only [List.length_cons, List.length_nil]; omega)]
    rw [show (os.length + [q].length) * 8 + j - us.length = j by simp only [List.length_cons, List.length_nil]; omega]
    exact hj
/-- The last order's text has grown (its row, or a new one), and is stored. -/
theorem Last.text {w w' : World} {base M g n c : Nat} {os : List O} {q p : O} {ta : Option Addr} {tn tc : Nat} (h : Last w base M (.slice (some ⟨g, 0, none⟩) n c) os q ta tn tc) {sa : Option Addr} {sn sc : Nat}
    (hg : w.grownBy w' (Value.slice ta tn tc).ownBlock) (ht : w'.ownsRow M 5 1 (.slice sa sn sc) sn (u8s p.t))
    (hp : ∀ j u, j ≠ 1 → (ocells p (.slice sa sn sc))[j]? = some u → (ocells q (.slice ta tn tc))[j]? = some u) :
    Last (w'.setCell ⟨g, os.length * 8 + 1, none⟩ (.slice sa sn sc)) base M (.slice (some ⟨g, 0, none⟩) n c) os p sa sn sc ∧ Below base w (w'.setCell ⟨g, os.length * 8 + 1, none⟩ (.slice sa sn sc)) ∧ base ≤ g ∧ g < w.heap.size ∧ w'.cell? ⟨g, os.length * 8 + 1, none⟩ = some (.slice ta tn tc) ∧ w'.frozen? ⟨g, os.length * 8 + 1, none⟩ = false := by
  obtain ⟨us, h1, hM, h2, h3, h4⟩ := h
  have hgb : base ≤ g := own_ge h1 g rfl
  have hgl : g < w.heap.size := (own_blocks (own_n h1 ▸ h1) _ rfl).2
  have hb0 : ∀ y, ta = some y → base ≤ y.block := fun y hy => Nat.le_trans hM.1 (own_blocks h4 y hy).1
  have k1 : w'.ownsRow base 76 8 (.slice (some ⟨g, 0, none⟩) n c) (os.length + 1) us := by
    refine h1.kept hg (.inr fun e => ?_)
    cases ta with
    | none => cases e
    | some y =>
      simp only [Value.ownBlock, Option.some.injEq] at e
      exact row_apart h1 h4 (by decide) y rfl g rfl e.symm
  have hlen : us.length = (os.length + 1) * 8 := h1.1
  obtain ⟨s1, s2⟩ := World.ownsRow.stored (show w'.ownsRow base 76 8 (.slice (some ⟨g, 0, none⟩) n c) n us from own_n h1 ▸ k1) (os.length * 8 + 1) (.slice sa sn sc)
  have hne : n = os.length + 1 := own_n h1
  have hce : w'.cell? ⟨g, os.length * 8 + 1, none⟩ = some (.slice ta tn tc) := by
    have k0 := World.ownsRow.cells k1 (g := g) rfl (os.length * 8 + 1) _ (h3 1 _ rfl)
    rw [Addr.add_mid, Nat.zero_add] at k0
    exact k0
  refine ⟨⟨us.set (os.length * 8 + 1) (.slice sa sn sc), hne ▸ s1, ⟨hM.1, Nat.le_trans hM.2 (Nat.le_trans hg.size s2.size)⟩, fun i hi => ?_, fun j u hj => ?_, ?_⟩, ?_, hgb, hgl, hce, World.ownsRow.frozenAt (show w'.ownsRow base 76 8 (.slice (some ⟨g, 0, none⟩) n c) n us from own_n h1 ▸ k1) _⟩
  · obtain ⟨ta1, tn1, tc1, k3, k4, k5⟩ := h2 i hi
    refine ⟨ta1, tn1, tc1, fun j u hj => ?_, ?_, k5⟩
    · have hj8 := ocells_lt hj
      rw [List.getElem?_set_ne (by omega)]
      exact k3 j u hj
    · have k6 : w'.ownsRow base 5 1 (.slice ta1 tn1 tc1) tn1 (u8s (os.getD i none_).t) := by
        refine k4.kept hg ?_
        cases ta with
        | none => cases hv : (Value.slice ta1 tn1 tc1).ownBlock <;> simp [Value.ownBlock]
        | some y =>
          cases ta1 with
          | none => exact .inl rfl
          | some z =>
            refine .inr fun e => ?_
            simp only [Value.ownBlock, Option.some.injEq] at e
            have e1 := k5 z rfl
            have e2 := (own_blocks h4 y rfl).1
            omega
      exact own_apart k6 s2 fun y hy => row_apart k1 k6 (by decide) y hy g rfl
  · by_cases hj1 : j = 1
    · subst hj1
      rw [List.getElem?_set_self (by omega)]
      exact hj
    · rw [List.getElem?_set_ne (by omega)]
      exact h3 j u (hp j u hj1 hj)
  · exact own_apart ht s2 fun y hy => row_apart k1 ht (by decide) y hy g rfl
  · have hb1 : Below base w w' := ⟨hg.os, hg.tape, hg.output, hg.size, fun k hk => hg.block k (by omega) (fun e => by
      cases ta with
      | none => cases e
      | some y =>
        simp only [Value.ownBlock, Option.some.injEq] at e
        have := hb0 y rfl
        omega)⟩
    exact hb1.setCell (p := ⟨g, os.length * 8 + 1, none⟩) hgb _
/-- What lies ahead of base stays. -/
theorem blk_b {w w' : World} {B base : Nat} {x : Obj} (g : w.heap[B]? = some x) (hB : B < base) (hb : Below base w w') : w'.heap[B]? = some x := (hb.block B hB).trans g
theorem celsIn_b {w w' : World} {ad : Option Addr} {n c base : Nat} {cs : List Grd.C} (h : Grd.CelsIn w (.slice ad n c) cs) (hl : ∀ x, ad = some x → x.block < base) (hb : Below base w w') : Grd.CelsIn w' (.slice ad n c) cs := by
  obtain ⟨ad2, cap, hv, hcap, hn, hc⟩ := h
  injection hv with e1 e2 e3
  subst e1
  subst e3
  refine ⟨_, _, by rw [e2], hcap, hn, ?_⟩
  rcases hc with h0 | ⟨b, off, h1, h2⟩
  · exact .inl h0
  · exact .inr ⟨b, off, h1, fun i hi j u hj => (hb.cell (p := ⟨b, off + i * 6 + j, none⟩) (hl ⟨b, off, none⟩ h1)).trans (h2 i hi j u hj)⟩
end Red
end Go.Proofs.YtpdlpmbjhopnnaaGreatDoor
/- Rows of the call's own whose texts are written into: what stays (where all lies), whatever the texts hold. -/
namespace Go.Proofs.YtpdlpmbjhopnnaaGreatDoor
open Go.RowKit Sha Six Apd Cut
set_option linter.unusedVariables false
namespace Red
/-- v is a row of the call's own, of n things of sz cells; the second cell of each is a text, a row of the call's own, too. -/
def Shape (w : World) (base : Nat) (T sz : Nat) (v : Value) (n : Nat) (us : List Value) : Prop :=
  w.ownsRow base T sz v n us ∧ ∀ i, i < n → ∃ ta tn tc ys, us[i * sz + 1]? = some (.slice ta tn tc) ∧ tn < 1000000 ∧ w.ownsRow base 5 1 (.slice ta tn tc) tn ys
theorem shape_ords {w : World} {base : Nat} {v : Value} {os : List Ord.O} (h : Str.OwnOrds w base v os) (hs : Str.Sound os) : ∃ us, Shape w base 76 8 v os.length us := by
  obtain ⟨us, h1, _, h2⟩ := h
  refine ⟨us, h1, fun i hi => ?_⟩
  obtain ⟨ta, tn, tc, k1, k2⟩ := h2 i hi
  have h8 := (hs (os.getD i Ord.none_) (by rw [List.getD_eq_getElem?_getD, List.getElem?_eq_getElem hi]; exact List.getElem_mem hi)).2.1
  have hl := k2.1
  rw [u8s_length] at hl
  exact ⟨ta, tn, tc, _, k1 1 _ rfl, by omega, k2⟩
theorem shape_flds {w : World} {base : Nat} {v : Value} {os : List Inp.F} (h : Inp.OwnFlds w base v os) (hs : Inp.Sound os) : ∃ us, Shape w base 67 2 v os.length us := by
  obtain ⟨us, h1, _, h2⟩ := h
  refine ⟨us, h1, fun i hi => ?_⟩
  obtain ⟨ta, tn, tc, k1, k2⟩ := h2 i hi
  have h8 := (hs (os.getD i Inp.noneF) (by rw [List.getD_eq_getElem?_getD, List.getElem?_eq_getElem hi]; exact List.getElem_mem hi)).2
  have hl := k2.1
  rw [u8s_length] at hl
  exact ⟨ta, tn, tc, _, k1 1 _ rfl, by omega, k2⟩
theorem Shape.below {w w' : World} {base T sz n : Nat} {v : Value} {us : List Value} (h : Shape w base T sz v n us) (hb : Below w.heap.size w w') : Shape w' base T sz v n us := by
  refine ⟨own_below h.1 hb, fun i hi => ?_⟩
  obtain ⟨ta, tn, tc, ys, k1, k0, k2⟩ := h.2 i hi
  exact ⟨ta, tn, tc, ys, k1, k0, own_below k2 hb⟩
/-- A cell of a row of the call's own. -/
theorem row_cell {w : World} {base T sz n c : Nat} {ad : Option Addr} {us : List Value} (h : w.ownsRow base T sz (.slice ad n c) n us) {j : Nat} {u : Value} (hj : us[j]? = some u) :
    ∃ g, ad = some ⟨g, 0, none⟩ ∧ base ≤ g ∧ g < w.heap.size ∧ w.cell? ⟨g, j, none⟩ = some u ∧ w.frozen? ⟨g, j, none⟩ = false := by
  obtain ⟨hl, hv⟩ := h
  have hjl : j < us.length := by
    rcases Nat.lt_or_ge j us.length with h' | h'
    · exact h'
    · rw [List.getElem?_eq_none h'] at hj; cases hj
  rcases hv with ⟨_, h0⟩ | ⟨g, cap, cur, hv, hg, hcur, h1, h2, h3, h4⟩
  · rw [h0, Nat.zero_mul] at hl; omega
  · injection hv with e1 e2 e3
    subst e1
    refine ⟨g, rfl, hg, there_lt hcur, ?_, frozen_of_row w g j cur _ hcur⟩
    rw [← h4, List.getElem?_take_of_lt (by omega)] at hj
    rw [cell_of_row w g j cur _ (0, 0) hcur, ← Array.getElem?_toList]
    exact hj
theorem Shape.text {w : World} {base T sz n c : Nat} {ad : Option Addr} {us : List Value} (h : Shape w base T sz (.slice ad n c) n us) {i : Nat} (hi : i < n) :
    ∃ g ta tn tc ys, ad = some ⟨g, 0, none⟩ ∧ base ≤ g ∧ us[i * sz + 1]? = some (.slice ta tn tc) ∧ tn < 1000000 ∧ w.cell? ⟨g, i * sz + 1, none⟩ = some (.slice ta tn tc) ∧ w.ownsRow base 5 1 (.slice ta tn tc) tn ys := by
  obtain ⟨ta, tn, tc, ys, k1, k0, k2⟩ := h.2 i hi
  obtain ⟨g, e, h1, _, h3, _⟩ := row_cell h.1 k1
  exact ⟨g, ta, tn, tc, ys, e, h1, k1, k0, h3, k2⟩
/-- A row of bytes lies in no block of other things. -/
theorem text_not {w : World} {base n c g N T : Nat} {ys : List Value} {cs : Array Value} (h : w.ownsRow base 5 1 (.slice (some ⟨g, 0, none⟩) n c) n ys) (hT : T ≠ 5) (hN : w.heap[N]? = some (.cells cs T (0, 0))) : N ≠ g := by
  intro e
  subst e
  rcases h.2 with ⟨hv, _⟩ | ⟨g2, c2, cur2, hv, _, k2, _⟩
  · injection hv with e1; cases e1
  · injection hv with e1
    injection e1 with e1
    injection e1 with e1
    subst e1
    rw [hN] at k2
    injection k2 with k2
    injection k2 with _ k3
    exact hT k3
theorem text_at {w : World} {base n c : Nat} {ad : Option Addr} {ys : List Value} (h : w.ownsRow base 5 1 (.slice ad n c) n ys) {k : Nat} (hk : k < n) :
    ∃ g x, ad = some ⟨g, 0, none⟩ ∧ base ≤ g ∧ w.cell? ⟨g, k, none⟩ = some x ∧ w.frozen? ⟨g, k, none⟩ = false := by
  have hl := h.1
  rw [Nat.mul_one] at hl
  obtain ⟨g, e, h1, _, h3, h4⟩ := row_cell h (List.getElem?_eq_getElem (show k < ys.length by omega))
  exact ⟨g, _, e, h1, h3, h4⟩
/-- A text is written into. -/
theorem Shape.set {w : World} {base T sz n c g2 tn tc : Nat} {ad : Option Addr} {us ys : List Value} (h : Shape w base T sz (.slice ad n c) n us) (hT : T ≠ 5) (ht : w.ownsRow base 5 1 (.slice (some ⟨g2, 0, none⟩) tn tc) tn ys) (k : Nat) (x : Value) :
    Shape (w.setCell ⟨g2, k, none⟩ x) base T sz (.slice ad n c) n us ∧ (∃ zs, (w.setCell ⟨g2, k, none⟩ x).ownsRow base 5 1 (.slice (some ⟨g2, 0, none⟩) tn tc) tn zs) ∧ w.grownBy (w.setCell ⟨g2, k, none⟩ x) (some g2) := by
  have hs := World.ownsRow.stored ht k x
  have hg := gsetCell w g2 k x
  refine ⟨⟨?_, fun i hi => ?_⟩, ⟨_, hs.1⟩, hg⟩
  · refine own_apart h.1 hg fun a ha e => ?_
    have := Str.row_apart h.1 ht hT _ rfl g2 (by rw [ha]; simp only [Value.ownBlock]; rw [e])
    exact this rfl
  · obtain ⟨ta, tm, td, ys', k1, k0, k2⟩ := h.2 i hi
    cases ta with
    | none => exact ⟨none, tm, td, ys', k1, k0, own_apart k2 hg (fun a ha => by cases ha)⟩
    | some a =>
      obtain ⟨_, _, hv, _, h3⟩ := own_spot k2
      injection hv with e1 _ _
      obtain ⟨e2, _, _⟩ := h3 a e1.symm
      by_cases hb : a.block = g2
      · have ea : a = ⟨g2, 0, none⟩ := by rw [e2, hb]
        subst ea
        exact ⟨_, tm, td, _, k1, k0, (World.ownsRow.stored k2 k x).1⟩
      · exact ⟨some a, tm, td, ys', k1, k0, own_apart k2 hg (fun b hb2 => by injection hb2 with hb2; subst hb2; exact hb)⟩
end Red
end Go.Proofs.YtpdlpmbjhopnnaaGreatDoor
/- Plain: bounds of what a screen tells. -/
namespace Go.Proofs.YtpdlpmbjhopnnaaGreatDoor
set_option linter.unusedVariables false
namespace Red
open Grd Fld
open Go.Proofs.YtpdlpmbjhopnnaaGreatDoor.Ord (O none_)
open Go.Proofs.YtpdlpmbjhopnnaaGreatDoor.Inp (F I letter)
theorem runs_sound : ∀ (cs : List C) (t : List Nat), Grd.Sound cs → (∀ x ∈ t, x < 256) → t.length + cs.length < 1000000 → Str.Sound (runs t cs)
  | [], t, _, ht, hl => by
    intro o ho
    unfold runs flush at ho
    by_cases h : t = []
    · rw [if_pos h] at ho; simp at ho
    · rw [if_neg h] at ho
      simp only [List.mem_singleton] at ho
      subst ho
      exact ⟨ht, by simp only [textO]; simp at hl; omega, by simp [textO]⟩
  | c :: cs, t, hs, ht, hl => by
    have hs2 : Grd.Sound cs := fun o ho => hs o (by simp [ho])
    have hc := hs c (by simp)
    simp only [List.length_cons] at hl
    unfold runs
    cases hf : c.f with
    | true =>
      rw [if_pos rfl]
      intro o ho
      rw [List.mem_append, List.mem_cons] at ho
      rcases ho with ho | rfl | ho
      · unfold flush at ho
        by_cases h : t = []
        · rw [if_pos h] at ho; simp at ho
        · rw [if_neg h] at ho
          simp only [List.mem_singleton] at ho
          subst ho
          exact ⟨ht, by simp only [textO]; omega, by simp [textO]⟩
      · exact ⟨by simp [startO], by simp [startO], by simp [startO]⟩
      · exact runs_sound cs [] hs2 (by simp) (by simp; omega) o ho
    | false =>
      rw [if_neg (by decide)]
      refine runs_sound cs (t ++ [c.c]) hs2 (fun x hx => ?_) (by simp; omega)
      rw [List.mem_append, List.mem_singleton] at hx
      rcases hx with hx | rfl
      · exact ht x hx
      · exact hc
theorem image_sound {s : S} (h : Grd.Sound s.cs) (hl : s.cs.length < 10000) : Str.Sound (image s) := by
  intro o ho
  unfold image at ho
  simp only [List.mem_cons, List.mem_append] at ho
  rcases ho with rfl | ho | ho | ho
  · exact ⟨by simp [setO], by simp [setO], by simp [setO]⟩
  · exact runs_sound s.cs [] h (by simp) (by simp; omega) o ho
  · split at ho
    · simp only [List.mem_singleton] at ho
      subst ho
      exact ⟨by simp [setO], by simp [setO], by simp [setO]⟩
    · simp at ho
  · simp only [List.not_mem_nil, or_false] at ho
    subst ho
    exact ⟨by simp [curO], by simp [curO], by simp [curO]⟩
theorem runs_len : ∀ (cs : List C) (t : List Nat), (runs t cs).length ≤ 1 + 2 * cs.length
  | [], t => by unfold runs flush; split <;> simp
  | c :: cs, t => by
    unfold runs
    split
    · have h1 := runs_len cs []
      have h2 : (flush t).length ≤ 1 := by unfold flush; split <;> simp
      simp only [List.length_append, List.length_cons]; omega
    · have h1 := runs_len cs (t ++ [c.c])
      simp only [List.length_cons]; omega
theorem image_len (s : S) : (image s).length ≤ 4 + 2 * s.cs.length := by
  have h1 := runs_len s.cs []
  have h2 : (if 0 < s.cur then [setO s.cur] else []).length ≤ 1 := by split <;> simp
  unfold image
  simp only [List.length_cons, List.length_append, List.length_nil]; omega
theorem chars_sound {cs : List C} (h : Grd.Sound cs) (l : List Nat) : ∀ x ∈ chars cs l, x < 256 := by
  intro x hx
  unfold chars at hx
  rw [List.mem_filter, List.mem_map] at hx
  obtain ⟨⟨j, _, rfl⟩, _⟩ := hx
  exact sound_at h j
theorem chars_len (cs : List C) (l : List Nat) : (chars cs l).length ≤ l.length := by
  unfold chars
  have := List.length_filter_le (fun x => x != 0) (l.map fun j => (cs.getD j noC).c)
  simpa using this
theorem lettersAll_len (cs : List C) : (lettersAll cs).length ≤ cs.length := by
  unfold lettersAll
  have := List.length_filter_le letter (cs.map (fun o => o.c))
  simpa using this
theorem modified_sound {s : S} (h : Grd.Sound s.cs) (hl : s.cs.length < 10000) (c : Nat) : Inp.Sound (modified s c).fs := by
  intro f hf
  unfold modified at hf
  split at hf
  · simp at hf
  · simp only at hf
    split at hf
    · rw [List.mem_map] at hf
      obtain ⟨b, hb, rfl⟩ := hf
      obtain ⟨g1, g2⟩ := modBs_mem hb
      refine ⟨chars_sound h _, ?_⟩
      have h1 := chars_len s.cs (cellsAt s.cs (b : Int))
      rw [cells_len] at h1
      have h2 := (clen_some g1 g2).1
      simp only [fieldOf]; omega
    · unfold alone at hf
      split at hf
      · simp at hf
      · simp only [List.mem_singleton] at hf
        subst hf
        refine ⟨fun x hx => ?_, by have := lettersAll_len s.cs; simp only; omega⟩
        simp only [lettersAll] at hx
        rw [List.mem_filter, List.mem_map] at hx
        obtain ⟨⟨o, ho, rfl⟩, _⟩ := hx
        exact h o ho
theorem modified_few (s : S) (c : Nat) (hz : 0 < s.cs.length) : (modified s c).fs.length ≤ s.cs.length := by
  unfold modified
  split
  · simp
  · simp only
    split
    · rw [← modsTo_all, modsTo_len]; exact cnt_max _ _
    · unfold alone
      split
      · simp
      · simp; omega
/-- A submission that is modified lies on the screen. -/
theorem modified_ok {s : S} {c : Nat} (h : sright s = true) (hz : 0 < s.cs.length) : 0 ≤ (modified s c).cur ∧ (modified s c).cur < (s.cs.length : Int) ∧ ∀ f ∈ (modified s c).fs, f.a < (s.cs.length : Int) := by
  obtain ⟨_, _, h3, h4, _⟩ := sright_parts h
  unfold modified
  split
  · exact ⟨by simp, by simp only; omega, nofun⟩
  · refine ⟨by simp only; omega, by simp only; omega, fun f hf => ?_⟩
    simp only at hf
    split at hf
    · obtain ⟨b, hb, rfl⟩ := List.mem_map.1 hf
      have := on_lt hz (b : Int) 1
      simp only [fieldOf]; omega
    · unfold alone at hf
      split at hf
      · simp at hf
      · simp only [List.mem_singleton] at hf
        subst hf
        simp only; omega
theorem asks_yes {s : S} {c : Nat} (h : Att.aid c = true) : asks s c = modified s c ∧ asksE c = 0 := by
  unfold asks asksE; rw [h]; exact ⟨rfl, rfl⟩
theorem asks_no {s : S} {c : Nat} (h : Att.aid c = false) : asks s c = Inp.noneI ∧ asksE c = 3 := by
  unfold asks asksE; rw [h]; exact ⟨rfl, rfl⟩
end Red
end Go.Proofs.YtpdlpmbjhopnnaaGreatDoor
/- What Reply answers: bytes and an error. -/
namespace Go.Proofs.YtpdlpmbjhopnnaaGreatDoor
open Go.RowKit Sha Six Apd Cut Err
set_option linter.unusedVariables false
namespace Red
/-- Bytes and an error, all of it new memory. -/
def GaveB (w w' : World) (bs : List Nat) (code wh : Int) (e : Ending) : Prop := ∃ va vc ev, e = .returned (.tuple #[.slice va bs.length vc, ev]) ∧ w'.ownsRow w.heap.size 5 1 (.slice va bs.length vc) bs.length (u8s bs) ∧ Err.Told w' ev code wh ∧ (code = 0 → ev = .nilIface) ∧ Below w.heap.size w w'
theorem told_errn (w : World) (code : Nat) : Err.Told w (Scr.errn code) code (-1) := by
  unfold Scr.errn
  split
  · exact .inl ⟨rfl, by omega, rfl⟩
  · exact .inr (.inl ⟨rfl, rfl⟩)
end Red
end Go.Proofs.YtpdlpmbjhopnnaaGreatDoor
/- Plain: an empty screen is right, an image's orders are, and its bytes are read as they were. -/
namespace Go.Proofs.YtpdlpmbjhopnnaaGreatDoor
set_option linter.unusedVariables false
namespace Red
open Grd Fld Pnt
open Go.Proofs.YtpdlpmbjhopnnaaGreatDoor.Ord (O none_ wrong)
theorem ow_each {z : Nat} : ∀ (os : List O) (p : Bool) (i : Nat), (Go.Proofs.YtpdlpmbjhopnnaaGreatDoor.Str.ow z p i os).1 = 0 → ∀ o ∈ os, wrong o z = 0
  | [], _, _, _ => nofun
  | o :: os, p, i, h => by
    unfold Go.Proofs.YtpdlpmbjhopnnaaGreatDoor.Str.ow at h
    split at h
    · rename_i h0
      exact absurd h h0
    · rename_i h0
      split at h
      · simp at h
      · intro x hx
        rcases List.mem_cons.1 hx with rfl | hx
        · simpa using h0
        · exact ow_each os _ _ h x hx
theorem image_pwrong {s : S} (h : sright s = true) : pwrong s.cs.length (image s) = none := pwrong_all fun o ho => ow_each _ _ _ (image_right h) o ho
theorem image_back {s : S} (h : sright s = true) (hl : s.cs.length ≤ 4000) : Go.Proofs.YtpdlpmbjhopnnaaGreatDoor.Str.cread (imageB s) s.cs.length = (⟨241, false, false, false, image s⟩, 0, -1) := by
  unfold imageB
  rw [image_write h hl]
  exact image_read h hl
theorem empty_right {s : S} (h : sright s = true) : sright ⟨s.rows, s.cols, List.replicate s.cs.length noC, 0, false, false⟩ = true := by
  obtain ⟨h1, h2, h3, h4, _⟩ := sright_parts h
  simp only [sright, Bool.and_eq_true, decide_eq_true_eq, List.all_eq_true, List.length_replicate]
  refine ⟨h1, h2, Int.le_refl 0, by omega, fun o ho => ?_⟩
  rw [(List.mem_replicate.1 ho).2]
  decide
theorem empty_sound (n : Nat) : Sound (List.replicate n noC) := by
  intro o ho
  rw [(List.mem_replicate.1 ho).2]
  decide
theorem take_any {cs : List C} {q : Nat} (hq : q < cs.length) : (cs.take (q + 1)).any (·.f) = ((cs.take q).any (·.f) || fat cs q) := by
  rw [List.take_add_one, List.any_append, List.getElem?_eq_getElem hq]
  unfold fat
  rw [List.getD_eq_getElem?_getD, List.getElem?_eq_getElem hq]
  simp
theorem cnt_next (p : Nat → Bool) (q : Nat) : cnt p (q + 1) = if p q = true then cnt p q + 1 else cnt p q := by
  rw [cnt]
  cases p q <;> simp
end Red
end Go.Proofs.YtpdlpmbjhopnnaaGreatDoor
