/- RgnRound, FldWalk, FldBegin, FldOfs, FldFirst, FldNext, FldFmt, FldVals, FldList, FldCells in one text (by tools/bundle.py). -/
import Derived.RangeFuncCalls
import Derived.Deep.RegionHeld3
import Derived.OrdersIn
import Derived.Test.YtpdlpmbjhopnnaaGreatDoorProg
import Derived.RangeFuncNested
import Derived.RangeFuncBound
import Derived.RangeFuncLeaves
import Derived.Shelf.Abstract
import Derived.Shelf.RegionOpen
import Derived.WalkKit
import Derived.OwnWalkIn
import Derived.TacticsInMore
import Derived.LoopNIn
import Derived.LoopIn
import Derived.Test.YtpdlpmbjhopnnaaGreatDoorBunGrd
import Derived.Test.YtpdlpmbjhopnnaaGreatDoorBunFld
import Derived.Laws.ResultCell
import Derived.RangeFuncBox
import Derived.Maps.AppendAt
/- A region in a round of a range over a function, by the plain laws (the fence that asks nothing). -/
namespace Go.Proofs.YtpdlpmbjhopnnaaGreatDoor
open Go.RowKit
namespace Rgn
def noDefer (ops : Array Oper) : Bool := ops.toList.all fun o => match o.op with | .defer _ => false | _ => true
theorem noDefer_spec {ops : Array Oper} (h : noDefer ops = true) {i : Nat} {o : Oper} (ho : ops[i]? = some o) : ∀ c, o.op ≠ .defer c := by
  intro c hc
  have hm : o ∈ ops.toList := by
    rw [Array.getElem?_eq_some_iff] at ho
    obtain ⟨hi, rfl⟩ := ho
    exact Array.getElem_mem_toList hi
  have := List.all_eq_true.1 h o hm
  rw [hc] at this
  cases this
theorem opsIn_of {P : Program} {ops : Array Oper} {Q : Exit → Act → World → Prop} (l n : Nat) (hd : noDefer ops = true) (hno : ¬ LetsOut Q) :
    ∀ (lst : List Nat) (a : Act) (w : World), wpOps P ops Q lst a w → wpOpsIn (Fence.wide.inRound l) n P ops Q lst a w
  | [], _, _, h => h
  | i :: rest, a, w, h => by
    simp only [wpOps, wpOpsIn] at h ⊢
    cases ho : ops[i]? with
    | none => simp only [ho] at h ⊢; exact opsIn_of l n hd hno rest a w h
    | some o =>
      simp only [ho] at h ⊢
      by_cases hw : Region.wanted o (yielded ops a.tmps) = true
      · rw [if_pos hw] at h ⊢
        rcases h with h | ⟨_, h⟩
        · refine ⟨fun _ _ => trivial, ?_⟩
          rw [Oper.semAt_eq _ _ _ (noDefer_spec hd ho)]
          unfold Oper.wp at h
          generalize (execOp a.eval o).run P w = r at *
          cases r with
          | ok x w' =>
            cases x <;> simp only [Oper.upon, Oper.uponIn] at h ⊢
            case value v => exact opsIn_of l n hd hno rest _ _ h
            case skip => exact opsIn_of l n hd hno rest _ _ h
            case defer d => exact opsIn_of l n hd hno rest _ _ h
            case enter f args =>
              refine ⟨nofun, CallsIn.inRound l (callsIn_wide.2 (h.mono fun e w'' he => ?_))⟩
              cases e with
              | returned v => exact opsIn_of l n hd hno rest _ _ he
              | panicked c => exact he
              | outgrown => exact he
            case row row args =>
              refine ⟨nofun, fun c cs _ => ?_⟩
              obtain ⟨v, w'', he, hs⟩ := h c cs
              exact ⟨v, w'', opsIn_of l n hd hno rest _ _ he, stepsIn_wide.2 hs⟩
          | halt x w' => cases x <;> simp only [Oper.upon, Oper.uponIn] at h ⊢ <;> exact h
        · exact absurd h hno
      · rw [if_neg hw] at h ⊢
        exact ⟨fun _ _ => trivial, opsIn_of l n hd hno rest _ _ h⟩
/-- A region that draws, with a condition that each step keeps. -/
theorem region_held {P : Program} {ops : Array Oper} {Q : Exit → Act → World → Prop} {S : World → Prop} {id : Nat} {a : Act} {w : World} (l n : Nat) (hd : noDefer ops = true) (hno : ¬ LetsOut Q) (hm : P.follows .mixedOrders = true) (hS : S w.drew)
    (h : S w.drew → wpAnyH P .any ops Q S ops.size (Array.replicate ops.size false) a w.drew) : (Code.region id ops true).wpIn (Fence.wide.inRound l) n P Q a w :=
  wpIn_region_draw fun t => opsIn_of l n hd hno _ _ _ (by
    simp only [Region.schedule, hm, Bool.true_or, if_true]
    exact wpAny_sound ops.size t _ a _ (wpAny_of_held _ _ _ _ (h hS)))
end Rgn
end Go.Proofs.YtpdlpmbjhopnnaaGreatDoor
/- The iterator over all cells of a screen (walk of package field). -/
namespace Go.Proofs.YtpdlpmbjhopnnaaGreatDoor
open Go.RowKit Sha Six Apd Cut Err Att Grd
set_option linter.unusedVariables false
attribute [local go_sem] Oper.semAt_some
namespace Fld
/-- The four blocks that the iterator reads. -/
structure Boxes (W : World) (B : Nat) (sv : Array Value) (a m st : Int) : Prop where
  b0 : W.heap[B]? = some (.cells sv 24)
  b1 : W.heap[B + 1]? = some (.cells #[.int .i64 a] 3)
  b2 : W.heap[B + 2]? = some (.cells #[.int .i64 m] 3)
  b3 : W.heap[B + 3]? = some (.cells #[.int .i64 st] 3)
/-- What a round keeps. -/
def Kp4 (B : Nat) (A W : World) : Prop := ∀ k, B ≤ k → k < B + 4 → W.heap[k]? = A.heap[k]?
theorem Boxes.kept {A W : World} {B : Nat} {sv : Array Value} {a m st : Int} (h : Boxes A B sv a m st) (hk : Kp4 B A W) : Boxes W B sv a m st :=
  ⟨(hk B (by omega) (by omega)).trans h.b0, (hk (B + 1) (by omega) (by omega)).trans h.b1, (hk (B + 2) (by omega) (by omega)).trans h.b2, (hk (B + 3) (by omega) (by omega)).trans h.b3⟩
theorem Boxes.lt {A : World} {B : Nat} {sv : Array Value} {a m st : Int} (h : Boxes A B sv a m st) : B + 4 ≤ A.heap.size := by
  have := (Array.getElem?_eq_some_iff.1 h.b3).1; omega
theorem kp4_below {A W : World} {B n : Nat} (h : Below n A W) (hn : B + 4 ≤ n) : Kp4 B A W := fun k _ h2 => h.block k (by omega)
theorem grown_of {A W : World} (h : Below A.heap.size A W) : A.grownBy W none := ⟨h.os, h.tape, h.output, h.size, fun k hk _ => h.block k hk⟩
/-- What has come when k rounds are over. -/
def upto {α : Type} (f : Nat → α) (k : Nat) : List α := (List.range k).map f
theorem upto_succ {α : Type} (f : Nat → α) (k : Nat) : upto f (k + 1) = upto f k ++ [f k] := by simp [upto, List.range_succ]
theorem upto_length {α : Type} (f : Nat → α) (k : Nat) : (upto f k).length = k := by simp [upto]
theorem upto_last {α : Type} {f : Nat → α} {q : Nat} {p : List α} {x : α} (h : p ++ [x] = upto f q) : ∃ j, q = j + 1 ∧ p = upto f j ∧ x = f j := by
  cases q with
  | zero => have := congrArg List.length h; rw [upto_length] at this; simp at this
  | succ j =>
    rw [upto_succ] at h
    obtain ⟨h1, h2⟩ := List.append_inj' h rfl
    injection h2 with h2
    exact ⟨j, rfl, h1, h2⟩
theorem mem_upto {α : Type} {f : Nat → α} {q i : Nat} (h : i < q) : f i ∈ upto f q := by
  unfold upto; exact List.mem_map.2 ⟨i, List.mem_range.2 h, rfl⟩
theorem kp4_t {B : Nat} {X Y Z : World} (h : Kp4 B X Y) (k : Kp4 B Y Z) : Kp4 B X Z := fun i h1 h2 => (k i h1 h2).trans (h i h1 h2)
theorem kp4_b {B : Nat} {w : World} (hB : B + 4 ≤ w.heap.size) (W : World) (l : Nat) (o o' : Obj) (hl : w.heap.size ≤ l) (h : W.heap[l]? = some o) (_ : o.isCells = false) (_ : o.isWalk = false) : Kp4 B W (W.putObj l o') :=
  fun k _ h2 => World.putObj_heap_other (by omega)
theorem ownFrom_grown {β : Type} {w : World} {L : Option Nat} : OwnFrom w.heap.size (fun (_ : β) W => w.grownBy W L) :=
  fun _ _ _ row hs hg hr => ⟨hg.os.trans hs.os, hg.tape.trans hs.tape, hg.output.trans hs.output, Nat.le_trans hs.size hg.size, fun k hk hn => (hg.block k (Nat.lt_of_lt_of_le hk hs.size) (fun e => by have := (hr k e.symm).1; omega)).trans (hs.block k hk hn)⟩
theorem grown_t {X Y Z : World} {L : Option Nat} (h : X.grownBy Y L) (k : Y.grownBy Z L) : X.grownBy Z L :=
  ⟨k.os.trans h.os, k.tape.trans h.tape, k.output.trans h.output, Nat.le_trans h.size k.size, fun i hi hn => (k.block i (Nat.lt_of_lt_of_le hi h.size) hn).trans (h.block i hi hn)⟩
theorem grown_none {X Y : World} {L : Option Nat} (h : X.grownBy Y none) : X.grownBy Y L := ⟨h.os, h.tape, h.output, h.size, fun i hi _ => h.block i hi nofun⟩
theorem grown_below {X Y : World} {L n : Nat} (h : X.grownBy Y (some L)) (hn : n ≤ L) (hx : n ≤ X.heap.size) : Below n X Y := ⟨h.os, h.tape, h.output, h.size, fun k hk => h.block k (by omega) (fun e => by injection e; omega)⟩
/-- A place on a screen of z cells. -/
abbrev Pl (z : Nat) := { x : Nat // x < z }
def wseq (z : Nat) (hz : 0 < z) (a m st : Int) (i : Nat) : Pl z := ⟨on z a (m + (i : Int) * st), on_lt hz _ _⟩
theorem wseq_val {z : Nat} {hz : 0 < z} {a m st t : Int} {i : Nat} (h : m + (i : Int) * st = t) : (wseq z hz a m st i).1 = on z a t := by rw [← h]; rfl
theorem box6 {w : World} {b : Nat} {x0 x1 x2 x3 x4 x5 : Value} {t : TypeId} (h : w.heap[b]? = some (.cells #[x0, x1, x2, x3, x4, x5] t)) :
    w.cell? ⟨b, 0, none⟩ = some x0 ∧ w.cell? ⟨b, 0 + 1, none⟩ = some x1 ∧ w.cell? ⟨b, 0 + 2, none⟩ = some x2 ∧ w.cell? ⟨b, 0 + 3, none⟩ = some x3 ∧ w.cell? ⟨b, 0 + 4, none⟩ = some x4 ∧ w.cell? ⟨b, 0 + 5, none⟩ = some x5 := by
  simp [World.cell?, h]
set_option maxRecDepth 100000 in
set_option maxHeartbeats 8000000 in
theorem walk1_in (F : Fence) (n : Nat) (h0 : F.fn 137) (h1 : F.fn 28) (h2 : F.fn 89) (hro : F.round = none) (hn : 2 ≤ n)
    (r c : Int) (ad : Option Addr) (z k : Nat) (cur : Int) (lk ins : Bool) (hz : 0 < z) (hz2 : z < 10000) (a m st : Int) (ha : -100000 < a ∧ a < 100000) (hm : -100000 < m ∧ m < 100000) (hst : -2 < st ∧ st < 2)
    (HS : ∀ W, CallsIn F (n - 1) Tryz.prog 28 #[.agg #[.int .i64 r, .int .i64 c, .slice ad z k, .int .i64 cur, .bool lk, .bool ins]] W fun e w' => e = .returned (.int .i64 (z : Int)) ∧ Below W.heap.size W w')
    (HO : ∀ (i : Int) W, IntKind.i64.wrap i = i → CallsIn F (n - 1) Tryz.prog 89 #[.agg #[.int .i64 r, .int .i64 c, .slice ad z k, .int .i64 cur, .bool lk, .bool ins], .int .i64 a, .int .i64 i] W fun e w' => e = .returned (.int .i64 ((on z a i : Nat) : Int)) ∧ Below W.heap.size W w')
    (l B : Nat) (J Jx : List (Pl z) → World → Prop) (W : World) (hJ : AbidesFrom W.heap.size J)
    (hY : ∀ (pre : List (Pl z)) (x : Pl z) W1, J pre W1 → pre.length < z → YieldAt F (n - 1) Tryz.prog l #[.int .i64 (x.1 : Int)] W1 fun e W' =>
      (e = .returned (.bool true) ∧ J (pre ++ [x]) W' ∧ Kp4 B W1 W') ∨ (e = .returned (.bool false) ∧ Jx (pre ++ [x]) W'))
    (hB : Boxes W B #[.int .i64 r, .int .i64 c, .slice ad z k, .int .i64 cur, .bool lk, .bool ins] a m st) (hj0 : J [] W) :
    CallsIn F n Tryz.prog 137 #[.func (.yield l) #[] #[], .pointer (some ⟨B, 0, none⟩), .pointer (some ⟨B + 1, 0, none⟩), .pointer (some ⟨B + 2, 0, none⟩), .pointer (some ⟨B + 3, 0, none⟩)] W fun e W' => (∃ v, e = .returned v) ∧
      ((∃ ys, ys = upto (wseq z hz a m st) z ∧ J ys W') ∨ (∃ pre, (∃ q, q ≤ z ∧ pre = upto (wseq z hz a m st) q) ∧ Jx pre W')) := by
  have HB := Lib.hid hB
  have HJ0 := Lib.hid hj0
  have HN := Lib.hid hn
  obtain ⟨c0, c1, c2, c3, c4, c5⟩ := box6 hB.b0
  clear hB hj0
  have hn1 : 1 ≤ n := by omega
  have hn2 : 1 ≤ n - 1 := by omega
  refine callsIn_of_wp Tryz.func137 rfl h0 ?_ hro
  simp only [Tryz.ntmps137, List.size_toArray, List.length_cons, List.length_nil, Nat.reduceAdd, Nat.reduceSub, Array.replicate_succ, Array.replicate_zero, List.push_toArray, List.append_toArray, List.nil_append, List.cons_append]
  gi_wp2_with fail
  refine (HS _).mono ?_
  rintro e W1 ⟨rfl, hb1⟩
  have HB1 := Lib.hid (HB.out.kept (kp4_below hb1 HB.out.lt))
  have HJ1 := Lib.hid (hJ _ _ _ none HJ0.out (grown_of hb1) nofun)
  have HL := Lib.hid hb1.size
  clear hb1 c0 c1 c2 c3 c4 c5
  gi_wp2_with fail
  gi_loopw [9] (fun i wr => ∃ q : Nat, q ≤ z ∧ i = .int .i64 q ∧ Hid (J (upto (wseq z hz a m st) q) wr) ∧ Hid (Boxes wr B #[.int .i64 r, .int .i64 c, .slice ad z k, .int .i64 cur, .bool lk, .bool ins] a m st))
    (fun i _ => z - (intOf i).toNat)
  case atStart => exact ⟨0, Nat.zero_le _, rfl, HJ1, HB1⟩
  case round =>
    obtain ⟨q, hq, rfl, HJ, HB⟩ := hrel
    by_cases hlt : q < z
    · have e1 : wrap64 ((q : Int) * st) = (q : Int) * st := by
        rcases (by omega : st = -1 ∨ st = 0 ∨ st = 1) with rfl | rfl | rfl <;> (unfold wrap64; omega)
      have e2 : wrap64 (m + (q : Int) * st) = m + (q : Int) * st := by
        rcases (by omega : st = -1 ∨ st = 0 ∨ st = 1) with rfl | rfl | rfl <;> (unfold wrap64; omega)
      have e3 : IntKind.i64.wrap (m + (q : Int) * st) = m + (q : Int) * st := by
        rw [IntKind.wrap_i64]; unfold wrap64 at e2; exact e2
      have hi : (q : Int) < (z : Int) := by omega
      obtain ⟨c0, c1, c2, c3, c4, c5⟩ := box6 HB.out.b0
      have d1 : wr.cell? ⟨B + 1, 0, none⟩ = some (.int .i64 a) := by simp [World.cell?, HB.out.b1]
      have d2 : wr.cell? ⟨B + 2, 0, none⟩ = some (.int .i64 m) := by simp [World.cell?, HB.out.b2]
      have d3 : wr.cell? ⟨B + 3, 0, none⟩ = some (.int .i64 st) := by simp [World.cell?, HB.out.b3]
      obtain ⟨⟨res, hres⟩, hpx⟩ : ∃ px : Pl z, wseq z hz a m st q = px := ⟨_, rfl⟩
      have hv : on z a (m + (q : Int) * st) = res := congrArg Subtype.val hpx
      have HO2 := Lib.hid (hv ▸ HO (m + (q : Int) * st) wr e3)
      clear hv
      clear e3
      have HX := Lib.hid (show upto (wseq z hz a m st) (q + 1) = upto (wseq z hz a m st) q ++ [⟨res, hres⟩] by rw [upto_succ, hpx])
      clear hpx
      have HLT := Lib.hid hlt
      gi_wp2_with fail
      with_reducible refine HO2.out.mono ?_
      rintro e W2 ⟨rfl, hb2⟩
      have HB2 := Lib.hid (HB.out.kept (kp4_below hb2 HB.out.lt))
      have hj2 := hJ _ _ _ none HJ.out (grown_of hb2) nofun
      clear hb2 c0 c1 c2 c3 c4 c5 d1 d2 d3
      obtain ⟨fn, tmps, assign, body, hy, hR⟩ := hY _ ⟨res, hres⟩ W2 hj2 (by rw [upto_length]; exact hlt)
      replace hR := Lib.hid hR
      clear hj2
      dsimp only at hy
      gi_wp2_with fail
      refine hR.out.mono ?_
      rintro e W3 (⟨rfl, hJ3, hk3⟩ | ⟨rfl, hJx3⟩)
      · have HJ3 := Lib.hid hJ3
        have HB3 := Lib.hid (HB2.out.kept hk3)
        clear hJ3 hk3
        gi_wp2_with fail
        go_roundw
        case rel => exact ⟨q + 1, hlt, by simp, Lib.hid (by rw [HX.out]; exact HJ3.out), HB3⟩
        case measure => simp [intOf]; omega
      · have HJX := Lib.hid hJx3
        clear hJx3
        gi_wp2_with fail
        refine bodyPost_ret (results_none rfl _ _ _) rfl ?_
        exact ⟨⟨_, rfl⟩, .inr ⟨_, ⟨q + 1, hlt, rfl⟩, by rw [HX.out]; exact HJX.out⟩⟩
    · obtain rfl : q = z := by omega
      gi_wp2_with fail
      go_end0
      exact ⟨⟨_, rfl⟩, .inl ⟨_, rfl, HJ.out⟩⟩
set_option maxRecDepth 100000 in
set_option maxHeartbeats 4000000 in
/-- What walk hands back: the iterator, over four new blocks. -/
theorem walk_any (r c : Int) (ad : Option Addr) (z k : Nat) (cur : Int) (lk ins : Bool) (a m st : Int) (w : World) :
    Calls Tryz.prog 122 #[.agg #[.int .i64 r, .int .i64 c, .slice ad z k, .int .i64 cur, .bool lk, .bool ins], .int .i64 a, .int .i64 m, .int .i64 st] w fun e w' =>
      e = .returned (.func (.func 137) #[] #[.pointer (some ⟨w.heap.size, 0, none⟩), .pointer (some ⟨w.heap.size + 1, 0, none⟩), .pointer (some ⟨w.heap.size + 2, 0, none⟩), .pointer (some ⟨w.heap.size + 3, 0, none⟩)]) ∧
      Boxes w' w.heap.size #[.int .i64 r, .int .i64 c, .slice ad z k, .int .i64 cur, .bool lk, .bool ins] a m st ∧ Below w.heap.size w w' ∧ w'.heap.size = w.heap.size + 4 := by
  have HR := Lib.hid (show Boxes ((((w.alloc (.cells #[.int .i64 r, .int .i64 c, .slice ad z k, .int .i64 cur, .bool lk, .bool ins] 24)).alloc (.cells #[.int .i64 a] 3)).alloc (.cells #[.int .i64 m] 3)).alloc (.cells #[.int .i64 st] 3)) w.heap.size #[.int .i64 r, .int .i64 c, .slice ad z k, .int .i64 cur, .bool lk, .bool ins] a m st ∧
      Below w.heap.size w ((((w.alloc (.cells #[.int .i64 r, .int .i64 c, .slice ad z k, .int .i64 cur, .bool lk, .bool ins] 24)).alloc (.cells #[.int .i64 a] 3)).alloc (.cells #[.int .i64 m] 3)).alloc (.cells #[.int .i64 st] 3)) ∧
      ((((w.alloc (.cells #[.int .i64 r, .int .i64 c, .slice ad z k, .int .i64 cur, .bool lk, .bool ins] 24)).alloc (.cells #[.int .i64 a] 3)).alloc (.cells #[.int .i64 m] 3)).alloc (.cells #[.int .i64 st] 3)).heap.size = w.heap.size + 4 from by
    refine ⟨⟨?_, ?_, ?_, ?_⟩, kept_trans (al_any w _) (kept_trans (al_any _ _) (kept_trans (al_any _ _) (al_any _ _))), by simp⟩
    · rw [Below.heap_alloc _ _ _ (by simp <;> omega), Below.heap_alloc _ _ _ (by simp <;> omega), Below.heap_alloc _ _ _ (by simp)]; exact World.alloc_heap_new w _
    · rw [Below.heap_alloc _ _ _ (by simp <;> omega), Below.heap_alloc _ _ _ (by simp)]
      have := World.alloc_heap_new (w.alloc (.cells #[.int .i64 r, .int .i64 c, .slice ad z k, .int .i64 cur, .bool lk, .bool ins] 24)) (.cells #[.int .i64 a] 3)
      rwa [World.size_alloc] at this
    · rw [Below.heap_alloc _ _ _ (by simp)]
      have := World.alloc_heap_new ((w.alloc (.cells #[.int .i64 r, .int .i64 c, .slice ad z k, .int .i64 cur, .bool lk, .bool ins] 24)).alloc (.cells #[.int .i64 a] 3)) (.cells #[.int .i64 m] 3)
      rwa [World.size_alloc, World.size_alloc] at this
    · have := World.alloc_heap_new (((w.alloc (.cells #[.int .i64 r, .int .i64 c, .slice ad z k, .int .i64 cur, .bool lk, .bool ins] 24)).alloc (.cells #[.int .i64 a] 3)).alloc (.cells #[.int .i64 m] 3)) (.cells #[.int .i64 st] 3)
      rwa [World.size_alloc, World.size_alloc, World.size_alloc] at this)
  go_enter Tryz.func122, Tryz.ntmps122
  go_wp2_with fail
  go_ret
  exact ⟨rfl, HR.out⟩
/-- The iterator's contract. -/
theorem walk_stops (n : Nat) (hn : 2 ≤ n) (r c : Int) (ad : Option Addr) (z k : Nat) (cur : Int) (lk ins : Bool) (hz : 0 < z) (hz2 : z < 10000) (a m st : Int) (ha : -100000 < a ∧ a < 100000) (hm : -100000 < m ∧ m < 100000) (hst : -2 < st ∧ st < 2)
    (w : World) (B : Nat) (hB : Boxes w B #[.int .i64 r, .int .i64 c, .slice ad z k, .int .i64 cur, .bool lk, .bool ins] a m st) :
    SeqStopsK Fence.wide n Tryz.prog 137 #[.pointer (some ⟨B, 0, none⟩), .pointer (some ⟨B + 1, 0, none⟩), .pointer (some ⟨B + 2, 0, none⟩), .pointer (some ⟨B + 3, 0, none⟩)] (fun x : Pl z => #[Value.int .i64 (x.1 : Int)]) (Kp4 B)
      (fun ys => ys = upto (wseq z hz a m st) z) (fun pre => ∃ q, q ≤ z ∧ pre = upto (wseq z hz a m st) q) z w := fun l J Jx W hW hJ _ hY h0 =>
  walk1_in Fence.wide n trivial trivial trivial rfl hn r c ad z k cur lk ins hz hz2 a m st ha hm hst
    (fun W => callsIn_wide.2 (size_any r c ad z k cur lk ins W))
    (fun i W hi => callsIn_wide.2 (on_any r c ad z k cur lk ins a i W hz (by omega) (by rw [IntKind.wrap_i64]; omega) hi))
    l B J Jx W hJ hY (hB.kept (kp4_below hW hB.lt)) h0
end Fld
end Go.Proofs.YtpdlpmbjhopnnaaGreatDoor
/- Begin of package field. -/
namespace Go.Proofs.YtpdlpmbjhopnnaaGreatDoor
open Go.RowKit Sha Six Apd Cut Err Att Grd
set_option linter.unusedVariables false
attribute [local go_sem] Oper.semAt_some
namespace Fld
/-- A screen's box as a value. -/
abbrev sbox (s : S) (ad : Option Addr) (k : Nat) : Array Value := #[.int .i64 s.rows, .int .i64 s.cols, .slice ad s.cs.length k, .int .i64 s.cur, .bool s.lk, .bool s.ins]
set_option maxRecDepth 100000 in
set_option maxHeartbeats 8000000 in
theorem fbegin_any (s : S) (ad : Option Addr) (k : Nat) (a : Nat) (w : World) (h : CelsIn w (.slice ad s.cs.length k) s.cs) (h8 : Sound s.cs) (hz : 0 < s.cs.length) (hl : s.cs.length < 10000) (ha : a < s.cs.length) :
    Calls Tryz.prog 94 #[.agg #[.int .i64 s.rows, .int .i64 s.cols, .slice ad s.cs.length k, .int .i64 s.cur, .bool s.lk, .bool s.ins], .int .i64 (a : Int)] w fun e w' => e = .returned (.int .i64 (begin_ s.cs a)) ∧ Below w.heap.size w w' := by
  have HB := Lib.hid (al_any w (.cells (sbox s ad k) 24))
  have HX := Lib.hid (heap_alloc_new w (.cells (sbox s ad k) 24))
  have HI := Lib.hid (h.below HB.out)
  have HZ := Lib.hid hz
  have HL := Lib.hid hl
  have HA := Lib.hid ha
  clear h hz hl ha
  refine (callsIn_wide (n := 4)).1 ?_
  refine callsIn_of_wp_marks Tryz.func94 rfl trivial ?_ rfl
  simp only [Tryz.ntmps94, List.size_toArray, List.length_cons, List.length_nil, Nat.reduceAdd, Nat.reduceSub, Array.replicate_succ, Array.replicate_zero, List.push_toArray, List.append_toArray, List.nil_append, List.cons_append]
  refine wpIn_wide.2 ?_
  go_wp2_with fail
  obtain ⟨w1, hw1⟩ : ∃ w1 : World, (w.alloc (.cells (sbox s ad k) 24)).alloc (.cells #[.int .i64 0] 3) = w1 := ⟨_, rfl⟩
  have HS1 := Lib.hid (show w1.heap[w.heap.size]? = some (.cells (sbox s ad k) 24) by rw [← hw1, Below.heap_alloc _ _ _ (by simp)]; exact HX.out)
  have HR1 := Lib.hid (show w1.heap[w.heap.size + 1]? = some (.cells #[.int .i64 0] 3) by rw [← hw1]; have := World.alloc_heap_new (w.alloc (.cells (sbox s ad k) 24)) (.cells #[.int .i64 0] 3); rwa [World.size_alloc] at this)
  have HB1 := Lib.hid (show Below w.heap.size w w1 by rw [← hw1]; exact kept_trans HB.out (al_any _ _))
  have HI1 := Lib.hid (show CelsIn w1 (.slice ad s.cs.length k) s.cs by rw [← hw1]; exact HI.out.below (al_any _ _))
  have HN1 := Lib.hid (show w1.heap.size = w.heap.size + 2 by rw [← hw1]; simp)
  rw [hw1]
  clear hw1 HB HX HI
  refine (walk_any _ _ _ _ _ _ _ _ _ _ _ _).mono ?_
  rintro e w2 ⟨rfl, hbox, hb2, hn2⟩
  have HS2 := Lib.hid (show w2.heap[w.heap.size]? = some (.cells (sbox s ad k) 24) from (hb2.block _ (by have := HN1.out; omega)).trans HS1.out)
  have HR2 := Lib.hid (show w2.heap[w.heap.size + 1]? = some (.cells #[.int .i64 0] 3) from (hb2.block _ (by have := HN1.out; omega)).trans HR1.out)
  have HB2 := Lib.hid (kept_trans HB1.out hb2)
  have HI2 := Lib.hid (HI1.out.below hb2)
  have HN2 := Lib.hid (show w2.heap.size = w.heap.size + 6 by have := HN1.out; omega)
  have HBX := Lib.hid hbox
  clear hbox hb2 hn2 HB1 HI1
  go_wp2_with fail
  refine (wpIn_wide (n := 4)).1 ?_
  refine wpIn_rangeFunc_ownG rfl (by omega) (gf := 137) (lb := #[.pointer (some ⟨w1.heap.size, 0, none⟩), .pointer (some ⟨w1.heap.size + 1, 0, none⟩), .pointer (some ⟨w1.heap.size + 2, 0, none⟩), .pointer (some ⟨w1.heap.size + 3, 0, none⟩)]) rfl trivial (enters_of Tryz.func137 (by kernel_rfl) rfl)
    (walk_stops 3 (by omega) s.rows s.cols ad s.cs.length k s.cur s.lk s.ins HZ.out HL.out (a : Int) 0 (-1) (by have := HL.out; have := HA.out; omega) (by omega) (by omega) w2 w1.heap.size HBX.out)
    kp4_t (kp4_b (by have := HN1.out; have := HN2.out; omega)) (Below.refl _ _) (fun _ => rfl)
    (fun pre W => (∀ y ∈ pre, fat s.cs y.1 = false) ∧ w2.grownBy W none)
    (fun c pre W => (c = .ret ∧ ∃ p x, pre = p ++ [x] ∧ (∀ y ∈ p, fat s.cs y.1 = false) ∧ fat s.cs x.1 = true ∧ W.cell? ⟨w.heap.size + 1, 0, none⟩ = some (.int .i64 (x.1 : Int))) ∧ w2.grownBy W (some (w.heap.size + 1)))
    (OwnFrom.and (ownFrom_pure _ _) ownFrom_grown)
    (fun c => OwnFrom.and (Own.from (fun q X Y row hs hg hr => ⟨hs.1, by obtain ⟨p, x, e, h1, h2, h3⟩ := hs.2; exact ⟨p, x, e, h1, h2, cell_kept h3 hg hr⟩⟩) _) ownFrom_grown)
    ⟨nofun, grown_of (Below.refl _ _)⟩
    (fun x => { tmps := #[.agg (sbox s ad k), .int .i64 (a : Int), .pointer (some ⟨w.heap.size, 0, none⟩), undef, .pointer (some ⟨w.heap.size + 1, 0, none⟩), .int .i64 (x.1 : Int), .agg (sbox s ad k), .int .i64 (a : Int), .func (.func 137) #[] #[.pointer (some ⟨w1.heap.size, 0, none⟩), .pointer (some ⟨w1.heap.size + 1, 0, none⟩), .pointer (some ⟨w1.heap.size + 2, 0, none⟩), .pointer (some ⟨w1.heap.size + 3, 0, none⟩)], .int .i64 (x.1 : Int), undef, undef, undef, undef, undef, undef, undef], defers := [] }) ?assign ?body ?done ?stop
  case assign =>
    intro l x W K hK
    gi_wp2
    exact hK
  case body =>
    rintro l pre ⟨x, hx⟩ W ⟨hp, hg⟩ hlt
    have HP := Lib.hid hp
    have HG := Lib.hid hg
    have HBW := Lib.hid (show Below w2.heap.size w2 W from ⟨hg.os, hg.tape, hg.output, hg.size, fun k hk => hg.block k hk nofun⟩)
    clear hp hg hlt
    obtain ⟨c0, c1, c2, c3, c4, c5⟩ := box6 ((HBW.out.block _ (by have := HN2.out; omega)).trans HS2.out)
    have hr0 : W.heap[w.heap.size + 1]? = some (.cells #[.int .i64 0] 3) := (HBW.out.block _ (by have := HN2.out; omega)).trans HR2.out
    have r0 : W.cell? ⟨w.heap.size + 1, 0, none⟩ = some (.int .i64 0) := by simp [World.cell?, hr0]
    have r1 : W.frozen? ⟨w.heap.size + 1, 0, none⟩ = false := by simp [World.frozen?, hr0]
    obtain ⟨xf, xp, xn, xs, xm, xc, ex⟩ := c_eta (s.cs.getD x noC)
    obtain ⟨b1, o1, rfl, g0, g1, g2, g3, g4, g5⟩ := (HI2.out.below HBW.out).cells hx ex
    have HQ := Lib.hid (fat_of ex)
    have hi0 : (0 : Int) ≤ (x : Int) := by omega
    have hi1 : (x : Int) < (s.cs.length : Int) := by omega
    clear ex hr0
    cases xf with
    | true =>
      gi_wp2
      exact ⟨(KeepsOthers.setCell _ _ _).from _, ⟨rfl, pre, ⟨x, hx⟩, rfl, HP.out, HQ.out, World.cell?_setCell_same' _ _ _ (by rw [r0]; rfl)⟩, grown_t (grown_none HG.out) (grownBy_setCell' W _ _)⟩
    | false =>
      gi_wp2
      exact ⟨KeepsFrom.refl _ _, fun _ _ _ => rfl, fun y hy => (List.mem_append.1 hy).elim (HP.out y) (fun e => by rw [List.mem_singleton.1 e]; exact HQ.out), HG.out⟩
  case done =>
    rintro D ys W hD rfl ⟨hp, hg⟩ hK
    have HNO := Lib.hid (begin_no (cs := s.cs) (a := a) (fun j hj => by
      rw [← wseq_val (hz := HZ.out) (m := 0) (st := -1) (i := j) (by omega)]; exact hp _ (mem_upto hj)))
    have HBW := Lib.hid (show Below w2.heap.size w2 W from ⟨hg.os, hg.tape, hg.output, hg.size, fun k hk => hg.block k hk nofun⟩)
    have HK := Lib.hid hK
    have HD := Lib.hid hD
    have hr0 : W.heap[w.heap.size + 1]? = some (.cells #[.int .i64 0] 3) := (HBW.out.block _ (by have := HN2.out; omega)).trans HR2.out
    have r0 : W.cell? ⟨w.heap.size + 1, 0, none⟩ = some (.int .i64 0) := by simp [World.cell?, hr0]
    have r1 : W.frozen? ⟨w.heap.size + 1, 0, none⟩ = false := by simp [World.frozen?, hr0]
    clear hp hg hK hD hr0
    go_wp2_with fail
    have hK' := (KeepsOthers.setCell W ⟨w.heap.size + 1, 0, none⟩ (.int .i64 (-1))).same D _ HK.out rfl
    have hc5 := cell_kept (World.cell?_setCell_same' W ⟨w.heap.size + 1, 0, none⟩ (.int .i64 (-1)) (by rw [r0]; rfl)) (grownBy_putObj' _ D (.deferred none)) (fun r e => by cases e; exact ⟨_, hK', rfl⟩)
    refine ⟨by simp, .inl ⟨_, _, rfl, run_takeDeferred hK', ?_⟩⟩
    refine ⟨.int .i64 (-1), by simp [results, Tryz.f94, go_sem, hc5], by rw [HNO.out], ?_⟩
    refine (HB2.out.trans (HBW.out.mono (by have := HN2.out; omega))).trans ?_
    exact ((Below.refl w.heap.size W).setCell (p := ⟨w.heap.size + 1, 0, none⟩) (by simp) _).trans (belowK_b (w := w) (Nat.le_refl _) _ D _ _ (by have := HN2.out; have := HD.out; omega) hK' rfl rfl)
  case stop =>
    rintro D c pre W hD ⟨q, hq, hpre⟩ ⟨⟨rfl, p, x, he, h1, h2, h3⟩, hg⟩ hK
    obtain ⟨j, rfl, rfl, rfl⟩ := upto_last (he.symm.trans hpre)
    have HBA := Lib.hid (begin_at (cs := s.cs) (a := a) (k := j) (by omega) (by rw [← wseq_val (hz := HZ.out) (m := 0) (st := -1) (i := j) (by omega)]; exact h2)
      (fun i hi => by rw [← wseq_val (hz := HZ.out) (m := 0) (st := -1) (i := i) (by omega)]; exact h1 _ (mem_upto hi)))
    rw [wseq_val (hz := HZ.out) (m := 0) (st := -1) (i := j) (t := -(j : Int)) (by omega)] at h3
    gi_wp2
    have hc5 := cell_kept h3 (grownBy_putObj' _ D (.deferred none)) (fun r e => by cases e; exact ⟨_, hK, rfl⟩)
    refine ⟨by simp, .inl ⟨_, _, rfl, run_takeDeferred hK, ?_⟩⟩
    refine ⟨_, by simp [results, Tryz.f94, go_sem, hc5]; rfl, by rw [HBA.out], ?_⟩
    refine (HB2.out.trans (grown_below hg (by omega) (by have := HN2.out; omega))).trans ?_
    exact belowK_b (w := w) (Nat.le_refl _) _ D _ _ (by have := HN2.out; omega) hK rfl rfl
theorem begin_ge {cs : List C} (hz : 0 < cs.length) : fmt cs = decide (0 ≤ begin_ cs 0) := by
  cases hf : fmt cs with
  | false => rw [begin_none hz hf]; rfl
  | true =>
    obtain ⟨_, b, _, _, hb, _⟩ := begin_some hz hf
    rw [hb]; exact (decide_eq_true (by omega)).symm
theorem begin_ne {cs : List C} {a : Nat} (ha : a < cs.length) : fat cs a = decide (begin_ cs a = (a : Int)) := by
  cases hf : fat cs a with
  | true => rw [begin_self ha hf]; exact (decide_eq_true rfl).symm
  | false =>
    refine (decide_eq_false fun he => ?_).symm
    cases hm : fmt cs with
    | false => rw [begin_none ha hm] at he; omega
    | true =>
      obtain ⟨_, b, _, _, hb, _, h2, _⟩ := begin_some ha hm
      rw [hb] at he
      obtain rfl : b = a := by omega
      rw [hf] at h2; cases h2
end Fld
end Go.Proofs.YtpdlpmbjhopnnaaGreatDoor
/- Of of package field: a field's attribute. -/
namespace Go.Proofs.YtpdlpmbjhopnnaaGreatDoor
open Go.RowKit Sha Six Apd Cut Err Att Grd
set_option linter.unusedVariables false
attribute [local go_sem] Oper.semAt_some
namespace Fld
set_option maxRecDepth 100000 in
set_option maxHeartbeats 8000000 in
theorem fof_any (s : S) (ad : Option Addr) (k : Nat) (a : Nat) (w : World) (h : CelsIn w (.slice ad s.cs.length k) s.cs) (h8 : Sound s.cs) (hz : 0 < s.cs.length) (hl : s.cs.length < 10000) (ha : a < s.cs.length) :
    Calls Tryz.prog 121 #[.agg #[.int .i64 s.rows, .int .i64 s.cols, .slice ad s.cs.length k, .int .i64 s.cur, .bool s.lk, .bool s.ins], .int .i64 (a : Int)] w fun e w' => e = .returned (.agg #[.bool (attrOf s.cs a).p, .bool (attrOf s.cs a).n, .int .i64 (attrOf s.cs a).s, .bool (attrOf s.cs a).m]) ∧ Below w.heap.size w w' := by
  have HB := Lib.hid (kept_trans (al_any w (.cells #[.int .i64 s.rows, .int .i64 s.cols, .slice ad s.cs.length k, .int .i64 s.cur, .bool s.lk, .bool s.ins] 24)) (al_any _ (.cells #[.bool false, .bool false, .int .i64 0, .bool false] 62)))
  have HX := Lib.hid (heap_alloc2_old w (.cells #[.int .i64 s.rows, .int .i64 s.cols, .slice ad s.cs.length k, .int .i64 s.cur, .bool s.lk, .bool s.ins] 24) (.cells #[.bool false, .bool false, .int .i64 0, .bool false] 62))
  have HY := Lib.hid (heap_alloc2_new w (.cells #[.int .i64 s.rows, .int .i64 s.cols, .slice ad s.cs.length k, .int .i64 s.cur, .bool s.lk, .bool s.ins] 24) (.cells #[.bool false, .bool false, .int .i64 0, .bool false] 62))
  have HI := Lib.hid (h.below HB.out)
  have HP := Lib.hid fun W hb => fbegin_any s ad k a W (HI.out.below hb) h8 hz hl ha
  have HA := Lib.hid ha
  clear h hz hl ha
  go_enter Tryz.func121, Tryz.ntmps121
  go_upto_region 1 with (fail)
  generalize (w.alloc _).alloc _ = w1 at *
  obtain ⟨c0, c1, c2, c3, c4, c5⟩ := cells6 HX.out
  go_wp2_with fail
  with_reducible refine (HP.out _ (Below.refl _ _)).mono ?_
  rintro e w2 ⟨rfl, hb⟩
  have K2 := kept_hid HB hb
  have X2 := Lib.hid (blk HX.out hb)
  have Y2 := Lib.hid (blk HY.out hb)
  have I2 := Lib.hid (HI.out.below hb)
  clear hb c0 c1 c2 c3 c4 c5 HB HX HY HI HP
  cases hf : fmt s.cs with
  | false =>
    rw [begin_none HA.out hf]
    have HE := Lib.hid (show attrOf s.cs a = noC by unfold attrOf; rw [begin_none HA.out hf]; rfl)
    obtain ⟨d0, d1, d2, d3⟩ := cells4 Y2.out
    obtain ⟨f0, f1, f2, f3⟩ := free4 Y2.out
    have SF := Lib.hid (over4g w2 (w.heap.size + 1) _ _ _ _ _ (.bool false) (.bool false) (.int .i64 0) (.bool false) Y2.out)
    clear hf
    go_wp2_with fail
    clear d0 d1 d2 d3 f0 f1 f2 f3
    generalize (((w2.setCell _ _).setCell _ _).setCell _ _).setCell _ _ = w4 at *
    refine bodyPost_ret (v := .agg #[.bool false, .bool false, .int .i64 0, .bool false]) (results_cell_row rfl _ _ (w.heap.size + 1) 62 _ (0, 0) _ rfl SF.out.1 Tryz.underlying62 rfl (by kernel_rfl)) rfl ?_
    exact ⟨by rw [HE.out]; rfl, below_grown K2.out SF.out.2 (by omega)⟩
  | true =>
    obtain ⟨kk, b, _, hbk, hbe, hbl, _, _⟩ := begin_some HA.out hf
    clear hbk
    rw [hbe]
    obtain ⟨xf, xp, xn, xs, xm, xc, ex⟩ := c_eta (s.cs.getD b noC)
    have HE := Lib.hid (show attrOf s.cs a = ⟨xf, xp, xn, xs, xm, xc⟩ by unfold attrOf; rw [hbe, if_neg (by omega), Int.toNat_natCast, ex])
    obtain ⟨b1, o1, rfl, g0, g1, g2, g3, g4, g5⟩ := I2.out.cells hbl ex
    have g2' : w2.cell? ⟨b1, o1 + b * 6 + 1 + 1, none⟩ = some (.bool xn) := g2
    have g3' : w2.cell? ⟨b1, o1 + b * 6 + 1 + 2, none⟩ = some (.int .i64 xs) := g3
    have g4' : w2.cell? ⟨b1, o1 + b * 6 + 1 + 3, none⟩ = some (.bool xm) := g4
    have hi0 : (0 : Int) ≤ (b : Int) := by omega
    have hi1 : (b : Int) < (s.cs.length : Int) := by omega
    have hi2 : ¬ (b : Int) < 0 := by omega
    obtain ⟨c0, c1, c2, c3, c4, c5⟩ := cells6 X2.out
    obtain ⟨d0, d1, d2, d3⟩ := cells4 Y2.out
    obtain ⟨f0, f1, f2, f3⟩ := free4 Y2.out
    have SF := Lib.hid (over4g w2 (w.heap.size + 1) _ _ _ _ _ (.bool xp) (.bool xn) (.int .i64 xs) (.bool xm) Y2.out)
    clear hf hbe ex
    go_wp2_with fail
    clear c0 c1 c2 c3 c4 c5 d0 d1 d2 d3 f0 f1 f2 f3 g0 g1 g2 g3 g4 g5 g2' g3' g4'
    generalize (((w2.setCell _ _).setCell _ _).setCell _ _).setCell _ _ = w4 at *
    refine bodyPost_ret (v := .agg #[.bool xp, .bool xn, .int .i64 xs, .bool xm]) (results_cell_row rfl _ _ (w.heap.size + 1) 62 _ (0, 0) _ rfl SF.out.1 Tryz.underlying62 rfl (by kernel_rfl)) rfl ?_
    exact ⟨by rw [HE.out], below_grown K2.out SF.out.2 (by omega)⟩
end Fld
end Go.Proofs.YtpdlpmbjhopnnaaGreatDoor
/- firstCell of package field. -/
namespace Go.Proofs.YtpdlpmbjhopnnaaGreatDoor
open Go.RowKit Sha Six Apd Cut Err Att Grd
set_option linter.unusedVariables false
set_option linter.unusedSimpArgs false
attribute [local go_sem] Oper.semAt_some
namespace Fld
/-- What firstCell answers. -/
def ffc (cs : List C) (a m st : Int) : Int := match firstK (fun i => opener cs (on cs.length a (m + (i : Int) * st))) 0 cs.length with
  | some i => ((on cs.length ((on cs.length a (m + (i : Int) * st) : Nat) : Int) 1 : Nat) : Int)
  | none => -1
theorem ffc_at {cs : List C} {a m st : Int} {i : Nat} (hi : i < cs.length) (h : opener cs (on cs.length a (m + (i : Int) * st)) = true) (hn : ∀ j, j < i → opener cs (on cs.length a (m + (j : Int) * st)) = false) : ffc cs a m st = ((on cs.length ((on cs.length a (m + (i : Int) * st) : Nat) : Int) 1 : Nat) : Int) := by
  have : firstK (fun i => opener cs (on cs.length a (m + (i : Int) * st))) 0 cs.length = some i := firstK_is (Nat.zero_le _) (by omega) h (fun j _ hj => hn j hj)
  unfold ffc; rw [this]
theorem ffc_no {cs : List C} {a m st : Int} (hn : ∀ j, j < cs.length → opener cs (on cs.length a (m + (j : Int) * st)) = false) : ffc cs a m st = -1 := by
  have : firstK (fun i => opener cs (on cs.length a (m + (i : Int) * st))) 0 cs.length = none := firstK_no (fun j _ hj => hn j (by omega))
  unfold ffc; rw [this]
set_option maxRecDepth 100000 in
set_option maxHeartbeats 8000000 in
theorem ffirst_any (s : S) (ad : Option Addr) (k : Nat) (B : Nat) (a m st : Int) (w : World) (h : CelsIn w (.slice ad s.cs.length k) s.cs) (h8 : Sound s.cs) (hz : 0 < s.cs.length) (hl : s.cs.length < 10000) (ha : -100000 < a ∧ a < 100000) (hm : -100000 < m ∧ m < 100000) (hst : -2 < st ∧ st < 2)
    (hbox : Boxes w B (sbox s ad k) a m st) :
    Calls Tryz.prog 136 #[.agg #[.int .i64 s.rows, .int .i64 s.cols, .slice ad s.cs.length k, .int .i64 s.cur, .bool s.lk, .bool s.ins], .func (.func 137) #[] #[.pointer (some ⟨B, 0, none⟩), .pointer (some ⟨B + 1, 0, none⟩), .pointer (some ⟨B + 2, 0, none⟩), .pointer (some ⟨B + 3, 0, none⟩)]] w fun e w' => e = .returned (.int .i64 (ffc s.cs a m st)) ∧ Below w.heap.size w w' := by
  have HB := Lib.hid (al_any w (.cells (sbox s ad k) 24))
  have HX := Lib.hid (heap_alloc_new w (.cells (sbox s ad k) 24))
  have HI := Lib.hid (h.below HB.out)
  have HZ := Lib.hid hz
  have HL := Lib.hid hl
  have HA := Lib.hid ha
  have HM := Lib.hid hm
  have HST := Lib.hid hst
  have HBX := Lib.hid hbox
  clear h hz hl ha hm hst hbox
  refine (callsIn_wide (n := 4)).1 ?_
  refine callsIn_of_wp_marks Tryz.func136 rfl trivial ?_ rfl
  simp only [Tryz.ntmps136, List.size_toArray, List.length_cons, List.length_nil, Nat.reduceAdd, Nat.reduceSub, Array.replicate_succ, Array.replicate_zero, List.push_toArray, List.append_toArray, List.nil_append, List.cons_append]
  refine wpIn_wide.2 ?_
  go_wp2_with fail
  obtain ⟨w2, hw2⟩ : ∃ w2 : World, (w.alloc (.cells (sbox s ad k) 24)).alloc (.cells #[.int .i64 0] 3) = w2 := ⟨_, rfl⟩
  have HS2 := Lib.hid (show w2.heap[w.heap.size]? = some (.cells (sbox s ad k) 24) by rw [← hw2, Below.heap_alloc _ _ _ (by simp)]; exact HX.out)
  have HR2 := Lib.hid (show w2.heap[w.heap.size + 1]? = some (.cells #[.int .i64 0] 3) by rw [← hw2]; have := World.alloc_heap_new (w.alloc (.cells (sbox s ad k) 24)) (.cells #[.int .i64 0] 3); rwa [World.size_alloc] at this)
  have HB2 := Lib.hid (show Below w.heap.size w w2 by rw [← hw2]; exact kept_trans HB.out (al_any _ _))
  have HI2 := Lib.hid (show CelsIn w2 (.slice ad s.cs.length k) s.cs by rw [← hw2]; exact HI.out.below (al_any _ _))
  have HN2 := Lib.hid (show w2.heap.size = w.heap.size + 2 by rw [← hw2]; simp)
  have HBX2 := Lib.hid (HBX.out.kept (kp4_below HB2.out HBX.out.lt))
  rw [hw2]
  clear hw2 HB HX HI
  refine (wpIn_wide (n := 4)).1 ?_
  refine wpIn_rangeFunc_ownG rfl (by omega) (gf := 137) (lb := #[.pointer (some ⟨B, 0, none⟩), .pointer (some ⟨B + 1, 0, none⟩), .pointer (some ⟨B + 2, 0, none⟩), .pointer (some ⟨B + 3, 0, none⟩)]) rfl trivial (enters_of Tryz.func137 (by kernel_rfl) rfl)
    (walk_stops 3 (by omega) s.rows s.cols ad s.cs.length k s.cur s.lk s.ins HZ.out HL.out a m st HA.out HM.out HST.out w2 B HBX2.out)
    kp4_t (kp4_b (by have := HBX2.out.lt; omega)) (Below.refl _ _) (fun _ => rfl)
    (fun pre W => (∀ y ∈ pre, opener s.cs y.1 = false) ∧ w2.grownBy W none)
    (fun c pre W => (c = .ret ∧ ∃ p x, pre = p ++ [x] ∧ (∀ y ∈ p, opener s.cs y.1 = false) ∧ opener s.cs x.1 = true ∧ W.cell? ⟨w.heap.size + 1, 0, none⟩ = some (.int .i64 ((on s.cs.length (x.1 : Int) 1 : Nat) : Int))) ∧ w2.grownBy W (some (w.heap.size + 1)))
    (OwnFrom.and (ownFrom_pure _ _) ownFrom_grown)
    (fun c => OwnFrom.and (Own.from (fun q X Y row hs hg hr => ⟨hs.1, by obtain ⟨p, x, e, h1, h2, h3⟩ := hs.2; exact ⟨p, x, e, h1, h2, cell_kept h3 hg hr⟩⟩) _) ownFrom_grown)
    ⟨nofun, grown_of (Below.refl _ _)⟩
    (fun x => { tmps := #[.agg (sbox s ad k), .func (.func 137) #[] #[.pointer (some ⟨B, 0, none⟩), .pointer (some ⟨B + 1, 0, none⟩), .pointer (some ⟨B + 2, 0, none⟩), .pointer (some ⟨B + 3, 0, none⟩)], .pointer (some ⟨w.heap.size, 0, none⟩), undef, .pointer (some ⟨w.heap.size + 1, 0, none⟩), .int .i64 (x.1 : Int), undef, undef, .func (.func 137) #[] #[.pointer (some ⟨B, 0, none⟩), .pointer (some ⟨B + 1, 0, none⟩), .pointer (some ⟨B + 2, 0, none⟩), .pointer (some ⟨B + 3, 0, none⟩)], .int .i64 (x.1 : Int), undef, undef, undef, undef, undef, undef, undef, undef, undef, undef, undef, undef, undef, undef, undef, undef, undef, undef, undef, undef, undef, undef, undef, undef, undef, undef], defers := [] }) ?assign ?body ?done ?stop
  case assign =>
    intro l x W K hK
    gi_wp2
    exact hK
  case body =>
    rintro l pre ⟨x, hx⟩ W ⟨hp, hg⟩ hlt
    have HP := Lib.hid hp
    have HG := Lib.hid hg
    have HBW := Lib.hid (show Below w2.heap.size w2 W from ⟨hg.os, hg.tape, hg.output, hg.size, fun k hk => hg.block k hk nofun⟩)
    clear hp hg hlt
    have HSW := Lib.hid ((HBW.out.block _ (by have := HN2.out; omega)).trans HS2.out)
    have HRW := Lib.hid ((HBW.out.block _ (by have := HN2.out; omega)).trans HR2.out)
    have HIW := Lib.hid (HI2.out.below HBW.out)
    have HIX := Lib.hid (on_lt HZ.out (x : Int) 1)
    have HON := Lib.hid fun W => on_any s.rows s.cols ad s.cs.length k s.cur s.lk s.ins (x : Int) 1 W HZ.out (by have := HL.out; omega) (by have := HL.out; rw [IntKind.wrap_i64]; omega) (by decide)
    obtain ⟨xf, xp, xn, xs, xm, xc, ex⟩ := c_eta (s.cs.getD x noC)
    obtain ⟨b1, o1, rfl, g0, g1, g2, g3, g4, g5⟩ := HIW.out.cells hx ex
    obtain ⟨yf, yp, yn, ys, ym, yc, ey⟩ := c_eta (s.cs.getD (on s.cs.length x 1) noC)
    obtain ⟨b2, o2, hbo, p0, p1, p2, p3, p4, p5⟩ := HIW.out.cells HIX.out ey
    injection hbo with hbo
    injection hbo with hb1 hb2
    subst hb1
    subst hb2
    have HOP := Lib.hid (opener_of ex ey)
    have HC := Lib.hid fun (w' : World) (hb : Below W.heap.size W w') => box6 ((hb.block _ (by have := HN2.out; have := HBW.out.size; omega)).trans HSW.out)
    have HG1 := Lib.hid fun (w' : World) (hb : Below W.heap.size W w') => And.intro ((hb.cell (cell_lt g0)).trans g0) (And.intro ((hb.cell (cell_lt g1)).trans g1) (And.intro ((hb.cell (cell_lt g2)).trans g2) (And.intro ((hb.cell (cell_lt g3)).trans g3) (And.intro ((hb.cell (cell_lt g4)).trans g4) ((hb.cell (cell_lt g5)).trans g5)))))
    have HG2 := Lib.hid fun (w' : World) (hb : Below W.heap.size W w') => (hb.cell (cell_lt p0)).trans p0
    have hi0 : (0 : Int) ≤ (x : Int) := by omega
    have hi1 : (x : Int) < (s.cs.length : Int) := by omega
    clear ex ey g0 g1 g2 g3 g4 g5 p0 p1 p2 p3 p4 p5
    gi_wp2
    refine Rgn.region_held (S := fun w' => Below W.heap.size W w') l _ (by kernel_rfl) (fun ⟨_, _, h⟩ => h) (by kernel_rfl) (Below.refl _ _).drew ?_
    intro hS0
    refine wpAnyH_take (i := 0) (v := .pointer (some ⟨w.heap.size, 2, none⟩)) rfl (by kernel_rfl) (by kernel_rfl) (by kernel_rfl) (fun _ _ _ h => h) (Or.inl ⟨by rfl, fun w' hS => by go_simp⟩) hS0 ?_
    simp only [Act.put, List.setIfInBounds_toArray, List.set_cons_zero, List.set_cons_succ]
    refine wpAnyH_take (i := 2) (v := .int .i64 (x : Int)) rfl (by kernel_rfl) (by kernel_rfl) (by kernel_rfl) (fun _ _ _ h => h) (Or.inl ⟨by rfl, fun w' hS => by go_simp⟩) hS0 ?_
    simp only [Act.put, List.setIfInBounds_toArray, List.set_cons_zero, List.set_cons_succ]
    refine wpAnyH_take (i := 6) (v := .int .i64 (x : Int)) rfl (by kernel_rfl) (by kernel_rfl) (by kernel_rfl) (fun _ _ _ h => h) (Or.inl ⟨by rfl, fun w' hS => by go_simp⟩) hS0 ?_
    simp only [Act.put, List.setIfInBounds_toArray, List.set_cons_zero, List.set_cons_succ]
    refine wpAnyH_take (i := 1) (v := .slice (some ⟨b1, o1, none⟩) s.cs.length k) rfl (by kernel_rfl) (by kernel_rfl) (by kernel_rfl) (fun _ _ _ h => h) (Or.inl ⟨by rfl, fun w' hS => by have ⟨q0, q1, q2, q3, q4, q5⟩ := HC.out w' hS; go_simp⟩) hS0 ?_
    simp only [Act.put, List.setIfInBounds_toArray, List.set_cons_zero, List.set_cons_succ]
    refine wpAnyH_take (i := 3) (v := .pointer (some ⟨b1, o1 + x * 6, none⟩)) rfl (by kernel_rfl) (by kernel_rfl) (by kernel_rfl) (fun _ _ _ h => h) (Or.inl ⟨by rfl, fun w' hS => by go_simp⟩) hS0 ?_
    simp only [Act.put, List.setIfInBounds_toArray, List.set_cons_zero, List.set_cons_succ]
    refine wpAnyH_take (i := 4) (v := .agg #[.bool xf, .bool xp, .bool xn, .int .i64 xs, .bool xm, .int .u8 (xc : Int)]) rfl (by kernel_rfl) (by kernel_rfl) (by kernel_rfl) (fun _ _ _ h => h) (Or.inl ⟨by rfl, fun w' hS => by have ⟨q0, q1, q2, q3, q4, q5⟩ := HG1.out w' hS; go_simp⟩) hS0 ?_
    simp only [Act.put, List.setIfInBounds_toArray, List.set_cons_zero, List.set_cons_succ]
    refine wpAnyH_take (i := 5) (v := .agg (sbox s (some ⟨b1, o1, none⟩) k)) rfl (by kernel_rfl) (by kernel_rfl) (by kernel_rfl) (fun _ _ _ h => h) (Or.inl ⟨by rfl, fun w' hS => by have ⟨q0, q1, q2, q3, q4, q5⟩ := HC.out w' hS; go_simp⟩) hS0 ?_
    simp only [Act.put, List.setIfInBounds_toArray, List.set_cons_zero, List.set_cons_succ]
    refine wpAnyH_ready (rs := [7, 8]) (by kernel_rfl) (by simp) ?_
    refine AllReadyH.cons rfl (fun K' hK => ?_) (AllReadyH.cons rfl (fun K' hK => ?_) AllReadyH.nil)
    · clear hS0
      go_simp
      refine (HON.out _).mono ?_
      rintro e w3 ⟨rfl, hb3⟩
      have h3 : Below W.heap.size W w3 := (Below.refl _ _).drew.trans hb3
      refine hK.out _ _ h3 fun _ => ?_
      clear hb3 hK
      refine wpAnyH_ready (rs := [8]) (by kernel_rfl) (by simp) (AllReadyH.cons rfl (fun K' hK => ?_) AllReadyH.nil)
      go_simp
      refine hK.out _ _ (h3.trans ((al_any w3 _).mono h3.size)) fun _ => ?_
      clear hK
      refine wpAnyH_ready (rs := [9]) (by kernel_rfl) (by simp) (AllReadyH.cons rfl (fun K' hK => ?_) AllReadyH.nil)
      go_simp
      obtain ⟨wz, hwz⟩ : ∃ wz, w3.alloc (.cells #[.bool xf, .bool xp, .bool xn, .int .i64 xs, .bool xm, .int .u8 (xc : Int)] 64) = wz := ⟨_, rfl⟩
      have HN := Lib.hid (show wz.heap[w3.heap.size]? = some (.cells #[.bool xf, .bool xp, .bool xn, .int .i64 xs, .bool xm, .int .u8 (xc : Int)] 64) from hwz ▸ World.alloc_heap_new w3 _)
      have HBZ := Lib.hid (show Below W.heap.size W wz from hwz ▸ h3.trans ((al_any w3 (.cells #[.bool xf, .bool xp, .bool xn, .int .i64 xs, .bool xm, .int .u8 (xc : Int)] 64)).mono h3.size))
      rw [hwz]
      refine hK.out _ _ HBZ.out fun _ => ?_
      clear hK h3 hwz
      refine wpAnyH_ready (rs := [10]) (by kernel_rfl) (by simp) (AllReadyH.cons rfl (fun K' hK => ?_) AllReadyH.nil)
      go_simp
      refine hK.out _ _ HBZ.out fun _ => ?_
      refine wpAnyH_done (by kernel_rfl) ?_ _
      clear hK
      generalize w3.heap.size = NB at *
      obtain ⟨q0, q1, q2, q3, q4, q5⟩ := cells6 HN.out
      obtain ⟨d0, d1, d2, d3, d4, d5⟩ := HC.out wz HBZ.out
      have e0 := HG2.out wz HBZ.out
      have hr0 : wz.heap[w.heap.size + 1]? = some (.cells #[.int .i64 0] 3) := (HBZ.out.block _ (by have := HN2.out; have := HBW.out.size; omega)).trans HRW.out
      have r0 : wz.cell? ⟨w.heap.size + 1, 0, none⟩ = some (.int .i64 0) := by simp [World.cell?, hr0]
      have r1 : wz.frozen? ⟨w.heap.size + 1, 0, none⟩ = false := by simp [World.frozen?, hr0]
      have HKO := Lib.hid (KeepsOthers.of_grownBy (grown_of HBZ.out) nofun)
      have HKP := Lib.hid (kp4_below (B := B) HBZ.out (by have := HBX2.out.lt; have := HBW.out.size; omega))
      have HGZ := Lib.hid (grown_t HG.out (grown_of HBZ.out))
      obtain ⟨ix, hix⟩ : ∃ ix, on s.cs.length (x : Int) 1 = ix := ⟨_, rfl⟩
      rw [hix] at e0 ⊢
      have hj0 : (0 : Int) ≤ (ix : Int) := by omega
      have hj1 : (ix : Int) < (s.cs.length : Int) := by have := HIX.out; omega
      replace hix := Lib.hid hix
      clear hr0
      cases xf <;> cases xp <;> cases yf
      all_goals gi_wp2
      all_goals first
        | exact ⟨HKO.out.from _, HKP.out, fun y hy => (List.mem_append.1 hy).elim (HP.out y) (fun e => by rw [List.mem_singleton.1 e]; exact HOP.out), HGZ.out⟩
        | exact ⟨(HKO.out.trans (KeepsOthers.setCell _ _ _)).from _, ⟨rfl, pre, ⟨x, hx⟩, rfl, HP.out, HOP.out, by rw [hix.out]; exact World.cell?_setCell_same' _ _ _ (by rw [r0]; rfl)⟩, grown_t (grown_none HGZ.out) (grownBy_setCell' _ _ _)⟩
    · clear hS0
      go_simp
      have HN1 := Lib.hid (World.alloc_heap_new W (.cells #[.bool false, .bool false, .bool false, .int .i64 0, .bool false, .int .u8 0] 64))
      have h1 : Below W.heap.size W (W.alloc (.cells #[.bool false, .bool false, .bool false, .int .i64 0, .bool false, .int .u8 0] 64)).drew := (al_any W _).drew
      refine hK.out _ _ h1 fun _ => ?_
      clear hK
      refine wpAnyH_ready (rs := [7]) (by kernel_rfl) (by simp) (AllReadyH.cons rfl (fun K' hK => ?_) AllReadyH.nil)
      go_simp
      refine (HON.out _).mono ?_
      rintro e w3 ⟨rfl, hb3⟩
      have h3 : Below W.heap.size W w3 := h1.trans (hb3.mono (by simp [World.drew]))
      have HN3 := Lib.hid ((hb3.block W.heap.size (by simp [World.drew])).trans HN1.out)
      refine hK.out _ _ h3 fun _ => ?_
      clear hb3 h1 HN1 hK
      refine wpAnyH_ready (rs := [9]) (by kernel_rfl) (by simp) (AllReadyH.cons rfl (fun K' hK => ?_) AllReadyH.nil)
      obtain ⟨q0, q1, q2, q3, q4, q5⟩ := cells6 HN3.out
      obtain ⟨f0, f1, f2, f3, f4, f5⟩ := free6 HN3.out
      go_simp
      clear q0 q1 q2 q3 q4 q5 f0 f1 f2 f3 f4 f5
      obtain ⟨wz, hwz⟩ : ∃ wz, ((((((w3.setCell ⟨W.heap.size, 0, none⟩ (.bool xf)).setCell ⟨W.heap.size, 1, none⟩ (.bool xp)).setCell ⟨W.heap.size, 2, none⟩ (.bool xn)).setCell ⟨W.heap.size, 3, none⟩ (.int .i64 xs)).setCell ⟨W.heap.size, 4, none⟩ (.bool xm)).setCell ⟨W.heap.size, 5, none⟩ (.int .u8 (xc : Int))) = wz := ⟨_, rfl⟩
      have hov := over6 w3 W.heap.size 64 _ _ _ _ _ _ (.bool xf) (.bool xp) (.bool xn) (.int .i64 xs) (.bool xm) (.int .u8 (xc : Int)) HN3.out
      rw [hwz] at hov ⊢
      have HN := Lib.hid hov.1
      have HBZ := Lib.hid (below_grown h3 hov.2 (Nat.le_refl _))
      clear h3 hwz hov HN3
      refine hK.out _ _ HBZ.out fun _ => ?_
      clear hK
      refine wpAnyH_ready (rs := [10]) (by kernel_rfl) (by simp) (AllReadyH.cons rfl (fun K' hK => ?_) AllReadyH.nil)
      go_simp
      refine hK.out _ _ HBZ.out fun _ => ?_
      refine wpAnyH_done (by kernel_rfl) ?_ _
      clear hK
      obtain ⟨q0, q1, q2, q3, q4, q5⟩ := cells6 HN.out
      obtain ⟨d0, d1, d2, d3, d4, d5⟩ := HC.out wz HBZ.out
      have e0 := HG2.out wz HBZ.out
      have hr0 : wz.heap[w.heap.size + 1]? = some (.cells #[.int .i64 0] 3) := (HBZ.out.block _ (by have := HN2.out; have := HBW.out.size; omega)).trans HRW.out
      have r0 : wz.cell? ⟨w.heap.size + 1, 0, none⟩ = some (.int .i64 0) := by simp [World.cell?, hr0]
      have r1 : wz.frozen? ⟨w.heap.size + 1, 0, none⟩ = false := by simp [World.frozen?, hr0]
      have HKO := Lib.hid (KeepsOthers.of_grownBy (grown_of HBZ.out) nofun)
      have HKP := Lib.hid (kp4_below (B := B) HBZ.out (by have := HBX2.out.lt; have := HBW.out.size; omega))
      have HGZ := Lib.hid (grown_t HG.out (grown_of HBZ.out))
      obtain ⟨ix, hix⟩ : ∃ ix, on s.cs.length (x : Int) 1 = ix := ⟨_, rfl⟩
      rw [hix] at e0 ⊢
      have hj0 : (0 : Int) ≤ (ix : Int) := by omega
      have hj1 : (ix : Int) < (s.cs.length : Int) := by have := HIX.out; omega
      replace hix := Lib.hid hix
      clear hr0
      cases xf <;> cases xp <;> cases yf
      all_goals gi_wp2
      all_goals first
        | exact ⟨HKO.out.from _, HKP.out, fun y hy => (List.mem_append.1 hy).elim (HP.out y) (fun e => by rw [List.mem_singleton.1 e]; exact HOP.out), HGZ.out⟩
        | exact ⟨(HKO.out.trans (KeepsOthers.setCell _ _ _)).from _, ⟨rfl, pre, ⟨x, hx⟩, rfl, HP.out, HOP.out, by rw [hix.out]; exact World.cell?_setCell_same' _ _ _ (by rw [r0]; rfl)⟩, grown_t (grown_none HGZ.out) (grownBy_setCell' _ _ _)⟩
  case done =>
    rintro D ys W hD rfl ⟨hp, hg⟩ hK
    have HNO := Lib.hid (ffc_no (cs := s.cs) (a := a) (m := m) (st := st) (fun j hj => hp _ (mem_upto hj)))
    have HBW := Lib.hid (show Below w2.heap.size w2 W from ⟨hg.os, hg.tape, hg.output, hg.size, fun k hk => hg.block k hk nofun⟩)
    have HK := Lib.hid hK
    have HD := Lib.hid hD
    have hr0 : W.heap[w.heap.size + 1]? = some (.cells #[.int .i64 0] 3) := (HBW.out.block _ (by have := HN2.out; omega)).trans HR2.out
    have r0 : W.cell? ⟨w.heap.size + 1, 0, none⟩ = some (.int .i64 0) := by simp [World.cell?, hr0]
    have r1 : W.frozen? ⟨w.heap.size + 1, 0, none⟩ = false := by simp [World.frozen?, hr0]
    clear hp hg hK hD hr0
    go_wp2_with fail
    have hK' := (KeepsOthers.setCell W ⟨w.heap.size + 1, 0, none⟩ (.int .i64 (-1))).same D _ HK.out rfl
    have hc5 := cell_kept (World.cell?_setCell_same' W ⟨w.heap.size + 1, 0, none⟩ (.int .i64 (-1)) (by rw [r0]; rfl)) (grownBy_putObj' _ D (.deferred none)) (fun r e => by cases e; exact ⟨_, hK', rfl⟩)
    refine ⟨by simp, .inl ⟨_, _, rfl, run_takeDeferred hK', ?_⟩⟩
    refine ⟨.int .i64 (-1), by simp [results, Tryz.f136, go_sem, hc5], by rw [HNO.out], ?_⟩
    refine (HB2.out.trans (HBW.out.mono (by have := HN2.out; omega))).trans ?_
    exact ((Below.refl w.heap.size W).setCell (p := ⟨w.heap.size + 1, 0, none⟩) (by simp) _).trans (belowK_b (w := w) (Nat.le_refl _) _ D _ _ (by have := HN2.out; have := HD.out; omega) hK' rfl rfl)
  case stop =>
    rintro D c pre W hD ⟨q, hq, hpre⟩ ⟨⟨rfl, p, x, he, h1, h2, h3⟩, hg⟩ hK
    obtain ⟨j, rfl, rfl, rfl⟩ := upto_last (he.symm.trans hpre)
    have HBA := Lib.hid (ffc_at (cs := s.cs) (a := a) (m := m) (st := st) (i := j) (by omega) h2 (fun i hi => h1 _ (mem_upto hi)))
    gi_wp2
    have hc5 := cell_kept h3 (grownBy_putObj' _ D (.deferred none)) (fun r e => by cases e; exact ⟨_, hK, rfl⟩)
    refine ⟨by simp, .inl ⟨_, _, rfl, run_takeDeferred hK, ?_⟩⟩
    refine ⟨_, by simp [results, Tryz.f136, go_sem, hc5]; rfl, by rw [HBA.out]; rfl, ?_⟩
    refine (HB2.out.trans (grown_below hg (by omega) (by have := HN2.out; omega))).trans ?_
    exact belowK_b (w := w) (Nat.le_refl _) _ D _ _ (by have := HN2.out; omega) hK rfl rfl
end Fld
end Go.Proofs.YtpdlpmbjhopnnaaGreatDoor
/- Next, Prev of package field. -/
namespace Go.Proofs.YtpdlpmbjhopnnaaGreatDoor
open Go.RowKit Sha Six Apd Cut Err Att Grd
set_option linter.unusedVariables false
namespace Fld
theorem ffc_cases (cs : List C) (a m st : Int) : (∃ i, i < cs.length ∧ opener cs (on cs.length a (m + (i : Int) * st)) = true ∧ (∀ j, j < i → opener cs (on cs.length a (m + (j : Int) * st)) = false) ∧ ffc cs a m st = ((on cs.length ((on cs.length a (m + (i : Int) * st) : Nat) : Int) 1 : Nat) : Int)) ∨ ((∀ j, j < cs.length → opener cs (on cs.length a (m + (j : Int) * st)) = false) ∧ ffc cs a m st = -1) := by
  cases h : firstK (fun i => opener cs (on cs.length a (m + (i : Int) * st))) 0 cs.length with
  | some i =>
    obtain ⟨_, h2, h3, h4⟩ := firstK_some h
    exact .inl ⟨i, by omega, h3, fun j hj => h4 j (Nat.zero_le _) hj, by unfold ffc; rw [h]⟩
  | none => exact .inr ⟨fun j hj => firstK_none h j (Nat.zero_le _) (by omega), by unfold ffc; rw [h]⟩
theorem ffc_next (cs : List C) (a : Nat) : ffc cs (a : Int) 1 1 = next cs a := by
  rcases ffc_cases cs a 1 1 with ⟨i, h1, h2, h3, h4⟩ | ⟨h1, h2⟩
  · rw [h4, next_at (q := i + 1) (by omega) (by omega) (by rw [show ((i + 1 : Nat) : Int) = 1 + (i : Int) * 1 by omega]; exact h2) (fun j hj1 hj2 => by
      rw [show (j : Int) = 1 + ((j - 1 : Nat) : Int) * 1 by omega]; exact h3 _ (by omega))]
    rw [show ((i + 1 : Nat) : Int) = 1 + (i : Int) * 1 by omega]
  · rw [h2, next_no (fun j hj1 hj2 => by rw [show (j : Int) = 1 + ((j - 1 : Nat) : Int) * 1 by omega]; exact h1 _ (by omega))]
theorem ffc_prev (cs : List C) (a : Nat) : ffc cs (a : Int) (-2) (-1) = prev cs a := by
  rcases ffc_cases cs a (-2) (-1) with ⟨i, h1, h2, h3, h4⟩ | ⟨h1, h2⟩
  · rw [h4, prev_at (q := i + 2) (by omega) (by omega) (by rw [show -((i + 2 : Nat) : Int) = -2 + (i : Int) * (-1) by omega]; exact h2) (fun j hj1 hj2 => by
      rw [show -(j : Int) = -2 + ((j - 2 : Nat) : Int) * (-1) by omega]; exact h3 _ (by omega))]
    rw [show -((i + 2 : Nat) : Int) = -2 + (i : Int) * (-1) by omega]
  · rw [h2, prev_no (fun j hj1 hj2 => by rw [show -(j : Int) = -2 + ((j - 2 : Nat) : Int) * (-1) by omega]; exact h1 _ (by omega))]
set_option maxRecDepth 100000 in
set_option maxHeartbeats 8000000 in
theorem fnext_any (s : S) (ad : Option Addr) (k : Nat) (a : Nat) (w : World) (h : CelsIn w (.slice ad s.cs.length k) s.cs) (h8 : Sound s.cs) (hz : 0 < s.cs.length) (hl : s.cs.length < 10000) (ha : a < s.cs.length) :
    Calls Tryz.prog 119 #[.agg #[.int .i64 s.rows, .int .i64 s.cols, .slice ad s.cs.length k, .int .i64 s.cur, .bool s.lk, .bool s.ins], .int .i64 (a : Int)] w fun e w' => e = .returned (.int .i64 (next s.cs a)) ∧ Below w.heap.size w w' := by
  have HB := Lib.hid (al_any w (.cells (sbox s ad k) 24))
  have HX := Lib.hid (heap_alloc_new w (.cells (sbox s ad k) 24))
  have HI := Lib.hid (h.below HB.out)
  have HF := Lib.hid fun (W W' : World) (hb : Below (w.alloc (.cells (sbox s ad k) 24)).heap.size (w.alloc (.cells (sbox s ad k) 24)) W') (hx : Boxes W' W.heap.size (sbox s ad k) (a : Int) (1) (1)) => ffirst_any s ad k W.heap.size (a : Int) (1) (1) W' (HI.out.below hb) h8 hz hl (by omega) (by omega) (by omega) hx
  have HE := Lib.hid (ffc_next s.cs a)
  clear h hz hl ha
  generalize next s.cs a = res at *
  generalize ffc s.cs (a : Int) (1) (1) = rv at *
  go_enter Tryz.func119, Tryz.ntmps119
  go_upto_region 1 with (fail)
  change Code.wp _ _ _ _ (w.alloc (.cells (sbox s ad k) 24))
  generalize w.alloc _ = w1 at *
  first
    | go_region_held3 (fun W' => Below w1.heap.size w1 W' ∧ W'.cell? ⟨w.heap.size, 0, none⟩ = some (.int .i64 s.rows) ∧ W'.cell? ⟨w.heap.size, 1, none⟩ = some (.int .i64 s.cols) ∧ W'.cell? ⟨w.heap.size, 2, none⟩ = some (.slice ad s.cs.length k) ∧ W'.cell? ⟨w.heap.size, 3, none⟩ = some (.int .i64 s.cur) ∧ W'.cell? ⟨w.heap.size, 4, none⟩ = some (.bool s.lk) ∧ W'.cell? ⟨w.heap.size, 5, none⟩ = some (.bool s.ins))
        (first | with_reducible exact below6 HX.out _ (Below.refl _ _).drew | with_reducible exact below6 HX.out _ (Below.refl _ _) | with_reducible exact below6 HX.out _ (And.left (by assumption)) | with_reducible exact below6 HX.out _ (kept_trans (And.left (by assumption)) hb))
        (first
          | (go_at_call 122; refine (walk_any _ _ _ _ _ _ _ _ _ _ _ _).mono ?_; rintro e wa ⟨rfl, hx, hb, _⟩)
          | (go_at_call 136; refine (HF.out _ _ (And.left (by assumption)) hx).mono ?_; rintro e wb ⟨rfl, hb⟩))
    | fail "no"
  have hS := And.left (by assumption : Below w1.heap.size w1 wb ∧ _)
  have K2 := kept_hid HB hS
  clear hS hb HF HX HI
  go_wp2_with fail
  go_ret
  exact ⟨by rw [← HE.out]; rfl, K2.out⟩
end Fld
end Go.Proofs.YtpdlpmbjhopnnaaGreatDoor
/- Formatted of package field. -/
namespace Go.Proofs.YtpdlpmbjhopnnaaGreatDoor
open Go.RowKit Sha Six Apd Cut Err Att Grd
set_option linter.unusedVariables false
namespace Fld
set_option maxRecDepth 100000 in
set_option maxHeartbeats 8000000 in
theorem ffmt_any (s : S) (ad : Option Addr) (k : Nat) (w : World) (h : CelsIn w (.slice ad s.cs.length k) s.cs) (h8 : Sound s.cs) (hz : 0 < s.cs.length) (hl : s.cs.length < 10000) :
    Calls Tryz.prog 50 #[.agg #[.int .i64 s.rows, .int .i64 s.cols, .slice ad s.cs.length k, .int .i64 s.cur, .bool s.lk, .bool s.ins]] w fun e w' => e = .returned (.bool (fmt s.cs)) ∧ Below w.heap.size w w' := by
  have HR := Lib.hid (fbegin_any s ad k 0 (w.alloc (.cells #[.int .i64 s.rows, .int .i64 s.cols, .slice ad s.cs.length k, .int .i64 s.cur, .bool s.lk, .bool s.ins] 24)) (h.below (al_any _ _)) h8 hz hl hz)
  have HE := Lib.hid (begin_ge hz)
  clear h hz hl
  generalize fmt s.cs = res at *
  generalize begin_ s.cs 0 = bg at *
  go_enter Tryz.func50, Tryz.ntmps50
  go_wp2_with fail
  refine HR.out.mono ?_
  rintro e w1 ⟨rfl, hb⟩
  have HK := Lib.hid (kept_trans (al_any w _) hb)
  clear hb HR
  go_wp2_with fail
  go_ret
  exact ⟨by rw [HE.out]; rfl, HK.out⟩
end Fld
end Go.Proofs.YtpdlpmbjhopnnaaGreatDoor
/- Lists of numbers in a box, and a walk's places (split off FldList: a seat may lack Begins). -/
namespace Go.Proofs.YtpdlpmbjhopnnaaGreatDoor
open Go.RowKit Sha Six Apd Cut Err Att Grd
set_option linter.unusedVariables false
attribute [local go_sem] Oper.semAt_some
namespace Fld
/-- A row that lies from n₀ on is appended to in a box below n₀. -/
theorem appended2 {W w1 : World} {n₀ L : Nat} {t e : TypeId} {size : Nat} {v v' : Value} {k m : Nat} {xs ys : List Value} {tmp : Obj}
    (hv : Boxed W L t v) (hte : t ≠ e) (hrow : W.ownsRow n₀ e size v k xs) (hn₀ : n₀ ≤ W.heap.size)
    (hown' : w1.ownsRow n₀ e size v' m ys) (hgrow : (W.alloc tmp).grownBy w1 v.ownBlock) :
    Boxed w1 L t v ∧ Boxed (w1.setCell ⟨L, 0, none⟩ v') L t v' ∧ (w1.setCell ⟨L, 0, none⟩ v').ownsRow n₀ e size v' m ys ∧ KeepsOthers W (w1.setCell ⟨L, 0, none⟩ v') ∧ (∀ w0 : World, w0.heap.size = n₀ → w0.grownBy W (some L) → w0.grownBy (w1.setCell ⟨L, 0, none⟩ v') (some L)) := by
  have hv1 : Boxed w1 L t v := (hv.alloc tmp).kept hgrow (hv.not_row hte hrow)
  refine ⟨hv1, hv1.set v', hown'.kept (grownBy_setCell' w1 L v') (.inr (hv1.not_row hte hown').symm), ?_, ?_⟩
  · refine ((KeepsOthers.alloc W tmp).trans (KeepsOthers.of_grownBy hgrow fun j o ej hj => ?_)).trans (KeepsOthers.setCell _ _ _)
    rcases (hrow.alloc tmp).2 with ⟨rfl, _⟩ | ⟨g, cap, cur, rfl, _, hgb, _⟩
    · simp [Value.ownBlock] at ej
    · obtain rfl : g = j := by simpa [Value.ownBlock] using ej
      rw [hgb] at hj; cases hj; rfl
  · intro w0 hw0 hg0
    have hg1 : W.grownBy (W.alloc tmp) none := World.grownBy_alloc W tmp none
    have h1 : w0.grownBy w1 (some L) := by
      refine ⟨hgrow.os.trans (hg1.os.trans hg0.os), hgrow.tape.trans (hg1.tape.trans hg0.tape), hgrow.output.trans (hg1.output.trans hg0.output), Nat.le_trans hg0.size (Nat.le_trans hg1.size hgrow.size), fun i hi hn => ?_⟩
      refine (hgrow.block i (Nat.lt_of_lt_of_le hi (Nat.le_trans hg0.size hg1.size)) (fun ej => ?_)).trans ((hg1.block i (Nat.lt_of_lt_of_le hi hg0.size) nofun).trans (hg0.block i hi hn))
      rcases hrow.2 with ⟨rfl, _⟩ | ⟨g, cap, cur, rfl, hb, _, _⟩
      · simp [Value.ownBlock] at ej
      · obtain rfl : i = g := by simpa [Value.ownBlock] using ej
        omega
    exact grown_t h1 (grownBy_setCell' w1 L v')
theorem info_int : (Tryz.prog.info? 3).map (fun i => (i.zero, i.size, i.bytes)) = some (some (.int .i64 0), 1, 8) := by kernel_rfl
/-- The numbers of places. -/
def vals {z : Nat} (l : List (Pl z)) : List Nat := l.map (·.1)
theorem vals_snoc {z : Nat} (l : List (Pl z)) (x : Pl z) : vals (l ++ [x]) = vals l ++ [x.1] := by simp [vals]
theorem vals_len {z : Nat} (l : List (Pl z)) : (vals l).length = l.length := by simp [vals]
theorem filt_snoc (p : Nat → Bool) (l : List Nat) (x : Nat) (b : Bool) (h : p x = b) : (l ++ [x]).filter p = if b then l.filter p ++ [x] else l.filter p := by
  cases b <;> simp [List.filter_append, h]
/-- A box holds a row of numbers. -/
def HasInts (W : World) (L base : Nat) (xs : List Nat) : Prop := ∃ v, Boxed W L 81 v ∧ OwnInts W base v xs
theorem hasInts_own {β : Type} (L base : Nat) (f : β → List Nat) : Own (fun s W => HasInts W L base (f s)) := fun s X Y row hs hg hr => by
  obtain ⟨v, h1, h2⟩ := hs
  obtain ⟨v', h3, h4, _⟩ := holdsRow_own base L 81 3 1 (fun q : β => (f q).length) (fun q => i64s (f q)) (fun _ _ => True) s X Y row ⟨v, h1, h2, trivial⟩ hg hr
  exact ⟨v', h3, h4⟩
theorem vals_all {z : Nat} (hz : 0 < z) : vals (upto (wseq z hz 0 0 1) z) = List.range z := by
  unfold vals upto
  rw [List.map_map]
  refine (List.map_congr_left fun i hi => ?_).trans (List.map_id _)
  show (wseq z hz 0 0 1 i).1 = i
  rw [wseq_val (t := (i : Int)) (by omega)]
  have hlt := List.mem_range.1 hi
  have h0 := on_cast (z := z) hz 0 (i : Int)
  have : (0 : Int) + (i : Int) = i := by omega
  rw [this, Int.emod_eq_of_lt (by omega) (by omega)] at h0
  omega
end Fld
end Go.Proofs.YtpdlpmbjhopnnaaGreatDoor
/- Begins of package field. -/
namespace Go.Proofs.YtpdlpmbjhopnnaaGreatDoor
open Go.RowKit Sha Six Apd Cut Err Att Grd
set_option linter.unusedVariables false
attribute [local go_sem] Oper.semAt_some
namespace Fld
set_option maxRecDepth 100000 in
set_option maxHeartbeats 8000000 in
theorem fbegins_any (s : S) (ad : Option Addr) (k : Nat) (w : World) (h : CelsIn w (.slice ad s.cs.length k) s.cs) (h8 : Sound s.cs) (hz : 0 < s.cs.length) (hl : s.cs.length < 10000) :
    Calls Tryz.prog 95 #[.agg #[.int .i64 s.rows, .int .i64 s.cols, .slice ad s.cs.length k, .int .i64 s.cur, .bool s.lk, .bool s.ins]] w fun e w' => ∃ v, e = .returned v ∧ OwnInts w' w.heap.size v (begins s.cs) ∧ Below w.heap.size w w' := by
  have HB := Lib.hid (al_any w (.cells (sbox s ad k) 24))
  have HX := Lib.hid (heap_alloc_new w (.cells (sbox s ad k) 24))
  have HI := Lib.hid h
  have HZ := Lib.hid hz
  have HL := Lib.hid hl
  clear h hz hl
  refine (callsIn_wide (n := 4)).1 ?_
  refine callsIn_of_wp_marks Tryz.func95 rfl trivial ?_ rfl
  simp only [Tryz.ntmps95, List.size_toArray, List.length_cons, List.length_nil, Nat.reduceAdd, Nat.reduceSub, Array.replicate_succ, Array.replicate_zero, List.push_toArray, List.append_toArray, List.nil_append, List.cons_append]
  refine wpIn_wide.2 ?_
  go_wp2_with fail
  obtain ⟨w1, hw1⟩ : ∃ w1 : World, (w.alloc (.cells (sbox s ad k) 24)).alloc (.cells #[.slice none 0 0] 81) = w1 := ⟨_, rfl⟩
  have HS1 := Lib.hid (show w1.heap[w.heap.size]? = some (.cells (sbox s ad k) 24) by rw [← hw1, Below.heap_alloc _ _ _ (by simp)]; exact HX.out)
  have HR1 := Lib.hid (show w1.heap[w.heap.size + 1]? = some (.cells #[.slice none 0 0] 81) by rw [← hw1]; have := World.alloc_heap_new (w.alloc (.cells (sbox s ad k) 24)) (.cells #[.slice none 0 0] 81); rwa [World.size_alloc] at this)
  have HB1 := Lib.hid (show Below w.heap.size w w1 by rw [← hw1]; exact kept_trans HB.out (al_any _ _))
  have HN1 := Lib.hid (show w1.heap.size = w.heap.size + 2 by rw [← hw1]; simp)
  rw [hw1]
  clear hw1 HB HX
  refine (walk_any _ _ _ _ _ _ _ _ _ _ _ _).mono ?_
  rintro e w2 ⟨rfl, hbox, hb2, hn2⟩
  have HS2 := Lib.hid (show w2.heap[w.heap.size]? = some (.cells (sbox s ad k) 24) from (hb2.block _ (by have := HN1.out; omega)).trans HS1.out)
  have HR2 := Lib.hid (show w2.heap[w.heap.size + 1]? = some (.cells #[.slice none 0 0] 81) from (hb2.block _ (by have := HN1.out; omega)).trans HR1.out)
  have HB2 := Lib.hid (kept_trans HB1.out hb2)
  have HN2 := Lib.hid (show w2.heap.size = w.heap.size + 6 by have := HN1.out; omega)
  have HBX := Lib.hid hbox
  clear hbox hb2 hn2 HB1
  go_wp2_with fail
  refine (wpIn_wide (n := 4)).1 ?_
  refine wpIn_rangeFunc_ownG rfl (by omega) (gf := 137) (lb := #[.pointer (some ⟨w1.heap.size, 0, none⟩), .pointer (some ⟨w1.heap.size + 1, 0, none⟩), .pointer (some ⟨w1.heap.size + 2, 0, none⟩), .pointer (some ⟨w1.heap.size + 3, 0, none⟩)]) rfl trivial (enters_of Tryz.func137 (by kernel_rfl) rfl)
    (walk_stops 3 (by omega) s.rows s.cols ad s.cs.length k s.cur s.lk s.ins HZ.out HL.out 0 0 1 (by omega) (by omega) (by omega) w2 w1.heap.size HBX.out)
    kp4_t (kp4_b (by have := HN1.out; have := HN2.out; omega)) (Below.refl _ _) (fun _ => rfl)
    (fun pre W => HasInts W (w.heap.size + 1) w2.heap.size ((vals pre).filter (fat s.cs)) ∧ w2.grownBy W (some (w.heap.size + 1)))
    (fun _ _ _ => False)
    (OwnFrom.and (Own.from (hasInts_own _ _ fun pre => (vals pre).filter (fat s.cs)) _) ownFrom_grown)
    (fun _ _ _ _ _ hs _ _ => hs)
    ⟨⟨_, HR2.out, World.ownsRow_nil _ _ _ _⟩, grown_none (grown_of (Below.refl _ _))⟩
    (fun x => { tmps := #[.agg (sbox s ad k), .pointer (some ⟨w.heap.size, 0, none⟩), .slice none 0 0, .pointer (some ⟨w.heap.size + 1, 0, none⟩), .int .i64 (x.1 : Int), .agg (sbox s ad k), .func (.func 137) #[] #[.pointer (some ⟨w1.heap.size, 0, none⟩), .pointer (some ⟨w1.heap.size + 1, 0, none⟩), .pointer (some ⟨w1.heap.size + 2, 0, none⟩), .pointer (some ⟨w1.heap.size + 3, 0, none⟩)], .int .i64 (x.1 : Int), undef, undef, undef, undef, undef, undef, undef, undef, undef, undef, undef], defers := [] }) ?assign ?body ?done ?stop
  case assign =>
    intro l x W K hK
    gi_wp2
    exact hK
  case body =>
    rintro l pre ⟨x, hx⟩ W ⟨⟨v, hv, hrow⟩, hg⟩ hlt
    obtain ⟨i0, hi, hz0, hz1, hz2⟩ := info_parts info_int
    have HG := Lib.hid hg
    obtain ⟨c0, c1, c2, c3, c4, c5⟩ := box6 ((hg.block _ (by have := HN2.out; omega) (by simp)).trans HS2.out)
    obtain ⟨xf, xp, xn, xs, xm, xc, ex⟩ := c_eta (s.cs.getD x noC)
    obtain ⟨b1, o1, rfl, g0, g1, g2, g3, g4, g5⟩ := (HI.out.below (HB2.out.trans (grown_below hg (by omega) (by have := HN2.out; omega)))).cells hx ex
    have HQ := Lib.hid (fat_of ex)
    have hi0 : (0 : Int) ≤ (x : Int) := by omega
    have hi1 : (x : Int) < (s.cs.length : Int) := by omega
    have HSZ := Lib.hid (show w2.heap.size ≤ W.heap.size from hg.size)
    have HKL := Lib.hid (show ((vals pre).filter (fat s.cs)).length < 10000 from by
      have := List.length_filter_le (fat s.cs) (vals pre); rw [vals_len] at this; have := HL.out; omega)
    clear ex hg hlt
    have hc := hv.cell
    cases xf with
    | true =>
      gi_wp2_with (gi_at_builtin; refine wpListIn_append_own _ rfl _ _ 81 rfl w2.heap.size 3 i0 (.int .i64 0) 1 8 Tryz.underlying81 hi hz0 hz1 hz2 rfl (by decide) _ _ _ rfl (hrow.alloc _) ⟨W.heap.size, 0, none⟩ 1 1 [.int .i64 (x : Int)] rfl rfl (cell_one_new _ _ _) (by simp [Value.oneCell']) (Nat.le_trans (show _ ≤ 10001 by have := HKL.out; omega) (by decide)) (by have := HKL.out; omega) (by have := HSZ.out; simp; omega) ?_; intro v' w1' hown' hgrow _; obtain ⟨g', cap', rfl⟩ := ownsRow_succ hown'; obtain ⟨hv1, hv2, hr2, hk2, hgw2⟩ := appended2 hv (by decide) hrow HSZ.out hown' hgrow; have hc1 := hv1.cell; have hf1 := hv1.frozen)
      have HGW := hgw2 w2 rfl HG.out
      have e := (vals_snoc pre ⟨x, hx⟩).symm ▸ filt_snoc (fat s.cs) (vals pre) x true HQ.out
      refine ⟨hk2.from _, fun q h1 h2 => (HGW.block q (by have := HN1.out; have := HN2.out; omega) (fun he => by injection he with he; have := HN1.out; omega)).trans (HG.out.block q (by have := HN1.out; have := HN2.out; omega) (fun he => by injection he with he; have := HN1.out; omega)).symm, ⟨_, hv2, ?_⟩, HGW⟩
      rw [e, if_pos rfl]
      unfold OwnInts
      rw [List.length_append]
      simpa [i64s] using hr2
    | false =>
      gi_wp2
      have e := (vals_snoc pre ⟨x, hx⟩).symm ▸ filt_snoc (fat s.cs) (vals pre) x false HQ.out
      exact ⟨KeepsFrom.refl _ _, fun _ _ _ => rfl, ⟨v, hv, by rw [e, if_neg (by decide)]; exact hrow⟩, HG.out⟩
  case done =>
    rintro D ys W hD rfl ⟨⟨v, hv, hrow⟩, hg⟩ hK
    have hc := hv.cell
    have HV := Lib.hid (show begins s.cs = (vals (upto (wseq s.cs.length HZ.out 0 0 1) s.cs.length)).filter (fat s.cs) by rw [vals_all]; rfl)
    have HROW := Lib.hid hrow
    have HBW := Lib.hid (HB2.out.trans (grown_below hg (by omega) (by have := HN2.out; omega)))
    obtain ⟨va, vc, rfl⟩ := hrow.form
    clear hrow hg hv
    go_wp2_with fail
    refine ⟨by simp, .inl ⟨_, _, rfl, run_takeDeferred hK, ?_⟩⟩
    exact ⟨_, results_tmp rfl _ _ _, _, rfl, by rw [HV.out]; exact OwnInts.mono (ownsRow_putObj HROW.out _ hK rfl) (by have := HN2.out; omega), HBW.out.trans (belowK_b (w := w) (Nat.le_refl _) W D _ _ (by have := HN2.out; omega) hK rfl rfl)⟩
  case stop =>
    rintro D c pre W _ _ h _
    exact h.elim
end Fld
end Go.Proofs.YtpdlpmbjhopnnaaGreatDoor
/- Cells of package field. -/
namespace Go.Proofs.YtpdlpmbjhopnnaaGreatDoor
open Go.RowKit Sha Six Apd Cut Err Att Grd
set_option linter.unusedVariables false
attribute [local go_sem] Oper.semAt_some
namespace Fld
theorem vals_upto {z : Nat} {f : Nat → Pl z} {b : Int} (hf : ∀ i, (f i).1 = on z b ((i : Int) + 1)) (j : Nat) : vals (upto f j) = (List.range j).map fun (i : Nat) => on z b ((i : Int) + 1) := by
  unfold vals upto
  rw [List.map_map]
  exact List.map_congr_left fun i _ => hf i
theorem cells_stop {cs : List C} {f : Nat → Pl cs.length} {b : Int} (hf : ∀ i, (f i).1 = on cs.length b ((i : Int) + 1)) {j : Nat} (hj : j < cs.length) (h : fat cs (f j).1 = true) (hn : ∀ i, i < j → fat cs (f i).1 = false) : cellsAt cs b = vals (upto f j) := by
  have e : clen cs b = j := by
    have : firstK (fun k => fat cs (on cs.length b (k : Int))) 1 cs.length = some (j + 1) := firstK_is (by omega) (by omega) (by rw [show ((j + 1 : Nat) : Int) = (j : Int) + 1 by omega, ← hf]; exact h)
      (fun i h1 h2 => by rw [show (i : Int) = ((i - 1 : Nat) : Int) + 1 by omega, ← hf]; exact hn _ (by omega))
    unfold clen; rw [this]; rfl
  unfold cellsAt
  rw [e, vals_upto hf]
theorem cells_full {cs : List C} {f : Nat → Pl cs.length} {b : Int} (hf : ∀ i, (f i).1 = on cs.length b ((i : Int) + 1)) (hn : ∀ i, i < cs.length → fat cs (f i).1 = false) : cellsAt cs b = vals (upto f cs.length) := by
  have e : clen cs b = cs.length := by
    have : firstK (fun k => fat cs (on cs.length b (k : Int))) 1 cs.length = none := firstK_no
      (fun i h1 h2 => by rw [show (i : Int) = ((i - 1 : Nat) : Int) + 1 by omega, ← hf]; exact hn _ (by omega))
    unfold clen; rw [this]
  unfold cellsAt
  rw [e, vals_upto hf]
theorem wseq_none {z : Nat} (hz : 0 < z) (i : Nat) : (wseq z hz 0 0 1 i).1 = on z (-1) ((i : Int) + 1) := by
  rw [wseq_val (t := (i : Int)) (by omega)]
  unfold on
  congr 2; omega
theorem wseq_some {z : Nat} (hz : 0 < z) (b : Int) (i : Nat) : (wseq z hz b 1 1 i).1 = on z b ((i : Int) + 1) := wseq_val (by omega)
set_option maxRecDepth 100000 in
set_option maxHeartbeats 16000000 in
theorem fcells_any (s : S) (ad : Option Addr) (k : Nat) (a : Nat) (w : World) (h : CelsIn w (.slice ad s.cs.length k) s.cs) (h8 : Sound s.cs) (hz : 0 < s.cs.length) (hl : s.cs.length < 10000) (ha : a < s.cs.length) :
    Calls Tryz.prog 123 #[.agg #[.int .i64 s.rows, .int .i64 s.cols, .slice ad s.cs.length k, .int .i64 s.cur, .bool s.lk, .bool s.ins], .int .i64 (a : Int)] w fun e w' => ∃ v, e = .returned v ∧ OwnInts w' w.heap.size v (cells s.cs a) ∧ Below w.heap.size w w' := by
  have HB := Lib.hid (al_any w (.cells (sbox s ad k) 24))
  have HX := Lib.hid (heap_alloc_new w (.cells (sbox s ad k) 24))
  have HI := Lib.hid h
  have HZ := Lib.hid hz
  have HL := Lib.hid hl
  have HA := Lib.hid ha
  have HBG := Lib.hid fun W hb => fbegin_any s ad k a W (h.below hb) h8 hz hl ha
  clear h hz hl ha
  refine (callsIn_wide (n := 4)).1 ?_
  refine callsIn_of_wp_marks Tryz.func123 rfl trivial ?_ rfl
  simp only [Tryz.ntmps123, List.size_toArray, List.length_cons, List.length_nil, Nat.reduceAdd, Nat.reduceSub, Array.replicate_succ, Array.replicate_zero, List.push_toArray, List.append_toArray, List.nil_append, List.cons_append]
  refine wpIn_wide.2 ?_
  go_wp2_with fail
  obtain ⟨w0, hw0⟩ : ∃ w0 : World, w.alloc (.cells (sbox s ad k) 24) = w0 := ⟨_, rfl⟩
  have HS0 := Lib.hid (show w0.heap[w.heap.size]? = some (.cells (sbox s ad k) 24) from hw0 ▸ HX.out)
  have HB0 := Lib.hid (show Below w.heap.size w w0 from hw0 ▸ HB.out)
  have HN0 := Lib.hid (show w0.heap.size = w.heap.size + 1 by rw [← hw0]; simp)
  rw [hw0]
  clear hw0 HB HX
  refine (walk_any _ _ _ _ _ _ _ _ _ _ _ _).mono ?_
  rintro e w1 ⟨rfl, hbox, hb1, hn1⟩
  have HS1 := Lib.hid (show w1.heap[w.heap.size]? = some (.cells (sbox s ad k) 24) from (hb1.block _ (by have := HN0.out; omega)).trans HS0.out)
  have HB1 := Lib.hid (kept_trans HB0.out hb1)
  have HN1 := Lib.hid (show w1.heap.size = w.heap.size + 5 by have := HN0.out; omega)
  have HBX := Lib.hid hbox
  clear hbox hb1 hn1
  obtain ⟨c0, c1, c2, c3, c4, c5⟩ := box6 HS1.out
  go_wp2_with fail
  clear c0 c1 c2 c3 c4 c5
  with_reducible refine (HBG.out _ HB1.out).mono ?_
  rintro e w2 ⟨rfl, hb2⟩
  have HS2 := Lib.hid (show w2.heap[w.heap.size]? = some (.cells (sbox s ad k) 24) from (hb2.block _ (by have := HN1.out; omega)).trans HS1.out)
  have HB2 := Lib.hid (kept_trans HB1.out hb2)
  have HN2 := Lib.hid (show w.heap.size + 5 ≤ w2.heap.size by have := HN1.out; have := hb2.size; omega)
  have HBX2 := Lib.hid (HBX.out.kept (kp4_below hb2 HBX.out.lt))
  clear hb2 HBX HBG
  cases hf : fmt s.cs with
  | false =>
    have HBE := Lib.hid (begin_none HA.out hf)
    rw [HBE.out]
    clear hf
    obtain ⟨w3, hw3⟩ : ∃ w3, w3 = w2 := ⟨_, rfl⟩
    subst hw3
    have HS3 := Lib.hid HS2.out
    have HB3 := Lib.hid HB2.out
    have HBX3 := Lib.hid HBX2.out
    have HN3 := Lib.hid (show w.heap.size + 5 ≤ w3.heap.size from HN2.out)
    clear HS2 HB2 HBX2 HN2
    have HSQ := Lib.hid (show ∀ i, (wseq s.cs.length HZ.out (0) (0) 1 i).1 = on s.cs.length (-1) ((i : Int) + 1) from wseq_none HZ.out)
    go_wp2_with fail
    obtain ⟨w4, hw4⟩ : ∃ w4 : World, w3.alloc (.cells #[.slice none 0 0] 81) = w4 := ⟨_, rfl⟩
    have HS4 := Lib.hid (show w4.heap[w.heap.size]? = some (.cells (sbox s ad k) 24) from hw4 ▸ (Below.heap_alloc _ _ _ (by have := HN3.out; omega)).trans HS3.out)
    have HR4 := Lib.hid (show w4.heap[w3.heap.size]? = some (.cells #[.slice none 0 0] 81) from hw4 ▸ World.alloc_heap_new w3 _)
    have HB4 := Lib.hid (show Below w.heap.size w w4 from hw4 ▸ kept_trans HB3.out (al_any _ _))
    have HN4 := Lib.hid (show w4.heap.size = w3.heap.size + 1 by rw [← hw4]; simp)
    have HBX4 := Lib.hid (show Boxes w4 (w0.heap.size) (sbox s ad k) (0) (0) 1 from hw4 ▸ HBX3.out.kept (kp4_below (al_any w3 _) HBX3.out.lt))
    have HLT := Lib.hid HBX3.out.lt
    rw [hw4]
    clear hw4 HB3 HS3 HBX3
    go_wp2_with fail
    refine (wpIn_wide (n := 4)).1 ?_
    refine wpIn_rangeFunc_ownG rfl (by omega) (gf := 137) (lb := #[.pointer (some ⟨w0.heap.size, 0, none⟩), .pointer (some ⟨w0.heap.size + 1, 0, none⟩), .pointer (some ⟨w0.heap.size + 2, 0, none⟩), .pointer (some ⟨w0.heap.size + 3, 0, none⟩)]) rfl trivial (enters_of Tryz.func137 (by kernel_rfl) rfl)
      (walk_stops 3 (by omega) s.rows s.cols ad s.cs.length k s.cur s.lk s.ins HZ.out HL.out (0) (0) 1 (by have := HL.out; omega) (by omega) (by omega) w4 (w0.heap.size) HBX4.out)
      kp4_t (kp4_b HBX4.out.lt) (Below.refl _ _) (fun _ => rfl)
      (fun pre W => ((∀ y ∈ pre, fat s.cs y.1 = false) ∧ HasInts W w3.heap.size w4.heap.size (vals pre)) ∧ w4.grownBy W (some w3.heap.size))
      (fun c pre W => ((c = .exit 0 ∧ ∃ p x, pre = p ++ [x] ∧ (∀ y ∈ p, fat s.cs y.1 = false) ∧ fat s.cs x.1 = true) ∧ HasInts W w3.heap.size w4.heap.size (vals pre.dropLast)) ∧ w4.grownBy W (some w3.heap.size))
      (OwnFrom.and (OwnFrom.and (ownFrom_pure _ _) (Own.from (hasInts_own _ _ fun pre => vals pre) _)) ownFrom_grown)
      (fun c => OwnFrom.and (OwnFrom.and (ownFrom_pure _ _) (Own.from (hasInts_own _ _ fun (pre : List (Pl s.cs.length)) => vals pre.dropLast) _)) ownFrom_grown)
      ⟨⟨nofun, _, HR4.out, World.ownsRow_nil _ _ _ _⟩, grown_none (grown_of (Below.refl _ _))⟩
      (fun x => { tmps := #[.agg (sbox s ad k), .int .i64 (a : Int), .pointer (some ⟨w.heap.size, 0, none⟩), undef, .slice none 0 0, .func (.func 137) #[] #[.pointer (some ⟨w0.heap.size, 0, none⟩), .pointer (some ⟨w0.heap.size + 1, 0, none⟩), .pointer (some ⟨w0.heap.size + 2, 0, none⟩), .pointer (some ⟨w0.heap.size + 3, 0, none⟩)], .int .i64 (-1), .pointer (some ⟨w3.heap.size, 0, none⟩), .int .i64 (x.1 : Int), .agg (sbox s ad k), .func (.func 137) #[] #[.pointer (some ⟨w0.heap.size, 0, none⟩), .pointer (some ⟨w0.heap.size + 1, 0, none⟩), .pointer (some ⟨w0.heap.size + 2, 0, none⟩), .pointer (some ⟨w0.heap.size + 3, 0, none⟩)], .agg (sbox s ad k), .int .i64 (a : Int), .int .i64 (-1), .int .i64 (-1), .bool false, undef, undef, undef, .func (.func 137) #[] #[.pointer (some ⟨w0.heap.size, 0, none⟩), .pointer (some ⟨w0.heap.size + 1, 0, none⟩), .pointer (some ⟨w0.heap.size + 2, 0, none⟩), .pointer (some ⟨w0.heap.size + 3, 0, none⟩)], .int .i64 (x.1 : Int), undef, undef, undef, undef, undef, undef, undef, undef, undef, undef, undef], defers := [] }) ?assign ?body ?done ?stop
    case assign =>
      intro l x W K hK
      gi_wp2
      exact hK
    case body =>
      rintro l pre ⟨x, hx⟩ W ⟨⟨hp, v, hv, hrow⟩, hg⟩ hlt
      obtain ⟨i0, hi, hz0, hz1, hz2⟩ := info_parts info_int
      have HP := Lib.hid hp
      have HG := Lib.hid hg
      obtain ⟨c0, c1, c2, c3, c4, c5⟩ := box6 ((hg.block _ (by have := HN4.out; have := HN3.out; omega) (fun he => by injection he with he; have := HN3.out; omega)).trans HS4.out)
      obtain ⟨xf, xp, xn, xs, xm, xc, ex⟩ := c_eta (s.cs.getD x noC)
      obtain ⟨b1, o1, rfl, g0, g1, g2, g3, g4, g5⟩ := (HI.out.below (HB4.out.trans (grown_below hg (by have := HN3.out; omega) (by have := HN4.out; have := HN3.out; omega)))).cells hx ex
      have HQ := Lib.hid (fat_of ex)
      have hi0 : (0 : Int) ≤ (x : Int) := by omega
      have hi1 : (x : Int) < (s.cs.length : Int) := by omega
      have HSZ := Lib.hid (show w4.heap.size ≤ W.heap.size from hg.size)
      have HKL := Lib.hid (show (vals pre).length < 10000 from by rw [vals_len]; have := HL.out; omega)
      clear ex hg hlt hp
      have hc := hv.cell
      cases xf with
      | true =>
        gi_wp2
        exact ⟨KeepsFrom.refl _ _, ⟨⟨rfl, pre, ⟨x, hx⟩, rfl, HP.out, HQ.out⟩, by rw [List.dropLast_concat]; exact ⟨v, hv, hrow⟩⟩, HG.out⟩
      | false =>
        gi_wp2_with (gi_at_builtin; refine wpListIn_append_own _ rfl _ _ 81 rfl w4.heap.size 3 i0 (.int .i64 0) 1 8 Tryz.underlying81 hi hz0 hz1 hz2 rfl (by decide) _ _ _ rfl (hrow.alloc _) ⟨W.heap.size, 0, none⟩ 1 1 [.int .i64 (x : Int)] rfl rfl (cell_one_new _ _ _) (by simp [Value.oneCell']) (Nat.le_trans (show _ ≤ 10001 by have := HKL.out; omega) (by decide)) (by have := HKL.out; omega) (by have := HSZ.out; simp; omega) ?_; intro v' w1' hown' hgrow _; obtain ⟨g', cap', rfl⟩ := ownsRow_succ hown'; obtain ⟨hv1, hv2, hr2, hk2, hgw2⟩ := appended2 hv (by decide) hrow HSZ.out hown' hgrow; have hc1 := hv1.cell; have hf1 := hv1.frozen)
        have HGW := hgw2 w4 rfl HG.out
        refine ⟨hk2.from _, fun q h1 h2 => (HGW.block q (by have := HN4.out; have := HLT.out; omega) (fun he => by injection he with he; have := HLT.out; omega)).trans (HG.out.block q (by have := HN4.out; have := HLT.out; omega) (fun he => by injection he with he; have := HLT.out; omega)).symm, ⟨fun y hy => (List.mem_append.1 hy).elim (HP.out y) (fun e => by rw [List.mem_singleton.1 e]; exact HQ.out), _, hv2, ?_⟩, HGW⟩
        rw [vals_snoc]
        unfold OwnInts
        rw [List.length_append]
        simpa [i64s] using hr2
    case done =>
      rintro D ys W hD rfl ⟨⟨hp, v, hv, hrow⟩, hg⟩ hK
      have hc := hv.cell
      have HV := Lib.hid (show cells s.cs a = vals (upto (wseq s.cs.length HZ.out (0) (0) 1) s.cs.length) by unfold cells; rw [HBE.out]; exact cells_full HSQ.out (fun i hi => hp _ (mem_upto hi)))
      have HROW := Lib.hid hrow
      have HBW := Lib.hid (HB4.out.trans (grown_below hg (by have := HN3.out; omega) (by have := HN4.out; have := HN3.out; omega)))
      obtain ⟨va, vc, rfl⟩ := hrow.form
      clear hrow hg hv hp
      go_wp2_with fail
      refine ⟨by simp, .inl ⟨_, _, rfl, run_takeDeferred hK, ?_⟩⟩
      exact ⟨_, results_tmp rfl _ _ _, _, rfl, by rw [HV.out]; exact OwnInts.mono (ownsRow_putObj HROW.out _ hK rfl) (by have := HN4.out; have := HN3.out; omega), HBW.out.trans (belowK_b (w := w) (Nat.le_refl _) W D _ _ (by have := HN4.out; have := HN3.out; omega) hK rfl rfl)⟩
    case stop =>
      rintro D c pre W hD ⟨q, hq, hpre⟩ ⟨⟨⟨rfl, p, x, he, h1, h2⟩, v, hv, hrow⟩, hg⟩ hK
      rw [he, List.dropLast_concat] at hrow
      obtain ⟨j, rfl, rfl, rfl⟩ := upto_last (he.symm.trans hpre)
      have hc := hv.cell
      have HV := Lib.hid (show cells s.cs a = vals (upto (wseq s.cs.length HZ.out (0) (0) 1) j) by unfold cells; rw [HBE.out]; exact cells_stop HSQ.out (by omega) h2 (fun i hi => h1 _ (mem_upto hi)))
      have HROW := Lib.hid hrow
      have HBW := Lib.hid (HB4.out.trans (grown_below hg (by have := HN3.out; omega) (by have := HN4.out; have := HN3.out; omega)))
      obtain ⟨va, vc, rfl⟩ := hrow.form
      clear hrow hg hv h1 h2 he hpre
      gi_wp2
      go_wp2_with fail
      refine ⟨by simp, .inl ⟨_, _, rfl, run_takeDeferred hK, ?_⟩⟩
      exact ⟨_, results_tmp rfl _ _ _, _, rfl, by rw [HV.out]; exact OwnInts.mono (ownsRow_putObj HROW.out _ hK rfl) (by have := HN4.out; have := HN3.out; omega), HBW.out.trans (belowK_b (w := w) (Nat.le_refl _) W D _ _ (by have := HN4.out; have := HN3.out; omega) hK rfl rfl)⟩
  | true =>
    obtain ⟨_, b, _, hbk, hbe, hbl, _, _⟩ := begin_some HA.out hf
    clear hbk
    have HBE := Lib.hid hbe
    have HBL := Lib.hid hbl
    rw [hbe]
    clear hbe hf hbl
    have hb0 : (0 : Int) ≤ (b : Int) := by omega
    obtain ⟨c0, c1, c2, c3, c4, c5⟩ := box6 HS2.out
    go_wp2_with fail
    clear c0 c1 c2 c3 c4 c5
    refine (walk_any _ _ _ _ _ _ _ _ _ _ _ _).mono ?_
    rintro e w3 ⟨rfl, hbox, hb3, hn3⟩
    have HS3 := Lib.hid (show w3.heap[w.heap.size]? = some (.cells (sbox s ad k) 24) from (hb3.block _ (by have := HN2.out; omega)).trans HS2.out)
    have HB3 := Lib.hid (kept_trans HB2.out hb3)
    have HBX3 := Lib.hid hbox
    have HN3 := Lib.hid (show w.heap.size + 5 ≤ w3.heap.size by have := HN2.out; omega)
    clear HS2 HB2 HBX2 hbox hb3 hn3
    have HSQ := Lib.hid (show ∀ i, (wseq s.cs.length HZ.out ((b : Int)) (1) 1 i).1 = on s.cs.length (b : Int) ((i : Int) + 1) from wseq_some HZ.out (b : Int))
    go_wp2_with fail
    obtain ⟨w4, hw4⟩ : ∃ w4 : World, w3.alloc (.cells #[.slice none 0 0] 81) = w4 := ⟨_, rfl⟩
    have HS4 := Lib.hid (show w4.heap[w.heap.size]? = some (.cells (sbox s ad k) 24) from hw4 ▸ (Below.heap_alloc _ _ _ (by have := HN3.out; omega)).trans HS3.out)
    have HR4 := Lib.hid (show w4.heap[w3.heap.size]? = some (.cells #[.slice none 0 0] 81) from hw4 ▸ World.alloc_heap_new w3 _)
    have HB4 := Lib.hid (show Below w.heap.size w w4 from hw4 ▸ kept_trans HB3.out (al_any _ _))
    have HN4 := Lib.hid (show w4.heap.size = w3.heap.size + 1 by rw [← hw4]; simp)
    have HBX4 := Lib.hid (show Boxes w4 (w2.heap.size) (sbox s ad k) ((b : Int)) (1) 1 from hw4 ▸ HBX3.out.kept (kp4_below (al_any w3 _) HBX3.out.lt))
    have HLT := Lib.hid HBX3.out.lt
    rw [hw4]
    clear hw4 HB3 HS3 HBX3
    go_wp2_with fail
    refine (wpIn_wide (n := 4)).1 ?_
    refine wpIn_rangeFunc_ownG rfl (by omega) (gf := 137) (lb := #[.pointer (some ⟨w2.heap.size, 0, none⟩), .pointer (some ⟨w2.heap.size + 1, 0, none⟩), .pointer (some ⟨w2.heap.size + 2, 0, none⟩), .pointer (some ⟨w2.heap.size + 3, 0, none⟩)]) rfl trivial (enters_of Tryz.func137 (by kernel_rfl) rfl)
      (walk_stops 3 (by omega) s.rows s.cols ad s.cs.length k s.cur s.lk s.ins HZ.out HL.out ((b : Int)) (1) 1 (by have := HL.out; have := HBL.out; omega) (by omega) (by omega) w4 (w2.heap.size) HBX4.out)
      kp4_t (kp4_b HBX4.out.lt) (Below.refl _ _) (fun _ => rfl)
      (fun pre W => ((∀ y ∈ pre, fat s.cs y.1 = false) ∧ HasInts W w3.heap.size w4.heap.size (vals pre)) ∧ w4.grownBy W (some w3.heap.size))
      (fun c pre W => ((c = .exit 0 ∧ ∃ p x, pre = p ++ [x] ∧ (∀ y ∈ p, fat s.cs y.1 = false) ∧ fat s.cs x.1 = true) ∧ HasInts W w3.heap.size w4.heap.size (vals pre.dropLast)) ∧ w4.grownBy W (some w3.heap.size))
      (OwnFrom.and (OwnFrom.and (ownFrom_pure _ _) (Own.from (hasInts_own _ _ fun pre => vals pre) _)) ownFrom_grown)
      (fun c => OwnFrom.and (OwnFrom.and (ownFrom_pure _ _) (Own.from (hasInts_own _ _ fun (pre : List (Pl s.cs.length)) => vals pre.dropLast) _)) ownFrom_grown)
      ⟨⟨nofun, _, HR4.out, World.ownsRow_nil _ _ _ _⟩, grown_none (grown_of (Below.refl _ _))⟩
      (fun x => { tmps := #[.agg (sbox s ad k), .int .i64 (a : Int), .pointer (some ⟨w.heap.size, 0, none⟩), undef, .slice none 0 0, .func (.func 137) #[] #[.pointer (some ⟨w2.heap.size, 0, none⟩), .pointer (some ⟨w2.heap.size + 1, 0, none⟩), .pointer (some ⟨w2.heap.size + 2, 0, none⟩), .pointer (some ⟨w2.heap.size + 3, 0, none⟩)], .int .i64 (b : Int), .pointer (some ⟨w3.heap.size, 0, none⟩), .int .i64 (x.1 : Int), .agg (sbox s ad k), .func (.func 137) #[] #[.pointer (some ⟨w0.heap.size, 0, none⟩), .pointer (some ⟨w0.heap.size + 1, 0, none⟩), .pointer (some ⟨w0.heap.size + 2, 0, none⟩), .pointer (some ⟨w0.heap.size + 3, 0, none⟩)], .agg (sbox s ad k), .int .i64 (a : Int), .int .i64 (b : Int), .int .i64 (b : Int), .bool true, .agg (sbox s ad k), .int .i64 (b : Int), .func (.func 137) #[] #[.pointer (some ⟨w2.heap.size, 0, none⟩), .pointer (some ⟨w2.heap.size + 1, 0, none⟩), .pointer (some ⟨w2.heap.size + 2, 0, none⟩), .pointer (some ⟨w2.heap.size + 3, 0, none⟩)], .func (.func 137) #[] #[.pointer (some ⟨w2.heap.size, 0, none⟩), .pointer (some ⟨w2.heap.size + 1, 0, none⟩), .pointer (some ⟨w2.heap.size + 2, 0, none⟩), .pointer (some ⟨w2.heap.size + 3, 0, none⟩)], .int .i64 (x.1 : Int), undef, undef, undef, undef, undef, undef, undef, undef, undef, undef, undef], defers := [] }) ?assign ?body ?done ?stop
    case assign =>
      intro l x W K hK
      gi_wp2
      exact hK
    case body =>
      rintro l pre ⟨x, hx⟩ W ⟨⟨hp, v, hv, hrow⟩, hg⟩ hlt
      obtain ⟨i0, hi, hz0, hz1, hz2⟩ := info_parts info_int
      have HP := Lib.hid hp
      have HG := Lib.hid hg
      obtain ⟨c0, c1, c2, c3, c4, c5⟩ := box6 ((hg.block _ (by have := HN4.out; have := HN3.out; omega) (fun he => by injection he with he; have := HN3.out; omega)).trans HS4.out)
      obtain ⟨xf, xp, xn, xs, xm, xc, ex⟩ := c_eta (s.cs.getD x noC)
      obtain ⟨b1, o1, rfl, g0, g1, g2, g3, g4, g5⟩ := (HI.out.below (HB4.out.trans (grown_below hg (by have := HN3.out; omega) (by have := HN4.out; have := HN3.out; omega)))).cells hx ex
      have HQ := Lib.hid (fat_of ex)
      have hi0 : (0 : Int) ≤ (x : Int) := by omega
      have hi1 : (x : Int) < (s.cs.length : Int) := by omega
      have HSZ := Lib.hid (show w4.heap.size ≤ W.heap.size from hg.size)
      have HKL := Lib.hid (show (vals pre).length < 10000 from by rw [vals_len]; have := HL.out; omega)
      clear ex hg hlt hp
      have hc := hv.cell
      cases xf with
      | true =>
        gi_wp2
        exact ⟨KeepsFrom.refl _ _, ⟨⟨rfl, pre, ⟨x, hx⟩, rfl, HP.out, HQ.out⟩, by rw [List.dropLast_concat]; exact ⟨v, hv, hrow⟩⟩, HG.out⟩
      | false =>
        gi_wp2_with (gi_at_builtin; refine wpListIn_append_own _ rfl _ _ 81 rfl w4.heap.size 3 i0 (.int .i64 0) 1 8 Tryz.underlying81 hi hz0 hz1 hz2 rfl (by decide) _ _ _ rfl (hrow.alloc _) ⟨W.heap.size, 0, none⟩ 1 1 [.int .i64 (x : Int)] rfl rfl (cell_one_new _ _ _) (by simp [Value.oneCell']) (Nat.le_trans (show _ ≤ 10001 by have := HKL.out; omega) (by decide)) (by have := HKL.out; omega) (by have := HSZ.out; simp; omega) ?_; intro v' w1' hown' hgrow _; obtain ⟨g', cap', rfl⟩ := ownsRow_succ hown'; obtain ⟨hv1, hv2, hr2, hk2, hgw2⟩ := appended2 hv (by decide) hrow HSZ.out hown' hgrow; have hc1 := hv1.cell; have hf1 := hv1.frozen)
        have HGW := hgw2 w4 rfl HG.out
        refine ⟨hk2.from _, fun q h1 h2 => (HGW.block q (by have := HN4.out; have := HLT.out; omega) (fun he => by injection he with he; have := HLT.out; omega)).trans (HG.out.block q (by have := HN4.out; have := HLT.out; omega) (fun he => by injection he with he; have := HLT.out; omega)).symm, ⟨fun y hy => (List.mem_append.1 hy).elim (HP.out y) (fun e => by rw [List.mem_singleton.1 e]; exact HQ.out), _, hv2, ?_⟩, HGW⟩
        rw [vals_snoc]
        unfold OwnInts
        rw [List.length_append]
        simpa [i64s] using hr2
    case done =>
      rintro D ys W hD rfl ⟨⟨hp, v, hv, hrow⟩, hg⟩ hK
      have hc := hv.cell
      have HV := Lib.hid (show cells s.cs a = vals (upto (wseq s.cs.length HZ.out ((b : Int)) (1) 1) s.cs.length) by unfold cells; rw [HBE.out]; exact cells_full HSQ.out (fun i hi => hp _ (mem_upto hi)))
      have HROW := Lib.hid hrow
      have HBW := Lib.hid (HB4.out.trans (grown_below hg (by have := HN3.out; omega) (by have := HN4.out; have := HN3.out; omega)))
      obtain ⟨va, vc, rfl⟩ := hrow.form
      clear hrow hg hv hp
      go_wp2_with fail
      refine ⟨by simp, .inl ⟨_, _, rfl, run_takeDeferred hK, ?_⟩⟩
      exact ⟨_, results_tmp rfl _ _ _, _, rfl, by rw [HV.out]; exact OwnInts.mono (ownsRow_putObj HROW.out _ hK rfl) (by have := HN4.out; have := HN3.out; omega), HBW.out.trans (belowK_b (w := w) (Nat.le_refl _) W D _ _ (by have := HN4.out; have := HN3.out; omega) hK rfl rfl)⟩
    case stop =>
      rintro D c pre W hD ⟨q, hq, hpre⟩ ⟨⟨⟨rfl, p, x, he, h1, h2⟩, v, hv, hrow⟩, hg⟩ hK
      rw [he, List.dropLast_concat] at hrow
      obtain ⟨j, rfl, rfl, rfl⟩ := upto_last (he.symm.trans hpre)
      have hc := hv.cell
      have HV := Lib.hid (show cells s.cs a = vals (upto (wseq s.cs.length HZ.out ((b : Int)) (1) 1) j) by unfold cells; rw [HBE.out]; exact cells_stop HSQ.out (by omega) h2 (fun i hi => h1 _ (mem_upto hi)))
      have HROW := Lib.hid hrow
      have HBW := Lib.hid (HB4.out.trans (grown_below hg (by have := HN3.out; omega) (by have := HN4.out; have := HN3.out; omega)))
      obtain ⟨va, vc, rfl⟩ := hrow.form
      clear hrow hg hv h1 h2 he hpre
      gi_wp2
      go_wp2_with fail
      refine ⟨by simp, .inl ⟨_, _, rfl, run_takeDeferred hK, ?_⟩⟩
      exact ⟨_, results_tmp rfl _ _ _, _, rfl, by rw [HV.out]; exact OwnInts.mono (ownsRow_putObj HROW.out _ hK rfl) (by have := HN4.out; have := HN3.out; omega), HBW.out.trans (belowK_b (w := w) (Nat.le_refl _) W D _ _ (by have := HN4.out; have := HN3.out; omega) hK rfl rfl)⟩
end Fld
end Go.Proofs.YtpdlpmbjhopnnaaGreatDoor
