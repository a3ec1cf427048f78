/- The iterator over all cells of a screen (walk of package field). -/
import Derived.RangeFuncNested
import Derived.RangeFuncBound
import Derived.RangeFuncCalls
import Derived.RangeFuncLeaves
import Derived.Shelf.Abstract
import Derived.Shelf.RegionOpen
import Derived.WalkKit
import Derived.OwnWalkIn
import Derived.TacticsInMore
import Derived.LoopNIn
import Derived.LoopIn
import Derived.Test.YtoacookbfpcncaaGrdOn
namespace Go.Proofs.Ytoacookbfpcncaa
open Go.RowKit Sha Six Apd Cut Err Att Grd
set_option linter.unusedVariables false
attribute [local go_sem] Oper.semAt_some
namespace Fld
/-- The four blocks that the iterator reads. -/
structure Boxes (W : World) (B : Nat) (sv : Array Value) (a m st : Int) : Prop where
  b0 : W.heap[B]? = some (.cells sv 24)
  b1 : W.heap[B + 1]? = some (.cells #[.int .i64 a] 3)
  b2 : W.heap[B + 2]? = some (.cells #[.int .i64 m] 3)
  b3 : W.heap[B + 3]? = some (.cells #[.int .i64 st] 3)
/-- What a round keeps. -/
def Kp4 (B : Nat) (A W : World) : Prop := ∀ k, B ≤ k → k < B + 4 → W.heap[k]? = A.heap[k]?
theorem Boxes.kept {A W : World} {B : Nat} {sv : Array Value} {a m st : Int} (h : Boxes A B sv a m st) (hk : Kp4 B A W) : Boxes W B sv a m st :=
  ⟨(hk B (by omega) (by omega)).trans h.b0, (hk (B + 1) (by omega) (by omega)).trans h.b1, (hk (B + 2) (by omega) (by omega)).trans h.b2, (hk (B + 3) (by omega) (by omega)).trans h.b3⟩
theorem Boxes.lt {A : World} {B : Nat} {sv : Array Value} {a m st : Int} (h : Boxes A B sv a m st) : B + 4 ≤ A.heap.size := by
  have := (Array.getElem?_eq_some_iff.1 h.b3).1; omega
theorem kp4_below {A W : World} {B n : Nat} (h : Below n A W) (hn : B + 4 ≤ n) : Kp4 B A W := fun k _ h2 => h.block k (by omega)
theorem grown_of {A W : World} (h : Below A.heap.size A W) : A.grownBy W none := ⟨h.os, h.tape, h.output, h.size, fun k hk _ => h.block k hk⟩
/-- What has come when k rounds are over. -/
def upto {α : Type} (f : Nat → α) (k : Nat) : List α := (List.range k).map f
theorem upto_succ {α : Type} (f : Nat → α) (k : Nat) : upto f (k + 1) = upto f k ++ [f k] := by simp [upto, List.range_succ]
theorem upto_length {α : Type} (f : Nat → α) (k : Nat) : (upto f k).length = k := by simp [upto]
theorem upto_last {α : Type} {f : Nat → α} {q : Nat} {p : List α} {x : α} (h : p ++ [x] = upto f q) : ∃ j, q = j + 1 ∧ p = upto f j ∧ x = f j := by
  cases q with
  | zero => have := congrArg List.length h; rw [upto_length] at this; simp at this
  | succ j =>
    rw [upto_succ] at h
    obtain ⟨h1, h2⟩ := List.append_inj' h rfl
    injection h2 with h2
    exact ⟨j, rfl, h1, h2⟩
theorem mem_upto {α : Type} {f : Nat → α} {q i : Nat} (h : i < q) : f i ∈ upto f q := by
  unfold upto; exact List.mem_map.2 ⟨i, List.mem_range.2 h, rfl⟩
theorem kp4_t {B : Nat} {X Y Z : World} (h : Kp4 B X Y) (k : Kp4 B Y Z) : Kp4 B X Z := fun i h1 h2 => (k i h1 h2).trans (h i h1 h2)
theorem kp4_b {B : Nat} {w : World} (hB : B + 4 ≤ w.heap.size) (W : World) (l : Nat) (o o' : Obj) (hl : w.heap.size ≤ l) (h : W.heap[l]? = some o) (_ : o.isCells = false) (_ : o.isWalk = false) : Kp4 B W (W.putObj l o') :=
  fun k _ h2 => World.putObj_heap_other (by omega)
theorem ownFrom_grown {β : Type} {w : World} {L : Option Nat} : OwnFrom w.heap.size (fun (_ : β) W => w.grownBy W L) :=
  fun _ _ _ row hs hg hr => ⟨hg.os.trans hs.os, hg.tape.trans hs.tape, hg.output.trans hs.output, Nat.le_trans hs.size hg.size, fun k hk hn => (hg.block k (Nat.lt_of_lt_of_le hk hs.size) (fun e => by have := (hr k e.symm).1; omega)).trans (hs.block k hk hn)⟩
theorem grown_t {X Y Z : World} {L : Option Nat} (h : X.grownBy Y L) (k : Y.grownBy Z L) : X.grownBy Z L :=
  ⟨k.os.trans h.os, k.tape.trans h.tape, k.output.trans h.output, Nat.le_trans h.size k.size, fun i hi hn => (k.block i (Nat.lt_of_lt_of_le hi h.size) hn).trans (h.block i hi hn)⟩
theorem grown_none {X Y : World} {L : Option Nat} (h : X.grownBy Y none) : X.grownBy Y L := ⟨h.os, h.tape, h.output, h.size, fun i hi _ => h.block i hi nofun⟩
theorem grown_below {X Y : World} {L n : Nat} (h : X.grownBy Y (some L)) (hn : n ≤ L) (hx : n ≤ X.heap.size) : Below n X Y := ⟨h.os, h.tape, h.output, h.size, fun k hk => h.block k (by omega) (fun e => by injection e; omega)⟩
/-- A place on a screen of z cells. -/
abbrev Pl (z : Nat) := { x : Nat // x < z }
def wseq (z : Nat) (hz : 0 < z) (a m st : Int) (i : Nat) : Pl z := ⟨on z a (m + (i : Int) * st), on_lt hz _ _⟩
theorem wseq_val {z : Nat} {hz : 0 < z} {a m st t : Int} {i : Nat} (h : m + (i : Int) * st = t) : (wseq z hz a m st i).1 = on z a t := by rw [← h]; rfl
theorem box6 {w : World} {b : Nat} {x0 x1 x2 x3 x4 x5 : Value} {t : TypeId} (h : w.heap[b]? = some (.cells #[x0, x1, x2, x3, x4, x5] t)) :
    w.cell? ⟨b, 0, none⟩ = some x0 ∧ w.cell? ⟨b, 0 + 1, none⟩ = some x1 ∧ w.cell? ⟨b, 0 + 2, none⟩ = some x2 ∧ w.cell? ⟨b, 0 + 3, none⟩ = some x3 ∧ w.cell? ⟨b, 0 + 4, none⟩ = some x4 ∧ w.cell? ⟨b, 0 + 5, none⟩ = some x5 := by
  simp [World.cell?, h]
set_option maxRecDepth 100000 in
set_option maxHeartbeats 8000000 in
theorem walk1_in (F : Fence) (n : Nat) (h0 : F.fn 37) (h1 : F.fn 38) (h2 : F.fn 39) (hro : F.round = none) (hn : 2 ≤ n)
    (r c : Int) (ad : Option Addr) (z k : Nat) (cur : Int) (lk ins : Bool) (hz : 0 < z) (hz2 : z < 10000) (a m st : Int) (ha : -100000 < a ∧ a < 100000) (hm : -100000 < m ∧ m < 100000) (hst : -2 < st ∧ st < 2)
    (HS : ∀ W, CallsIn F (n - 1) Try.prog 38 #[.agg #[.int .i64 r, .int .i64 c, .slice ad z k, .int .i64 cur, .bool lk, .bool ins]] W fun e w' => e = .returned (.int .i64 (z : Int)) ∧ Below W.heap.size W w')
    (HO : ∀ (i : Int) W, IntKind.i64.wrap i = i → CallsIn F (n - 1) Try.prog 39 #[.agg #[.int .i64 r, .int .i64 c, .slice ad z k, .int .i64 cur, .bool lk, .bool ins], .int .i64 a, .int .i64 i] W fun e w' => e = .returned (.int .i64 ((on z a i : Nat) : Int)) ∧ Below W.heap.size W w')
    (l B : Nat) (J Jx : List (Pl z) → World → Prop) (W : World) (hJ : AbidesFrom W.heap.size J)
    (hY : ∀ (pre : List (Pl z)) (x : Pl z) W1, J pre W1 → pre.length < z → YieldAt F (n - 1) Try.prog l #[.int .i64 (x.1 : Int)] W1 fun e W' =>
      (e = .returned (.bool true) ∧ J (pre ++ [x]) W' ∧ Kp4 B W1 W') ∨ (e = .returned (.bool false) ∧ Jx (pre ++ [x]) W'))
    (hB : Boxes W B #[.int .i64 r, .int .i64 c, .slice ad z k, .int .i64 cur, .bool lk, .bool ins] a m st) (hj0 : J [] W) :
    CallsIn F n Try.prog 37 #[.func (.yield l) #[] #[], .pointer (some ⟨B, 0, none⟩), .pointer (some ⟨B + 1, 0, none⟩), .pointer (some ⟨B + 2, 0, none⟩), .pointer (some ⟨B + 3, 0, none⟩)] W fun e W' => (∃ v, e = .returned v) ∧
      ((∃ ys, ys = upto (wseq z hz a m st) z ∧ J ys W') ∨ (∃ pre, (∃ q, q ≤ z ∧ pre = upto (wseq z hz a m st) q) ∧ Jx pre W')) := by
  have HB := Lib.hid hB
  have HJ0 := Lib.hid hj0
  have HN := Lib.hid hn
  obtain ⟨c0, c1, c2, c3, c4, c5⟩ := box6 hB.b0
  clear hB hj0
  have hn1 : 1 ≤ n := by omega
  have hn2 : 1 ≤ n - 1 := by omega
  refine callsIn_of_wp Try.func37 rfl h0 ?_ hro
  simp only [Try.ntmps37, List.size_toArray, List.length_cons, List.length_nil, Nat.reduceAdd, Nat.reduceSub, Array.replicate_succ, Array.replicate_zero, List.push_toArray, List.append_toArray, List.nil_append, List.cons_append]
  gi_wp2_with fail
  refine (HS _).mono ?_
  rintro e W1 ⟨rfl, hb1⟩
  have HB1 := Lib.hid (HB.out.kept (kp4_below hb1 HB.out.lt))
  have HJ1 := Lib.hid (hJ _ _ _ none HJ0.out (grown_of hb1) nofun)
  have HL := Lib.hid hb1.size
  clear hb1 c0 c1 c2 c3 c4 c5
  gi_wp2_with fail
  gi_loopw [9] (fun i wr => ∃ q : Nat, q ≤ z ∧ i = .int .i64 q ∧ Hid (J (upto (wseq z hz a m st) q) wr) ∧ Hid (Boxes wr B #[.int .i64 r, .int .i64 c, .slice ad z k, .int .i64 cur, .bool lk, .bool ins] a m st))
    (fun i _ => z - (intOf i).toNat)
  case atStart => exact ⟨0, Nat.zero_le _, rfl, HJ1, HB1⟩
  case round =>
    obtain ⟨q, hq, rfl, HJ, HB⟩ := hrel
    by_cases hlt : q < z
    · have e1 : wrap64 ((q : Int) * st) = (q : Int) * st := by
        rcases (by omega : st = -1 ∨ st = 0 ∨ st = 1) with rfl | rfl | rfl <;> (unfold wrap64; omega)
      have e2 : wrap64 (m + (q : Int) * st) = m + (q : Int) * st := by
        rcases (by omega : st = -1 ∨ st = 0 ∨ st = 1) with rfl | rfl | rfl <;> (unfold wrap64; omega)
      have e3 : IntKind.i64.wrap (m + (q : Int) * st) = m + (q : Int) * st := by
        rw [IntKind.wrap_i64]; unfold wrap64 at e2; exact e2
      have hi : (q : Int) < (z : Int) := by omega
      obtain ⟨c0, c1, c2, c3, c4, c5⟩ := box6 HB.out.b0
      have d1 : wr.cell? ⟨B + 1, 0, none⟩ = some (.int .i64 a) := by simp [World.cell?, HB.out.b1]
      have d2 : wr.cell? ⟨B + 2, 0, none⟩ = some (.int .i64 m) := by simp [World.cell?, HB.out.b2]
      have d3 : wr.cell? ⟨B + 3, 0, none⟩ = some (.int .i64 st) := by simp [World.cell?, HB.out.b3]
      obtain ⟨⟨res, hres⟩, hpx⟩ : ∃ px : Pl z, wseq z hz a m st q = px := ⟨_, rfl⟩
      have hv : on z a (m + (q : Int) * st) = res := congrArg Subtype.val hpx
      have HO2 := Lib.hid (hv ▸ HO (m + (q : Int) * st) wr e3)
      clear hv
      clear e3
      have HX := Lib.hid (show upto (wseq z hz a m st) (q + 1) = upto (wseq z hz a m st) q ++ [⟨res, hres⟩] by rw [upto_succ, hpx])
      clear hpx
      have HLT := Lib.hid hlt
      gi_wp2_with fail
      with_reducible refine HO2.out.mono ?_
      rintro e W2 ⟨rfl, hb2⟩
      have HB2 := Lib.hid (HB.out.kept (kp4_below hb2 HB.out.lt))
      have hj2 := hJ _ _ _ none HJ.out (grown_of hb2) nofun
      clear hb2 c0 c1 c2 c3 c4 c5 d1 d2 d3
      obtain ⟨fn, tmps, assign, body, hy, hR⟩ := hY _ ⟨res, hres⟩ W2 hj2 (by rw [upto_length]; exact hlt)
      replace hR := Lib.hid hR
      clear hj2
      dsimp only at hy
      gi_wp2_with fail
      refine hR.out.mono ?_
      rintro e W3 (⟨rfl, hJ3, hk3⟩ | ⟨rfl, hJx3⟩)
      · have HJ3 := Lib.hid hJ3
        have HB3 := Lib.hid (HB2.out.kept hk3)
        clear hJ3 hk3
        gi_wp2_with fail
        go_roundw
        case rel => exact ⟨q + 1, hlt, by simp, Lib.hid (by rw [HX.out]; exact HJ3.out), HB3⟩
        case measure => simp [intOf]; omega
      · have HJX := Lib.hid hJx3
        clear hJx3
        gi_wp2_with fail
        refine bodyPost_ret (results_none rfl _ _ _) rfl ?_
        exact ⟨⟨_, rfl⟩, .inr ⟨_, ⟨q + 1, hlt, rfl⟩, by rw [HX.out]; exact HJX.out⟩⟩
    · obtain rfl : q = z := by omega
      gi_wp2_with fail
      go_end0
      exact ⟨⟨_, rfl⟩, .inl ⟨_, rfl, HJ.out⟩⟩
set_option maxRecDepth 100000 in
set_option maxHeartbeats 4000000 in
/-- What walk hands back: the iterator, over four new blocks. -/
theorem walk_any (r c : Int) (ad : Option Addr) (z k : Nat) (cur : Int) (lk ins : Bool) (a m st : Int) (w : World) :
    Calls Try.prog 31 #[.agg #[.int .i64 r, .int .i64 c, .slice ad z k, .int .i64 cur, .bool lk, .bool ins], .int .i64 a, .int .i64 m, .int .i64 st] w fun e w' =>
      e = .returned (.func (.func 37) #[] #[.pointer (some ⟨w.heap.size, 0, none⟩), .pointer (some ⟨w.heap.size + 1, 0, none⟩), .pointer (some ⟨w.heap.size + 2, 0, none⟩), .pointer (some ⟨w.heap.size + 3, 0, none⟩)]) ∧
      Boxes w' w.heap.size #[.int .i64 r, .int .i64 c, .slice ad z k, .int .i64 cur, .bool lk, .bool ins] a m st ∧ Below w.heap.size w w' ∧ w'.heap.size = w.heap.size + 4 := by
  have HR := Lib.hid (show Boxes ((((w.alloc (.cells #[.int .i64 r, .int .i64 c, .slice ad z k, .int .i64 cur, .bool lk, .bool ins] 24)).alloc (.cells #[.int .i64 a] 3)).alloc (.cells #[.int .i64 m] 3)).alloc (.cells #[.int .i64 st] 3)) w.heap.size #[.int .i64 r, .int .i64 c, .slice ad z k, .int .i64 cur, .bool lk, .bool ins] a m st ∧
      Below w.heap.size w ((((w.alloc (.cells #[.int .i64 r, .int .i64 c, .slice ad z k, .int .i64 cur, .bool lk, .bool ins] 24)).alloc (.cells #[.int .i64 a] 3)).alloc (.cells #[.int .i64 m] 3)).alloc (.cells #[.int .i64 st] 3)) ∧
      ((((w.alloc (.cells #[.int .i64 r, .int .i64 c, .slice ad z k, .int .i64 cur, .bool lk, .bool ins] 24)).alloc (.cells #[.int .i64 a] 3)).alloc (.cells #[.int .i64 m] 3)).alloc (.cells #[.int .i64 st] 3)).heap.size = w.heap.size + 4 from by
    refine ⟨⟨?_, ?_, ?_, ?_⟩, kept_trans (al_any w _) (kept_trans (al_any _ _) (kept_trans (al_any _ _) (al_any _ _))), by simp⟩
    · rw [Below.heap_alloc _ _ _ (by simp <;> omega), Below.heap_alloc _ _ _ (by simp <;> omega), Below.heap_alloc _ _ _ (by simp)]; exact World.alloc_heap_new w _
    · rw [Below.heap_alloc _ _ _ (by simp <;> omega), Below.heap_alloc _ _ _ (by simp)]
      have := World.alloc_heap_new (w.alloc (.cells #[.int .i64 r, .int .i64 c, .slice ad z k, .int .i64 cur, .bool lk, .bool ins] 24)) (.cells #[.int .i64 a] 3)
      rwa [World.size_alloc] at this
    · rw [Below.heap_alloc _ _ _ (by simp)]
      have := World.alloc_heap_new ((w.alloc (.cells #[.int .i64 r, .int .i64 c, .slice ad z k, .int .i64 cur, .bool lk, .bool ins] 24)).alloc (.cells #[.int .i64 a] 3)) (.cells #[.int .i64 m] 3)
      rwa [World.size_alloc, World.size_alloc] at this
    · have := World.alloc_heap_new (((w.alloc (.cells #[.int .i64 r, .int .i64 c, .slice ad z k, .int .i64 cur, .bool lk, .bool ins] 24)).alloc (.cells #[.int .i64 a] 3)).alloc (.cells #[.int .i64 m] 3)) (.cells #[.int .i64 st] 3)
      rwa [World.size_alloc, World.size_alloc, World.size_alloc] at this)
  go_enter Try.func31, Try.ntmps31
  go_wp2_with fail
  go_ret
  exact ⟨rfl, HR.out⟩
/-- The iterator's contract. -/
theorem walk_stops (n : Nat) (hn : 2 ≤ n) (r c : Int) (ad : Option Addr) (z k : Nat) (cur : Int) (lk ins : Bool) (hz : 0 < z) (hz2 : z < 10000) (a m st : Int) (ha : -100000 < a ∧ a < 100000) (hm : -100000 < m ∧ m < 100000) (hst : -2 < st ∧ st < 2)
    (w : World) (B : Nat) (hB : Boxes w B #[.int .i64 r, .int .i64 c, .slice ad z k, .int .i64 cur, .bool lk, .bool ins] a m st) :
    SeqStopsK Fence.wide n Try.prog 37 #[.pointer (some ⟨B, 0, none⟩), .pointer (some ⟨B + 1, 0, none⟩), .pointer (some ⟨B + 2, 0, none⟩), .pointer (some ⟨B + 3, 0, none⟩)] (fun x : Pl z => #[Value.int .i64 (x.1 : Int)]) (Kp4 B)
      (fun ys => ys = upto (wseq z hz a m st) z) (fun pre => ∃ q, q ≤ z ∧ pre = upto (wseq z hz a m st) q) z w := fun l J Jx W hW hJ _ hY h0 =>
  walk1_in Fence.wide n trivial trivial trivial rfl hn r c ad z k cur lk ins hz hz2 a m st ha hm hst
    (fun W => callsIn_wide.2 (size_any r c ad z k cur lk ins W))
    (fun i W hi => callsIn_wide.2 (on_any r c ad z k cur lk ins a i W hz (by omega) (by rw [IntKind.wrap_i64]; omega) hi))
    l B J Jx W hJ hY (hB.kept (kp4_below hW hB.lt)) h0
end Fld
end Go.Proofs.Ytoacookbfpcncaa
