/- The walk of HashKeeps. -/
import Derived.Test.YtmfecicapaiaeaaShaLaw
import Derived.Laws.AppendOwnNone
namespace Go.Proofs.Ytmfecicapaiaeaa
open Go.RowKit
namespace Sha
theorem append_law {ops : Array Oper} {rest : List Oper} {o : Oper} {a : Act} {Q : Exit → Act → World → Prop} {w : World} (hgd : o.guard = none) (s x : Operand)
    (ho : o.op = .call { callee := .builtin .append, args := #[s, x], argTypes := #[22, 22] }) (base : Nat) (v : Value) (n : Nat) (xs : List Value) (hs : a.eval s = v) (hown : w.ownsRow base 5 1 v n xs)
    (ao : Option Addr) (m c : Nat) (news : List Nat) (hx : a.eval x = .slice ao m c) (hl : news.length = m) (hnone : ao = none → m = 0 ∧ c = 0)
    (hnews : ∀ ad, ao = some ad → ∀ j u, (u8s news)[j]? = some u → w.cell? (ad.add j) = some u) (h63 : n + m < 100000000000) (hbase : base ≤ w.heap.size)
    (h : ∀ v' w', w'.ownsRow base 5 1 v' (n + m) (xs ++ u8s news) → w.grownBy w' v.ownBlock → (v' = .slice none 0 0 ↔ v = .slice none 0 0 ∧ m = 0) → wpList Try.prog ops Q rest (a.put o.dst v') w') : wpList Try.prog ops Q (o :: rest) a w := by
  obtain ⟨i0, hi, hz0, hz1, hz2⟩ := info_parts info5
  cases ao with
  | none =>
    obtain ⟨rfl, rfl⟩ := hnone rfl
    have hn : news = [] := List.eq_nil_of_length_eq_zero hl
    subst hn
    exact wpList_append_own_none hgd s x 22 ho base 5 i0 1 Try.underlying22 hi v n xs hs hown hx (h v w (by simpa [u8s] using hown) (grefl _ _) (by simp))
  | some ad =>
    exact wpList_append_own _ hgd s x 22 ho base 5 i0 (.int .u8 0) 1 1 Try.underlying22 hi hz0 hz1 hz2 rfl (by decide) v n xs hs hown ad m c (u8s news) hx (by rw [u8s_length, hl, Nat.mul_one]) (hnews ad rfl) (u8s_one _) (by unfold maxLen; omega) (by omega) hbase h
theorem bytes_src {w : World} {ao : Option Addr} {len cap : Nat} {xs : List Nat} (h : BytesIn w (.slice ao len cap) xs) : ∀ ad, ao = some ad → ∀ j u, (u8s xs)[j]? = some u → w.cell? (ad.add j) = some u := by
  intro ad hA j u hj
  have hjl : j < xs.length := by
    rcases Nat.lt_or_ge j xs.length with h' | h'
    · exact h'
    · rw [List.getElem?_eq_none (by rw [u8s_length]; exact h')] at hj; cases hj
  obtain ⟨ad2, cap2, hv, _, hc⟩ := h
  injection hv with h1 h2 h3
  subst h1
  rcases hc with h0 | ⟨g, off, hg, hc⟩
  · rw [h0] at hjl; simp at hjl
  · rw [hA] at hg
    injection hg with hg
    rw [hg, Addr.add_mid, hc j hjl, ← hj]
    have e := u8s_at hjl
    rw [List.getElem?_toArray] at e
    exact e.symm

set_option maxRecDepth 100000 in
set_option maxHeartbeats 1000000 in
theorem same_any (v1 v2 : Value) (xs : List Nat) (w : World) (h1 : BytesIn w v1 xs) (h2 : BytesIn w v2 xs) (hx8 : ∀ x ∈ xs, x < 256) (hl : xs.length < 1000000) :
    Calls Try.prog 19 #[v1, v2] w fun e w' => e = .returned (.bool true) ∧ ∃ k, w' = w.drewN k := by
  obtain ⟨ad1, c1, rfl, _, h1⟩ := h1
  obtain ⟨ad2, c2, rfl, _, h2⟩ := h2
  have H1 := Lib.hid h1
  have H2 := Lib.hid h2
  clear h1 h2
  go_enter Try.func19, Try.ntmps19
  go_wp2_with fail
  go_loopw [5] (fun i wr => ∃ k : Nat, k ≤ xs.length ∧ i = .int .i64 k ∧ ∃ n, wr = w.drewN n) (fun i _ => xs.length - (intOf i).toNat)
  case atStart => exact ⟨0, Nat.zero_le _, rfl, 0, rfl⟩
  case round =>
    obtain ⟨k, hk, rfl, n, rfl⟩ := hrel
    by_cases hlt : k < xs.length
    · rcases H1.out with h0 | ⟨g1, o1, rfl, hc1⟩
      · rw [h0] at hlt; simp at hlt
      rcases H2.out with h0 | ⟨g2, o2, rfl, hc2⟩
      · rw [h0] at hlt; simp at hlt
      have d1 := hc1 k hlt
      have d2 := hc2 k hlt
      have hx := getD_lt hx8 (by decide) k
      generalize xs.getD k 0 = x at d1 d2 hx
      have hi0 : (0 : Int) ≤ (k : Int) := by omega
      have hi1 : (k : Int) < (xs.length : Int) := by omega
      clear hc1 hc2
      go_wp2_with fail
      go_quiet (fail)
      go_wp2_with fail
      go_roundw
      case rel => exact ⟨k + 1, by omega, by go_num, n + nq, rfl⟩
      case measure => simp [intOf]; omega
    · have hge : xs.length ≤ k := by omega
      clear hlt
      go_wp2_with fail
      go_ret
      exact ⟨rfl, n, rfl⟩

set_option maxRecDepth 100000 in
set_option maxHeartbeats 1000000 in
theorem keeps_long0 (a0 : Option Addr) (len0 cap0 : Nat) (a1 : Option Addr) (len1 cap1 : Nat) (w : World) (hl : len0 ≤ maxLen) (h : 300 < len0) :
    Calls Try.prog 6 #[.slice a0 len0 cap0, .slice a1 len1 cap1] w fun e w' => e = .returned (.bool true) ∧ Below w.heap.size w w' := by
  unfold maxLen at hl
  have hg : decide ((300 : Int) < (len0 : Int)) = true := by simp; omega
  go_enter Try.func6, Try.ntmps6
  go_wp2_with fail
  refine (awake_any _).mono ?_
  rintro e w1 ⟨rfl, hb1⟩
  have B1 := Lib.hid hb1
  clear hb1
  go_wp2_with fail
  refine (awake_any _).mono ?_
  rintro e w2 ⟨rfl, hb2⟩
  have B2 := Lib.hid (B1.out.trans (hb2.mono B1.out.size))
  clear hb2
  go_wp2_with fail
  go_ret
  exact ⟨rfl, B2.out⟩

set_option maxRecDepth 100000 in
set_option maxHeartbeats 1000000 in
theorem keeps_long1 (a0 : Option Addr) (len0 cap0 : Nat) (a1 : Option Addr) (len1 cap1 : Nat) (w : World) (hl : len1 ≤ maxLen) (h0 : len0 ≤ 300) (h : 300 < len1) :
    Calls Try.prog 6 #[.slice a0 len0 cap0, .slice a1 len1 cap1] w fun e w' => e = .returned (.bool true) ∧ Below w.heap.size w w' := by
  unfold maxLen at hl
  have hg0 : decide ((300 : Int) < (len0 : Int)) = false := by simp; omega
  have hg : decide ((300 : Int) < (len1 : Int)) = true := by simp; omega
  go_enter Try.func6, Try.ntmps6
  go_wp2_with fail
  refine (awake_any _).mono ?_
  rintro e w1 ⟨rfl, hb1⟩
  have B1 := Lib.hid hb1
  clear hb1
  go_wp2_with fail
  refine (awake_any _).mono ?_
  rintro e w2 ⟨rfl, hb2⟩
  have B2 := Lib.hid (B1.out.trans (hb2.mono B1.out.size))
  clear hb2
  go_wp2_with fail
  go_ret
  exact ⟨rfl, B2.out⟩

/-- A slice of bytes that the call has made. -/
structure Mine (w : World) (base g n c : Nat) (ys : List Nat) : Prop where
  own : w.ownsRow base 5 1 (.slice (some ⟨g, 0, none⟩) n c) n (u8s ys)
  len : ys.length = n
  small : ∀ y ∈ ys, y < 256
theorem Mine.bytes {w : World} {base g n c : Nat} {ys : List Nat} (h : Mine w base g n c ys) : BytesIn w (.slice (some ⟨g, 0, none⟩) n c) ys := by
  have hl := h.len
  subst hl
  rcases h.own.2 with ⟨h1, _⟩ | ⟨g', cap, cur, h1, _, hh, hnc, _, _, htk⟩
  · cases h1
  · injection h1 with e1 e2 e3
    injection e1 with e1
    injection e1 with e1
    subst e1
    subst e3
    refine ⟨_, c, rfl, hnc, .inr ⟨g, 0, rfl, fun j hj => ?_⟩⟩
    rw [cell_of_row w g (0 + j) cur _ _ hh, Nat.zero_add]
    have e := u8s_at hj
    rw [List.getElem?_toArray, ← htk, List.getElem?_take, if_pos (by omega)] at e
    simpa using e
theorem Mine.below {w w1 : World} {base g n c : Nat} {ys : List Nat} (h : Mine w base g n c ys) (hb : Below w.heap.size w w1) : Mine w1 base g n c ys :=
  ⟨h.own.kept (gbelow hb none) (.inr (by simp [Value.ownBlock])), h.len, h.small⟩
theorem Mine.other {w w1 : World} {base g n c b : Nat} {ys : List Nat} (h : Mine w base g n c ys) (hg : w.grownBy w1 (some b)) (hne : g ≠ b) : Mine w1 base g n c ys :=
  ⟨h.own.kept hg (.inr (by simpa [Value.ownBlock] using hne)), h.len, h.small⟩
theorem Mine.set {w : World} {base g n c : Nat} {ys : List Nat} (h : Mine w base g n c ys) (k v : Nat) (hv : v < 256) : Mine (w.setCell ⟨g, k, none⟩ (.int .u8 (v : Int))) base g n c (ys.set k v) := by
  refine ⟨?_, by rw [List.length_set, h.len], fun y hy => ?_⟩
  · have := (h.own.stored k (.int .u8 (v : Int))).1
    have e : (u8s ys).set k (.int .u8 (v : Int)) = u8s (ys.set k v) := by simp [u8s, List.map_set]
    rwa [e] at this
  · rcases List.mem_or_eq_of_mem_set hy with h1 | rfl
    · exact h.small y h1
    · exact hv
theorem Two.other {w0 w w1 : World} {b1 b2 g : Nat} {m1 m2 : List Nat} (h : Two w0 w b1 b2 m1 m2) (hg : w.grownBy w1 (some g)) (h1 : b1 ≠ g) (h2 : b2 ≠ g) (h3 : w0.heap.size ≤ g) : Two w0 w1 b1 b2 m1 m2 :=
  ⟨h.old.grown hg h.old.size (by intro k hk; injection hk with hk; omega), sum_grown h.s1 hg h1, sum_grown h.s2 hg h2, h.ne, h.h1, h.h2⟩

set_option maxRecDepth 100000 in
set_option maxHeartbeats 2000000 in
theorem keeps_main (a0 : Option Addr) (len0 cap0 : Nat) (a1 : Option Addr) (len1 cap1 : Nat) (w : World) (h0 : len0 ≤ 300) (h1 : len1 ≤ 300) (xs ys : List Nat) (hx : xs.length = len0) (hy : ys.length = len1)
    (hx8 : ∀ x ∈ xs, x < 256) (hy8 : ∀ x ∈ ys, x < 256) (hbx : BytesIn w (.slice a0 len0 cap0) xs) (hby : BytesIn w (.slice a1 len1 cap1) ys) (hn0 : a0 = none → len0 = 0 ∧ cap0 = 0) :
    Calls Try.prog 6 #[.slice a0 len0 cap0, .slice a1 len1 cap1] w fun e w' => e = .returned (.bool true) ∧ Below w.heap.size w w' := by
  have hg0 : decide ((300 : Int) < (len0 : Int)) = false := by simp; omega
  have hg1 : decide ((300 : Int) < (len1 : Int)) = false := by simp; omega
  have HX := Lib.hid hx
  have HY := Lib.hid hy
  have HX8 := Lib.hid hx8
  have HY8 := Lib.hid hy8
  have HBX := Lib.hid hbx
  have HBY := Lib.hid hby
  have HN0 := Lib.hid hn0
  clear hx hy hx8 hy8 hbx hby hn0
  go_enter Try.func6, Try.ntmps6
  go_wp2_with fail
  refine (awake_any _).mono ?_
  rintro e w1 ⟨rfl, hb1⟩
  have B1 := Lib.hid hb1
  have N1 := Lib.hid hb1.size
  clear hb1
  have hmine : (w1.alloc (.cells #[] 5)).ownsRow w1.heap.size 5 1 (.slice (some ⟨w1.heap.size, 0, none⟩) 0 0) 0 [] := World.ownsRow_lit w1 #[] 0 (Nat.le_refl _) (Nat.zero_le _) rfl
  have HMI := Lib.hid hmine
  have hold : Below w.heap.size w (w1.alloc (.cells #[] 5)) := B1.out.alloc B1.out.size _
  have HOL := Lib.hid hold
  have HSRC := Lib.hid (bytes_src (bytes_below HBX.out HOL.out))
  clear hmine hold
  go_wp2_with (at_builtin; go_must (refine append_law rfl (.tmp 23) (.tmp 24) rfl w1.heap.size _ 0 [] rfl HMI.out a0 len0 cap0 xs rfl HX.out HN0.out HSRC.out ?_ ?_ ?_))
  · omega
  · simp
  intro v2 w2 hown2 hg2 hv2
  have hgx : ∃ g c, v2 = .slice (some ⟨g, 0, none⟩) len0 c ∧ w1.heap.size ≤ g ∧ g < w2.heap.size := by
    rcases hown2.2 with ⟨h, _⟩ | ⟨g, c, cur, h, hg, hh, _⟩
    · exact (hv2 h).elim
    · exact ⟨g, c, h, hg, lt_of_heap hh⟩
  obtain ⟨g, c, rfl, hgb, hgl⟩ := hgx
  have M2 := Lib.hid (show Mine w2 w1.heap.size g len0 c xs from ⟨hown2, HX.out, HX8.out⟩)
  have B2 := Lib.hid (show Below w.heap.size w w2 from HOL.out.grown hg2 (by have := B1.out.size; simp; omega) (by intro k hk; simp [Value.ownBlock] at hk; have := N1.out; omega))
  have HGW := Lib.hid (show w.heap.size ≤ g from Nat.le_trans N1.out hgb)
  have HGL := Lib.hid hgl
  clear hown2 hg2 hv2 hgb hgl HMI HOL HSRC B1
  generalize w1.heap.size = base at M2
  go_wp2_with fail
  refine (new_any _).mono ?_
  rintro e w3 ⟨rfl, hs3, hb3⟩
  have S3 := Lib.hid hs3
  have B3 := Lib.hid (B2.out.trans (hb3.mono B2.out.size))
  have B23 := Lib.hid hb3
  have M3 := Lib.hid (M2.out.below hb3)
  clear hs3 hb3
  go_wp2_with fail
  refine (new_any _).mono ?_
  rintro e w4 ⟨rfl, hs4, hb4⟩
  have T4 := Lib.hid (show Two w w4 w2.heap.size w3.heap.size [] [] from ⟨B3.out.trans (hb4.mono B3.out.size), sum_below S3.out hb4, hs4, by have := sum_lt S3.out; omega, B2.out.size, B3.out.size⟩)
  have M4 := Lib.hid (M3.out.below hb4)
  have B24 := Lib.hid (B23.out.trans (hb4.mono B23.out.size))
  have HG1 := Lib.hid (show g ≠ w2.heap.size by have := HGL.out; omega)
  have HG2 := Lib.hid (show g ≠ w3.heap.size by have := HGL.out; have := B23.out.size; omega)
  have HB1 := Lib.hid (Nat.le_refl w2.heap.size)
  clear hs4 hb4 S3 B3 B23 M3 B2
  have PL := Lib.hid (show PartsAt (w4.alloc (.cells [Value.slice (some ⟨g, 0, none⟩) len0 c].toArray 22)) w2.heap.size (.slice (some ⟨w4.heap.size, 0, none⟩) 1 1) [xs] from
    parts_laid B24.out [.slice (some ⟨g, 0, none⟩) len0 c] [xs] rfl (fun | 0, _ => M2.out.bytes) (Nat.le_refl _) (sum_lt T4.out.s1) 1 rfl)
  clear M2 B24 HB1
  generalize w2.heap.size = b1 at T4 HG1 PL
  generalize w3.heap.size = b2 at T4 HG2
  go_wp2_with fail
  have T5 := Lib.hid (T4.out.alloc (.cells #[.slice (some ⟨g, 0, none⟩) len0 c] 22))
  refine (add_any b1 [] [xs] _ _ T5.out.s1 PL.out (by simpa using HX8.out) (by have := HX.out; simp; omega) (by simp)).mono ?_
  rintro e w6 ⟨rfl, hs6, hg6⟩
  rw [show [] ++ [xs].flatten = xs by simp] at hs6
  have T6 := Lib.hid (T5.out.add1 hs6 hg6)
  have M6 := Lib.hid ((M4.out.below ((Below.refl _ _).alloc (Nat.le_refl _) _)).other hg6 HG1.out)
  clear hs6 hg6 T4 T5 M4 PL
  go_wp2_with fail
  have T7 := Lib.hid (T6.out.alloc (.cells #[.slice a0 len0 cap0, .slice a1 len1 cap1] 22))
  refine (add_any b2 [] [xs, ys] _ _ T7.out.s2 (parts_laid T6.out.old [.slice a0 len0 cap0, .slice a1 len1 cap1] [xs, ys] rfl (fun | 0, _ => HBX.out | 1, _ => HBY.out) T6.out.h2 (sum_lt T6.out.s2) _ rfl) (by simpa using ⟨HX8.out, HY8.out⟩) (by have := HX.out; have := HY.out; simp; omega) (by simp)).mono ?_
  rintro e w8 ⟨rfl, hs8, hg8⟩
  rw [show [] ++ [xs, ys].flatten = xs ++ ys by simp] at hs8
  have T8 := Lib.hid (T7.out.add2 hs8 hg8)
  have M8 := Lib.hid ((M6.out.below ((Below.refl _ _).alloc (Nat.le_refl _) _)).other hg8 HG2.out)
  clear hs8 hg8 T6 T7 M6
  go_wp2_with fail
  refine (same_any _ _ xs _ M8.out.bytes (bytes_below HBX.out T8.out.old) HX8.out (by have := HX.out; omega)).mono ?_
  rintro e w9 ⟨rfl, n9, rfl⟩
  have hb9 : Below w8.heap.size w8 (w8.drewN n9) := belowg (gdrewN w8 n9 none)
  have T9 := Lib.hid (T8.out.below hb9)
  have M9 := Lib.hid (M8.out.below hb9)
  clear hb9 T8 M8
  generalize w8.drewN n9 = w9 at T9 M9
  go_wp2_with fail
  go_loopw [9] (fun i wr => ∃ (k : Nat) (zs : List Nat), k ≤ len0 ∧ i = .int .i64 k ∧ Two w wr b1 b2 xs (xs ++ ys) ∧ Mine wr base g len0 c zs) (fun i _ => len0 - (intOf i).toNat)
  case atStart => exact ⟨0, xs, Nat.zero_le _, rfl, T9.out, M9.out⟩
  case round =>
    obtain ⟨k, zs, hk, rfl, hT, hM⟩ := hrel
    by_cases hlt : k < len0
    · have hzl : k < zs.length := by rw [hM.len]; exact hlt
      have c0 : wr.cell? ⟨g, k, none⟩ = some (.int .u8 ((zs.getD k 0 : Nat) : Int)) := by
        rw [hM.own.cellAt k (by omega)]
        have e := u8s_at hzl
        rwa [List.getElem?_toArray] at e
      have f0 : wr.frozen? ⟨g, k, none⟩ = false := hM.own.frozenAt k
      have hz := getD_lt hM.small (by decide) k
      have HT := Lib.hid hT
      have HM := Lib.hid hM
      generalize zs.getD k 0 = z at c0 hz
      have hi0 : (0 : Int) ≤ (k : Int) := by omega
      have hi1 : (k : Int) < (len0 : Int) := by omega
      have HV := Lib.hid (show bits .xor .u8 (z : Int) 255 = ((z ^^^ 255 : Nat) : Int) from u8_xor_nat z 255 hz (by decide))
      have HZ := Lib.hid (show z ^^^ 255 < 256 from Nat.xor_lt_two_pow (n := 8) hz (by decide))
      clear hT hM hzl
      go_wp2_with fail
      go_roundw
      case rel =>
        rw [HV.out]
        exact ⟨k + 1, _, by omega, by go_num, HT.out.other (gsetCell _ g k _) (Ne.symm HG1.out) (Ne.symm HG2.out) HGW.out, HM.out.set k _ HZ.out⟩
      case measure => simp [intOf]; omega
    · have hge : len0 ≤ k := by omega
      have HT := Lib.hid hT
      have HE := Lib.hid (fun w => eql_refl (digest (xs ++ ys)) (digest_length _) w)
      have HL := Lib.hid (show (xs ++ ys).length < 1000 by have := HX.out; have := HY.out; simp; omega)
      clear hT hM hlt
      go_wp2_with fail
      have T11 := Lib.hid (HT.out.alloc (.cells #[.slice a1 len1 cap1] 22))
      refine (add_any b1 xs [ys] _ _ T11.out.s1 (parts_laid HT.out.old [.slice a1 len1 cap1] [ys] rfl (fun | 0, _ => HBY.out) HT.out.h1 (sum_lt HT.out.s1) _ rfl) (by simpa using HY8.out) (by have := HX.out; have := HY.out; simp; omega) (by simp)).mono ?_
      rintro e w12 ⟨rfl, hs12, hg12⟩
      rw [show xs ++ [ys].flatten = xs ++ ys by simp] at hs12
      have T12 := Lib.hid (T11.out.add1 hs12 hg12)
      generalize xs ++ ys = m at T12 HE HL
      clear hs12 hg12 T11
      go_wp2_with fail
      refine (end_any b1 m _ T12.out.s1 (by have := HL.out; omega)).mono ?_
      rintro e w13 ⟨rfl, hb13⟩
      have T13 := Lib.hid (T12.out.below hb13)
      clear hb13 T12
      go_wp2_with fail
      refine (end_any b2 m _ T13.out.s2 (by have := HL.out; omega)).mono ?_
      rintro e w14 ⟨rfl, hb14⟩
      have T14 := Lib.hid (T13.out.below hb14)
      clear hb14 T13
      have heq := HE.out
      go_wp2_with fail
      go_ret
      exact ⟨rfl, T14.out.old⟩
theorem keeps_walk (a0 : Option Addr) (len0 cap0 : Nat) (z0 : List Int) (a1 : Option Addr) (len1 cap1 : Nat) (z1 : List Int) (w : World) (w0 : IsRow .u8 w a0 len0 cap0 z0) (w1 : IsRow .u8 w a1 len1 cap1 z1) :
    Calls Try.prog 6 #[.slice a0 len0 cap0, .slice a1 len1 cap1] w fun e w' => e = .returned (.bool true) ∧ Below w.heap.size w w' := by
  rcases Nat.lt_or_ge 300 len0 with h0 | h0
  · exact keeps_long0 a0 len0 cap0 a1 len1 cap1 w (isRow_le w0) h0
  · rcases Nat.lt_or_ge 300 len1 with h1 | h1
    · exact keeps_long1 a0 len0 cap0 a1 len1 cap1 w (isRow_le w1) h0 h1
    · obtain ⟨xs, hx, hx8, hbx⟩ := isRow_bytes w0
      obtain ⟨ys, hy, hy8, hby⟩ := isRow_bytes w1
      refine keeps_main a0 len0 cap0 a1 len1 cap1 w h0 h1 xs ys hx hy hx8 hy8 hbx hby ?_
      rcases w0 with ⟨_, h1, h2, _⟩ | ⟨x, hx, _⟩
      · exact fun _ => ⟨h1, h2⟩
      · intro h; rw [h] at hx; cases hx
end Sha
end Go.Proofs.Ytmfecicapaiaeaa
