/- The walk of HashParts. -/
import Derived.Test.YtmfecicapaiaeaaShaLaw
import Derived.Laws.AppendOwnNone
import Derived.Deep.Matrix
namespace Go.Proofs.Ytmfecicapaiaeaa
open Go.RowKit
namespace Sha
/-- The list of parts that came in. -/
structure ArgParts (w : World) (g off : Nat) (ps : List (List Nat)) (A : Nat → Option Addr) (C : Nat → Nat) : Prop where
  cell : ∀ r, r < ps.length → w.cell? ⟨g, off + r, none⟩ = some (.slice (A r) (ps.getD r []).length (C r))
  cap : ∀ r, r < ps.length → (ps.getD r []).length ≤ C r
  big : ∀ r, r < ps.length → (ps.getD r []).length ≤ maxLen
  nilA : ∀ r, r < ps.length → A r = none → ps.getD r [] = [] ∧ C r = 0
  cellA : ∀ r, r < ps.length → ∀ ad, A r = some ad → ∀ c, c < (ps.getD r []).length → w.cell? (ad.add c) = some (.int .u8 (((ps.getD r []).getD c 0 : Nat) : Int))
  small : ∀ p ∈ ps, ∀ x ∈ p, x < 256
theorem ArgParts.bytes {w : World} {g off : Nat} {ps : List (List Nat)} {A : Nat → Option Addr} {C : Nat → Nat} (h : ArgParts w g off ps A C) (r : Nat) (hr : r < ps.length) : BytesIn w (.slice (A r) (ps.getD r []).length (C r)) (ps.getD r []) := by
  refine ⟨A r, C r, rfl, h.cap r hr, ?_⟩
  by_cases h0 : (ps.getD r []).length = 0
  · exact .inl (List.eq_nil_of_length_eq_zero h0)
  · cases hA : A r with
    | none => rw [(h.nilA r hr hA).1] at h0; simp at h0
    | some ad =>
      have hs := h.cellA r hr ad hA
      have hx : ad = ⟨ad.block, ad.off, none⟩ := by
        have := hs 0 (by omega)
        rw [show ad.add 0 = ad from rfl] at this
        exact spot_of_cell this
      refine .inr ⟨ad.block, ad.off, by rw [← hx], fun j hj => ?_⟩
      have := hs j hj
      rw [hx, Addr.add_mid] at this
      exact this
theorem ArgParts.parts {w : World} {g off : Nat} {ps : List (List Nat)} {A : Nat → Option Addr} {C : Nat → Nat} (h : ArgParts w g off ps A C) (c : Nat) : PartsIn w (.slice (some ⟨g, off, none⟩) ps.length c) ps :=
  ⟨_, c, rfl, .inr ⟨g, off, rfl, fun j hj => ⟨_, h.cell j hj, h.bytes j hj⟩⟩⟩
theorem own_bytes {w : World} {base : Nat} {v : Value} {m : List Nat} (h : w.ownsRow base 5 1 v m.length (u8s m)) : BytesIn w v m := by
  rcases h.2 with ⟨rfl, h0⟩ | ⟨g, cap, cur, rfl, _, hh, hnc, _, _, htk⟩
  · exact ⟨none, 0, by rw [h0], by omega, .inl (List.eq_nil_of_length_eq_zero h0)⟩
  · refine ⟨_, cap, rfl, hnc, .inr ⟨g, 0, rfl, fun j hj => ?_⟩⟩
    rw [cell_of_row w g (0 + j) cur _ _ hh, Nat.zero_add]
    have e := u8s_at hj
    rw [List.getElem?_toArray, ← htk, List.getElem?_take, if_pos (by omega)] at e
    simpa using e

theorem own_ne {w : World} {base b e size n : Nat} {v : Value} {xs : List Value} (h : w.ownsRow base e size v n xs) (hb : b < base) : v.ownBlock ≠ some b := by
  rcases h.2 with ⟨rfl, _⟩ | ⟨g, cap, cur, rfl, hg, _⟩
  · simp [Value.ownBlock]
  · simp [Value.ownBlock]; omega
theorem own_form {w : World} {base e size n : Nat} {v : Value} {xs : List Value} (h : w.ownsRow base e size v n xs) : ∃ ad l c, v = .slice ad l c := by
  rcases h.2 with ⟨rfl, _⟩ | ⟨g, cap, cur, rfl, _⟩
  · exact ⟨_, _, _, rfl⟩
  · exact ⟨_, _, _, rfl⟩
theorem own_ge {w : World} {base e size n : Nat} {v : Value} {xs : List Value} (h : w.ownsRow base e size v n xs) : ∀ k, v.ownBlock = some k → base ≤ k := by
  intro k hk
  rcases h.2 with ⟨rfl, _⟩ | ⟨g, cap, cur, rfl, hg, _⟩
  · simp [Value.ownBlock] at hk
  · simp [Value.ownBlock] at hk; omega
theorem own_below {w w1 : World} {base e size n : Nat} {v : Value} {xs : List Value} (h : w.ownsRow base e size v n xs) (hb : Below w.heap.size w w1) : w1.ownsRow base e size v n xs :=
  h.kept (gbelow hb none) (by cases hv : v.ownBlock <;> simp)
theorem sum_append {w w1 : World} {b : Nat} {m : List Nat} {v : Value} (h : SumAt w b m) (hg : w.grownBy w1 v.ownBlock) (hne : v.ownBlock ≠ some b) : SumAt w1 b m := by
  obtain ⟨blk, hr, hi⟩ := h
  exact ⟨blk, (hg.block _ (lt_of_heap hr) (Ne.symm hne)).trans hr, hi⟩

set_option maxRecDepth 100000 in
set_option maxHeartbeats 2000000 in
theorem parts_main (g off cap : Nat) (ps : List (List Nat)) (A : Nat → Option Addr) (C : Nat → Nat) (w : World) (h0 : ps.length ≤ 30) (hp : ArgParts w g off ps A C) :
    Calls Try.prog 4 #[.slice (some ⟨g, off, none⟩) ps.length cap] w fun e w' => e = .returned (.bool true) ∧ Below w.heap.size w w' := by
  have hg0 : decide ((30 : Int) < (ps.length : Int)) = false := by simp; omega
  have HP := Lib.hid hp
  clear hp
  go_enter Try.func4, Try.ntmps4
  go_wp2_with fail
  refine (awake_any _).mono ?_
  rintro e w1 ⟨rfl, hb1⟩
  have B1 := Lib.hid hb1
  have N1 := Lib.hid hb1.size
  clear hb1
  go_wp2_with fail
  refine (new_any _).mono ?_
  rintro e w2 ⟨rfl, hs2, hb2⟩
  have S2 := Lib.hid hs2
  have B2 := Lib.hid (B1.out.trans (hb2.mono B1.out.size))
  have L2 := Lib.hid (sum_lt hs2)
  clear hs2 hb2
  generalize w1.heap.size = b at S2 N1 L2
  go_wp2_with fail
  go_loopw [4, 5] (fun v i wr => ∃ k : Nat, k ≤ ps.length ∧ i = .int .i64 k ∧ wr.ownsRow (b + 1) 5 1 v ((ps.take k).flatten).length (u8s (ps.take k).flatten) ∧ SumAt wr b (ps.take k).flatten ∧ Below w.heap.size w wr ∧ ((ps.take k).flatten).length ≤ 200 * k) (fun _ i _ => ps.length - (intOf i).toNat)
  case atStart => exact ⟨0, Nat.zero_le _, rfl, by simpa [u8s] using World.ownsRow_nil _ _ _ _, by simpa using S2.out, B2.out, by simp⟩
  case round =>
    obtain ⟨k, hk, rfl, ho, hs, hb, hle⟩ := hrel
    obtain ⟨va, vl, vc, rfl⟩ := own_form ho
    by_cases hlt : k < ps.length
    · have hcell := (hb.cell (p := ⟨g, off + k, none⟩) (block_lt_of_cell (HP.out.cell k hlt))).trans (HP.out.cell k hlt)
      have HLG := Lib.hid (show g < w.heap.size from block_lt_of_cell (HP.out.cell k hlt))
      have HC0 := Lib.hid (HP.out.cell k hlt)
      have HO := Lib.hid ho
      have HS := Lib.hid hs
      have HB := Lib.hid hb
      have HLE := Lib.hid hle
      have HLT := Lib.hid (take_flat_le ps (k + 1))
      have HT := Lib.hid (take_flat ps k hlt)
      have hmem : ps.getD k [] ∈ ps := by rw [List.getD_eq_getElem?_getD, List.getElem?_eq_getElem hlt]; exact List.getElem_mem hlt
      have HX8 := Lib.hid (HP.out.small _ hmem)
      have HBY := Lib.hid (HP.out.bytes k hlt)
      have HSM := Lib.hid (HP.out.cellA k hlt)
      have HNN := Lib.hid (HP.out.nilA k hlt)
      have hbig := HP.out.big k hlt
      generalize ps.getD k [] = p at HX8 HBY HSM HNN HT hcell hbig HC0
      generalize (ps.take k).flatten = m at HO HS HLE HT
      generalize A k = Ak at HBY HSM HNN hcell HC0
      generalize C k = Ck at HBY HSM HNN hcell HC0
      clear ho hs hb hle hmem
      have hi0 : (0 : Int) ≤ (k : Int) := by omega
      have hi1 : (k : Int) < (ps.length : Int) := by omega
      unfold maxLen at hbig
      by_cases hlong : 200 < p.length
      · go_wp2_with fail
        go_ret
        exact ⟨rfl, HB.out⟩
      · go_wp2_with fail
        have hp200 : p.length ≤ 200 := by omega
        refine (add_any b m [p] _ _ (sum_below HS.out ((Below.refl _ _).alloc (Nat.le_refl _) _)) (parts_laid HB.out [.slice Ak p.length Ck] [p] rfl (fun | 0, _ => HBY.out) N1.out (sum_lt HS.out) _ rfl) (by simpa using HX8.out) (by have := HLE.out; simp; omega) (by simp)).mono ?_
        rintro e w5 ⟨rfl, hs5, hg5⟩
        rw [show m ++ [p].flatten = m ++ p by simp] at hs5
        have ho5 := (HO.out.alloc (.cells #[.slice Ak p.length Ck] 22)).kept hg5 (.inr (own_ne HO.out (Nat.lt_succ_self b)))
        have hb5 : Below w.heap.size w w5 := (HB.out.alloc HB.out.size (.cells #[.slice Ak p.length Ck] 22)).grown hg5 (by have := HB.out.size; simp; omega) (by intro k hk; injection hk with hk; rw [← hk]; exact N1.out)
        have hcell5 := (hb5.cell (p := ⟨g, off + k, none⟩) (HLG.out)).trans HC0.out
        have S5 := Lib.hid hs5
        have B5 := Lib.hid hb5
        have O5 := Lib.hid ho5
        have HBB := Lib.hid (show b + 1 ≤ w5.heap.size from sum_lt hs5)
        have HC4 := Lib.hid (show m.length + p.length < 10000 by have := HLE.out; omega)
        have hsrc : ∀ ad, Ak = some ad → ∀ j u, (u8s p)[j]? = some u → w5.cell? (ad.add j) = some u := by
          intro ad hA j u hj
          have hjl : j < p.length := by
            rcases Nat.lt_or_ge j p.length with h' | h'
            · exact h'
            · rw [List.getElem?_eq_none (by rw [u8s_length]; exact h')] at hj; cases hj
          have h1 := HSM.out ad hA j hjl
          have h2 := (hb5.cell (p := ad.add j) (block_lt_of_cell h1)).trans h1
          rw [h2]
          have e := u8s_at hjl
          rw [List.getElem?_toArray] at e
          rw [← hj, e]
        have HSRC := Lib.hid hsrc
        clear hs5 hg5 ho5 hb5 hsrc hcell hi0 hi1
        have hi0 : (0 : Int) ≤ (k : Int) := by omega
        have hi1 : (k : Int) < (ps.length : Int) := by omega
        obtain ⟨i0, hi, hz0, hz1, hz2⟩ := info_parts info5
        have HI := Lib.hid hi
        have HZ0 := Lib.hid hz0
        have HZ1 := Lib.hid hz1
        have HZ2 := Lib.hid hz2
        clear hi hz0 hz1 hz2
        have fin : ∀ (v6 : Value) (w6 : World), w6.ownsRow (b + 1) 5 1 v6 (m.length + p.length) (u8s m ++ u8s p) → w5.grownBy w6 (Value.slice va vl vc).ownBlock → w6.ownsRow (b + 1) 5 1 v6 (m ++ p).length (u8s (m ++ p)) ∧ SumAt w6 b (m ++ p) ∧ Below w.heap.size w w6 := by
          intro v6 w6 h6 g6
          refine ⟨?_, sum_append S5.out g6 (own_ne O5.out (Nat.lt_succ_self b)), B5.out.grown g6 B5.out.size (fun k hk => by have := own_ge O5.out k hk; have := N1.out; omega)⟩
          rw [List.length_append, show u8s (m ++ p) = u8s m ++ u8s p by simp [u8s]]; exact h6
        have FIN := Lib.hid fin
        have HCELL := Lib.hid hcell5
        clear fin hcell5
        have hnext : ∃ M, M = m ++ p := ⟨_, rfl⟩
        obtain ⟨M, hM⟩ := hnext
        have HM := Lib.hid hM
        have HML := Lib.hid (show M.length < 10000 by rw [hM, List.length_append]; exact HC4.out)
        rw [← hM] at FIN
        have HE := Lib.hid (fun w => eql_refl (digest M) (digest_length _) w)
        have HX9 := Lib.hid (show ∀ q ∈ [M], ∀ x ∈ q, x < 256 by
          intro q hq x hx
          simp only [List.mem_singleton] at hq
          rw [hq, hM, ← HT.out] at hx
          obtain ⟨q2, hq2, hx2⟩ := List.mem_flatten.1 hx
          exact HP.out.small q2 (List.mem_of_mem_take hq2) x hx2)
        have HF := Lib.hid (show [M].flatten = M by simp)
        clear hM
        cases Ak with
        | none =>
          obtain ⟨hp0, hc0⟩ := HNN.out rfl
          subst hp0
          subst hc0
          have hcell5 := HCELL.out
          go_wp2_with (at_builtin; refine wpList_append_own_none rfl (.tmp 36) (.tmp 40) 22 rfl (b + 1) 5 i0 1 Try.underlying22 HI.out _ _ _ rfl O5.out rfl ?_)
          have h6 := FIN.out (.slice va vl vc) w5 (by simpa [u8s] using O5.out) (grefl _ _)
          have F6 := Lib.hid h6
          have HGW := Lib.hid (show w5.heap.size ≤ w5.heap.size from Nat.le_refl _)
          clear h6 hcell5
          refine (end_any b M _ F6.out.2.1 (by have := HML.out; omega)).mono ?_
          rintro e w7 ⟨rfl, hb7⟩
          have O7 := Lib.hid (own_below F6.out.1 hb7)
          have S7 := Lib.hid (sum_below F6.out.2.1 hb7)
          have B7 := Lib.hid (F6.out.2.2.trans (hb7.mono F6.out.2.2.size))
          clear hb7
          go_wp2_with fail
          refine (of_any [M] _ _ (parts_laid_in (Below.refl _ _) [.slice va vl vc] [M] rfl (fun | 0, _ => own_bytes O7.out) _ rfl) HX9.out (by rw [HF.out]; have := HML.out; omega) (by simp)).mono ?_
          rintro e w8 ⟨rfl, hb8⟩
          have hb8' : Below w7.heap.size w7 w8 := ((Below.refl _ _).alloc (Nat.le_refl _) _).trans (hb8.mono (by simp))
          have O8 := Lib.hid (own_below O7.out hb8')
          have S8 := Lib.hid (sum_below S7.out hb8')
          have B8 := Lib.hid (B7.out.trans (hb8'.mono B7.out.size))
          clear hb8 hb8'
          have heq := HE.out
          rw [HF.out]
          go_wp2_with fail
          go_roundw
          case rel =>
            refine ⟨k + 1, by omega, by go_num, ?_⟩
            rw [HT.out, ← HM.out]
            exact ⟨O8.out, S8.out, B8.out, by rw [HM.out, List.length_append]; have := HLE.out; omega⟩
          case measure => simp [intOf]; omega
        | some ad =>
          have hcell5 := HCELL.out
          go_wp2_with (at_builtin; go_must (refine wpList_append_own _ rfl (.tmp 36) (.tmp 40) 22 rfl (b + 1) 5 i0 (.int .u8 0) 1 1 Try.underlying22 HI.out HZ0.out HZ1.out HZ2.out rfl (by decide) _ _ _ rfl O5.out ad p.length Ck (u8s p) rfl ?_ (HSRC.out ad rfl) (u8s_one _) ?_ ?_ ?_ ?_))
          · rw [u8s_length, Nat.mul_one]
          · have := HC4.out; unfold maxLen; omega
          · have := HC4.out; omega
          · exact HBB.out
          intro v6 w6 hown6 hg6 _
          obtain ⟨xa, xl, xc, rfl⟩ := own_form hown6
          have F6 := Lib.hid (FIN.out (.slice xa xl xc) w6 hown6 hg6)
          clear hown6 hg6 hcell5
          go_wp2_with fail
          refine (end_any b M _ F6.out.2.1 (by have := HML.out; omega)).mono ?_
          rintro e w7 ⟨rfl, hb7⟩
          have O7 := Lib.hid (own_below F6.out.1 hb7)
          have S7 := Lib.hid (sum_below F6.out.2.1 hb7)
          have B7 := Lib.hid (F6.out.2.2.trans (hb7.mono F6.out.2.2.size))
          clear hb7
          go_wp2_with fail
          refine (of_any [M] _ _ (parts_laid_in (Below.refl _ _) [.slice xa xl xc] [M] rfl (fun | 0, _ => own_bytes O7.out) _ rfl) HX9.out (by rw [HF.out]; have := HML.out; omega) (by simp)).mono ?_
          rintro e w8 ⟨rfl, hb8⟩
          have hb8' : Below w7.heap.size w7 w8 := ((Below.refl _ _).alloc (Nat.le_refl _) _).trans (hb8.mono (by simp))
          have O8 := Lib.hid (own_below O7.out hb8')
          have S8 := Lib.hid (sum_below S7.out hb8')
          have B8 := Lib.hid (B7.out.trans (hb8'.mono B7.out.size))
          clear hb8 hb8'
          have heq := HE.out
          rw [HF.out]
          go_wp2_with fail
          go_roundw
          case rel =>
            refine ⟨k + 1, by omega, by go_num, ?_⟩
            rw [HT.out, ← HM.out]
            exact ⟨O8.out, S8.out, B8.out, by rw [HM.out, List.length_append]; have := HLE.out; omega⟩
          case measure => simp [intOf]; omega
    · have e : ps.take k = ps := List.take_of_length_le (by omega)
      rw [e] at ho hs hle
      have hge : ps.length ≤ k := by omega
      have HS := Lib.hid hs
      have HB := Lib.hid hb
      have HLE := Lib.hid (show ps.flatten.length < 10000 by omega)
      have HE := Lib.hid (fun w => eql_refl (digest ps.flatten) (digest_length _) w)
      have HPI := Lib.hid (HP.out.parts cap)
      have HP8 := Lib.hid HP.out.small
      clear ho hs hb hle e hlt
      go_wp2_with fail
      refine (end_any b ps.flatten _ HS.out (by have := HLE.out; omega)).mono ?_
      rintro e w3 ⟨rfl, hb3⟩
      have S3 := Lib.hid (sum_below HS.out hb3)
      have B3 := Lib.hid (HB.out.trans (hb3.mono HB.out.size))
      clear hb3
      go_wp2_with fail
      refine (of_any ps _ _ (parts_below HPI.out B3.out) HP8.out (by have := HLE.out; omega) (by omega)).mono ?_
      rintro e w4 ⟨rfl, hb4⟩
      have S4 := Lib.hid (sum_below S3.out hb4)
      have B4 := Lib.hid (B3.out.trans (hb4.mono B3.out.size))
      clear hb4
      have heq := HE.out
      go_wp2_with fail
      refine (end_any b ps.flatten _ S4.out (by have := HLE.out; omega)).mono ?_
      rintro e w5 ⟨rfl, hb5⟩
      have S5 := Lib.hid (sum_below S4.out hb5)
      have B5 := Lib.hid (B4.out.trans (hb5.mono B4.out.size))
      clear hb5
      go_wp2_with fail
      refine (end_any b ps.flatten _ S5.out (by have := HLE.out; omega)).mono ?_
      rintro e w6 ⟨rfl, hb6⟩
      have B6 := Lib.hid (B5.out.trans (hb6.mono B5.out.size))
      clear hb6
      go_wp2_with fail
      go_ret
      exact ⟨rfl, B6.out⟩

set_option maxRecDepth 100000 in
set_option maxHeartbeats 1000000 in
theorem parts_nil (ao : Option Addr) (cap : Nat) (w : World) :
    Calls Try.prog 4 #[.slice ao 0 cap] w fun e w' => e = .returned (.bool true) ∧ Below w.heap.size w w' := by
  go_enter Try.func4, Try.ntmps4
  go_wp2_with fail
  refine (awake_any _).mono ?_
  rintro e w1 ⟨rfl, hb1⟩
  have B1 := Lib.hid hb1
  clear hb1
  go_wp2_with fail
  refine (new_any _).mono ?_
  rintro e w2 ⟨rfl, hs2, hb2⟩
  have S2 := Lib.hid hs2
  have B2 := Lib.hid (B1.out.trans (hb2.mono B1.out.size))
  clear hs2 hb2
  generalize w1.heap.size = b at S2
  have HE := Lib.hid (fun w => eql_refl (digest []) (digest_length _) w)
  go_wp2_with fail
  refine wp_loop_rounds 1 ?_
  rw [rounds_succ]
  go_wp2_with fail
  refine (end_any b [] _ S2.out (by decide)).mono ?_
  rintro e w3 ⟨rfl, hb3⟩
  have S3 := Lib.hid (sum_below S2.out hb3)
  have B3 := Lib.hid (B2.out.trans (hb3.mono B2.out.size))
  clear hb3
  go_wp2_with fail
  refine (of_any [] _ _ ⟨ao, cap, rfl, .inl rfl⟩ (by simp) (by decide) (by decide)).mono ?_
  rintro e w4 ⟨rfl, hb4⟩
  have S4 := Lib.hid (sum_below S3.out hb4)
  have B4 := Lib.hid (B3.out.trans (hb4.mono B3.out.size))
  clear hb4
  have heq := HE.out
  rw [show ([] : List (List Nat)).flatten = [] from rfl]
  go_wp2_with fail
  refine (end_any b [] _ S4.out (by decide)).mono ?_
  rintro e w5 ⟨rfl, hb5⟩
  have S5 := Lib.hid (sum_below S4.out hb5)
  have B5 := Lib.hid (B4.out.trans (hb5.mono B4.out.size))
  clear hb5
  go_wp2_with fail
  refine (end_any b [] _ S5.out (by decide)).mono ?_
  rintro e w6 ⟨rfl, hb6⟩
  have B6 := Lib.hid (B5.out.trans (hb6.mono B5.out.size))
  clear hb6
  go_wp2_with fail
  go_ret
  exact ⟨rfl, B6.out⟩
set_option maxRecDepth 100000 in
set_option maxHeartbeats 1000000 in
theorem parts_long (ao : Option Addr) (len cap : Nat) (w : World) (hl : len ≤ maxLen) (h : 30 < len) :
    Calls Try.prog 4 #[.slice ao len cap] w fun e w' => e = .returned (.bool true) ∧ Below w.heap.size w w' := by
  unfold maxLen at hl
  have hg : decide ((30 : Int) < (len : Int)) = true := by simp; omega
  go_enter Try.func4, Try.ntmps4
  go_wp2_with fail
  refine (awake_any _).mono ?_
  rintro e w1 ⟨rfl, hb1⟩
  have B1 := Lib.hid hb1
  clear hb1
  go_wp2_with fail
  refine (awake_any _).mono ?_
  rintro e w2 ⟨rfl, hb2⟩
  have B2 := Lib.hid (B1.out.trans (hb2.mono B1.out.size))
  clear hb2
  go_wp2_with fail
  go_ret
  exact ⟨rfl, B2.out⟩
/-- A slice of slices of bytes that came in. -/
def IsRows (w : World) (a : Option Addr) (len cap : Nat) : Prop :=
  (a = none ∧ len = 0 ∧ cap = 0) ∨ ∃ (x : Addr) (A : Nat → Option Addr) (L C : Nat → Nat) (Z : Nat → List Int), a = some x ∧ len ≤ cap ∧ cap ≤ maxLen ∧
    ∀ r, r < cap → w.cell? (x.add r) = some (.slice (A r) (L r) (C r)) ∧ L r ≤ C r ∧ C r ≤ maxLen ∧ (Z r).length = C r ∧ (∀ n ∈ Z r, (Lit.int .u8 n).wf = true) ∧ (A r = none → C r = 0) ∧
      ∀ a', A r = some a' → ∀ c, c < C r → w.cell? (a'.add c) = some (.int .u8 ((Z r).getD c 0))
theorem parts_walk (a : Option Addr) (len cap : Nat) (w : World) (h : IsRows w a len cap) :
    Calls Try.prog 4 #[.slice a len cap] w fun e w' => e = .returned (.bool true) ∧ Below w.heap.size w w' := by
  rcases h with ⟨rfl, rfl, rfl⟩ | ⟨x, A, L, C, Z, rfl, hlc, hcm, hr⟩
  · exact parts_nil none 0 w
  · rcases Nat.lt_or_ge 30 len with h30 | h30
    · exact parts_long _ len cap w (by omega) h30
    · by_cases h0 : len = 0
      · subst h0; exact parts_nil _ cap w
      · have hx : x = ⟨x.block, x.off, none⟩ := by
          have := (hr 0 (by omega)).1
          rw [show x.add 0 = x from rfl] at this
          exact spot_of_cell this
        obtain ⟨ps, hps⟩ : ∃ ps, ps = (List.range len).map fun r => ((Z r).take (L r)).map Int.toNat := ⟨_, rfl⟩
        have hpl : ps.length = len := by rw [hps]; simp
        have hget : ∀ r, r < len → ps.getD r [] = ((Z r).take (L r)).map Int.toNat := fun r hr => by rw [hps]; simp [List.getD_eq_getElem?_getD, hr]
        have hgl : ∀ r, r < len → (ps.getD r []).length = L r := fun r hrl => by
          have := hr r (by omega)
          rw [hget r hrl]; simp; omega
        have hwb : ∀ r, r < len → ∀ n ∈ Z r, 0 ≤ n ∧ n < 256 := fun r hrl n hn => by
          have := bounds_u8 ((hr r (by omega)).2.2.2.2.1 n hn); omega
        have main := parts_main x.block x.off cap ps A C w (by omega) ⟨?_, ?_, ?_, ?_, ?_, ?_⟩
        · rw [hpl, ← hx] at main; exact main
        · intro r hrl
          rw [hpl] at hrl
          have := (hr r (by omega)).1
          rw [hx, Addr.add_mid] at this
          rw [hgl r hrl]; exact this
        · intro r hrl
          rw [hpl] at hrl
          rw [hgl r hrl]; exact (hr r (by omega)).2.1
        · intro r hrl
          rw [hpl] at hrl
          rw [hgl r hrl]; have := hr r (by omega); omega
        · intro r hrl hA
          rw [hpl] at hrl
          have h1 := hr r (by omega)
          have h2 := h1.2.2.2.2.2.1 hA
          exact ⟨List.eq_nil_of_length_eq_zero (by rw [hgl r hrl]; omega), h2⟩
        · intro r hrl ad hA c hc
          rw [hpl] at hrl
          have h1 := hr r (by omega)
          rw [hgl r hrl] at hc
          rw [h1.2.2.2.2.2.2 ad hA c (by omega), hget r hrl]
          have hcz : c < (Z r).length := by omega
          have hb := hwb r hrl (Z r)[c] (List.getElem_mem hcz)
          simp [List.getD_eq_getElem?_getD, hcz, hc]
          omega
        · intro p hp y hy
          rw [hps] at hp
          obtain ⟨r, hrm, rfl⟩ := List.mem_map.1 hp
          have hrl : r < len := by simpa using hrm
          obtain ⟨n, hn, rfl⟩ := List.mem_map.1 hy
          have := hwb r hrl n (List.mem_of_mem_take hn); omega
end Sha
end Go.Proofs.Ytmfecicapaiaeaa
