/- The walk of HashEdges. -/
import Derived.Test.YtmfecicapaiaeaaRefOf
import Derived.Test.YtmfecicapaiaeaaCut
import Derived.Test.YtmfecicapaiaeaaShaEq
namespace Go.Proofs.Ytmfecicapaiaeaa
open Go.RowKit
namespace Sha
/-- An operation that is asked for goes as one that is not guarded. -/
theorem wpList_met {P : Program} {ops : Array Oper} {Q : Exit → Act → World → Prop} {a : Act} {w : World} {rest : List Oper} {o : Oper}
    (hw : Region.wanted o (yielded ops a.tmps) = true) (h : wpList P ops Q ({ o with guard := none } :: rest) a w) : wpList P ops Q (o :: rest) a w := by
  unfold wpList at h ⊢
  rw [if_pos hw]
  rw [if_pos (by rfl)] at h
  exact h
theorem u8_rep (c k : Nat) : u8s (List.replicate k c) ++ u8s [c] = u8s (List.replicate (k + 1) c) := by
  rw [List.replicate_succ']; simp [u8s]
theorem own_nil {w : World} {base e n : Nat} {v : Value} {xs : List Value} (h : w.ownsRow base e 1 v n xs) : ∀ a m c, v = .slice a m c → a = none → m = 0 ∧ c = 0 := by
  intro a m c hv ha
  rcases h.2 with ⟨h1, _⟩ | ⟨g, cap, cur, h1, _⟩
  · rw [hv] at h1; injection h1 with _ h2 h3; exact ⟨h2, h3⟩
  · rw [hv] at h1; injection h1 with h1; rw [ha] at h1; cases h1
theorem own_bytes_n {w : World} {base n : Nat} {v : Value} {m : List Nat} (h : w.ownsRow base 5 1 v n (u8s m)) (hl : m.length = n) : BytesIn w v m := by subst hl; exact own_bytes h
set_option maxRecDepth 100000 in
set_option maxHeartbeats 4000000 in
theorem edges_main (n c : Nat) (w : World) (hn : n < 256) (hc : c < 256) :
    Calls Try.prog 5 #[.int .u8 (n : Int), .int .u8 (c : Int)] w fun e w' => e = .returned (.bool true) ∧ Below w.heap.size w w' := by
  go_enter Try.func5, Try.ntmps5
  go_wp2_with fail
  refine (awake_any _).mono ?_
  rintro e w1 ⟨rfl, hb1⟩
  have B1 := Lib.hid hb1
  clear hb1
  go_wp2_with fail
  go_loopw [5, 6] (fun v i wr => ∃ (k : Nat) (ad : Option Addr) (cp : Nat), k ≤ n ∧ i = .int .i64 k ∧ v = .slice ad k cp ∧ wr.ownsRow w.heap.size 5 1 (.slice ad k cp) k (u8s (List.replicate k c)) ∧ Below w.heap.size w wr) (fun _ i _ => n - (intOf i).toNat)
  case atStart => exact ⟨0, none, 0, Nat.zero_le _, rfl, rfl, World.ownsRow_nil _ _ _ _, B1.out⟩
  case round =>
    obtain ⟨k, ad, cp, hk, rfl, rfl, ho, hb⟩ := hrel
    have HO := Lib.hid ho
    have HB := Lib.hid hb
    clear ho hb
    by_cases hlt : k < n
    · go_wp2_with (at_builtin; go_must (refine append_law rfl (.tmp 15) (.tmp 17) rfl w.heap.size _ k _ rfl (HO.out.alloc _) (some ⟨wr.heap.size, 0, none⟩) 1 1 [c] rfl rfl (fun h => by cases h) (bytes_one wr c) ?_ ?_ ?_))
      · omega
      · have := HB.out.size; simp; omega
      intro v2 w2 hown2 hg2 hv2
      obtain ⟨va, vc, rfl⟩ := own_form' hown2
      rw [u8_rep] at hown2
      have O2 := Lib.hid hown2
      have B2 := Lib.hid (show Below w.heap.size w w2 from (HB.out.alloc HB.out.size _).grown hg2 (by have := HB.out.size; simp; omega) (own_ge HO.out))
      clear hown2 hg2 hv2
      go_wp2_with fail
      go_roundw
      case rel => exact ⟨k + 1, va, vc, by omega, by go_num, rfl, O2.out, B2.out⟩
      case measure => simp [intOf]; omega
    · have e : k = n := by omega
      subst e
      clear hlt
      have HXL := Lib.hid (show (List.replicate k c).length = k by simp)
      have HX8 := Lib.hid (show ∀ x ∈ List.replicate k c, x < 256 by intro x hx; simp at hx; omega)
      generalize List.replicate k c = xs at HO HXL HX8
      have HBX := Lib.hid (show BytesIn wr (.slice ad k cp) xs by
        have := HO.out
        have hl := HXL.out
        subst hl
        exact own_bytes this)
      have HN0 := Lib.hid (show ad = none → k = 0 ∧ cp = 0 from fun h => own_nil HO.out ad k cp rfl h)
      have HE := Lib.hid (fun w => eql_refl (digest xs) (digest_length _) w)
      have HE0 := Lib.hid (fun w => eql_refl (digest (xs ++ [0])) (digest_length _) w)
      have HX8' := Lib.hid (show ∀ x ∈ xs ++ [0], x < 256 by intro x hx; rcases List.mem_append.1 hx with h | h; exact HX8.out x h; simp at h; omega)
      clear HO B1
      go_wp2_with fail
      refine (of_any [xs] _ _ (one_part HBX.out) (by simpa using HX8.out) (by have := HXL.out; simp; omega) (by simp)).mono ?_
      rintro e w3 ⟨rfl, hb3⟩
      rw [show [xs].flatten = xs by simp]
      have B3 := Lib.hid (show Below wr.heap.size wr w3 from ((Below.refl _ _).alloc (Nat.le_refl _) (.cells #[.slice ad k cp] 22)).trans (hb3.mono (by simp)))
      clear hb3
      go_wp2_with fail
      refine (rof_any ad k cp xs _ HXL.out HX8.out (by omega) (bytes_below HBX.out B3.out) HN0.out).mono ?_
      rintro e w4 ⟨rfl, hb4⟩
      have B4 := Lib.hid (show Below wr.heap.size wr w4 from B3.out.trans (hb4.mono B3.out.size))
      clear hb4 B3
      have heq := HE.out
      dsimp only
      rename_i hK
      refine hK _ _ ?_
      clear hK
      refine wpList_plain rfl (fun K hK => ?_)
      go_simp
      refine hK _ _ ?_
      clear hK K
      refine wpList_plain rfl (fun K hK => ?_)
      go_simp
      refine hK _ _ ?_
      clear hK K
      refine wpList_met (by rfl) ?_
      dsimp only
      refine wpList_plain rfl (fun K hK => ?_)
      go_simp
      refine hK _ _ ?_
      clear hK K
      refine wpList_met (by rfl) ?_
      dsimp only
      refine wpList_plain rfl (fun K hK => ?_)
      go_simp
      refine hK _ _ ?_
      clear hK K
      refine wpList_met (by rfl) ?_
      dsimp only
      have HMI5 := Lib.hid (World.ownsRow_lit (e := 5) (base := wr.heap.size) (size := 1) w4 #[] 0 (B4.out.size) (Nat.zero_le _) rfl)
      have L5 := Lib.hid (B4.out.alloc B4.out.size (.cells #[] 5))
      refine append_law rfl (.tmp 26) (.tmp 27) rfl wr.heap.size _ 0 [] rfl HMI5.out ad k cp xs rfl HXL.out HN0.out (bytes_src (bytes_below HBX.out L5.out)) (by omega) (by have := B4.out.size; simp; omega) ?_
      intro v5a w5a hown5a hg5a hv5a
      rw [Nat.zero_add, List.nil_append] at hown5a
      obtain ⟨a5a, c5a, rfl⟩ := own_form' hown5a
      have O5a := Lib.hid hown5a
      have B5a := Lib.hid (show Below wr.heap.size wr w5a from L5.out.grown hg5a (by have := B4.out.size; simp; omega) (own_ge HMI5.out))
      clear hown5a hg5a hv5a HMI5 L5
      refine wpList_met (by rfl) ?_
      dsimp only
      refine wpList_plain rfl (fun K hK => ?_)
      go_simp
      refine hK _ _ ?_
      clear hK K
      refine wpList_met (by rfl) ?_
      dsimp only
      refine append_law rfl (.tmp 28) (.tmp 29) rfl wr.heap.size _ k (u8s xs) rfl (O5a.out.alloc _) (some ⟨w5a.heap.size, 0, none⟩) 1 1 [0] rfl rfl (fun h => by cases h) (bytes_one w5a 0) (by omega) (by have := B5a.out.size; simp; omega) ?_
      intro v5b w5b hown5b hg5b hv5b
      obtain ⟨a5b, c5b, rfl⟩ := own_form' hown5b
      rw [show u8s xs ++ u8s [0] = u8s (xs ++ [0]) by simp [u8s]] at hown5b
      have O5b := Lib.hid hown5b
      have B5b := Lib.hid (show Below wr.heap.size wr w5b from (B5a.out.alloc B5a.out.size _).grown hg5b (by have := B5a.out.size; simp; omega) (own_ge O5a.out))
      clear hown5b hg5b hv5b O5a B5a
      have HB5 := Lib.hid (show BytesIn w5b (.slice a5b (k + 1) c5b) (xs ++ [0]) from own_bytes_n O5b.out (by have := HXL.out; simp; omega))
      have HN5 := Lib.hid (show a5b = none → k + 1 = 0 ∧ c5b = 0 from fun h => own_nil O5b.out a5b (k + 1) c5b rfl h)
      clear O5b
      refine wpList_met (by rfl) ?_
      dsimp only
      refine wpList_plain rfl (fun K hK => ?_)
      go_simp
      refine hK _ _ ?_
      clear hK K
      refine wpList_met (by rfl) ?_
      dsimp only
      refine wpList_plain rfl (fun K hK => ?_)
      go_simp
      refine (of_any [xs ++ [0]] _ _ (one_part HB5.out) (by simpa using HX8'.out) (by have := HXL.out; simp; omega) (by simp)).mono ?_
      rintro e w6 ⟨rfl, hb6⟩
      rw [show [xs ++ [0]].flatten = xs ++ [0] by simp]
      have B6 := Lib.hid (show Below wr.heap.size wr w6 from (B5b.out.alloc B5b.out.size (.cells #[.slice a5b (k + 1) c5b] 22)).trans (hb6.mono (by have := B5b.out.size; simp; omega)))
      clear hb6 B5b
      dsimp only
      refine hK _ _ ?_
      clear hK K
      refine wpList_met (by rfl) ?_
      dsimp only
      refine wpList_plain rfl (fun K hK => ?_)
      go_simp
      refine hK _ _ ?_
      clear hK K
      refine wpList_met (by rfl) ?_
      dsimp only
      refine wpList_plain rfl (fun K hK => ?_)
      go_simp
      refine hK _ _ ?_
      clear hK K
      refine wpList_met (by rfl) ?_
      dsimp only
      have HMI7 := Lib.hid (World.ownsRow_lit (e := 5) (base := wr.heap.size) (size := 1) w6 #[] 0 (B6.out.size) (Nat.zero_le _) rfl)
      have L7 := Lib.hid (B6.out.alloc B6.out.size (.cells #[] 5))
      refine append_law rfl (.tmp 33) (.tmp 34) rfl wr.heap.size _ 0 [] rfl HMI7.out ad k cp xs rfl HXL.out HN0.out (bytes_src (bytes_below HBX.out L7.out)) (by omega) (by have := B6.out.size; simp; omega) ?_
      intro v7a w7a hown7a hg7a hv7a
      rw [Nat.zero_add, List.nil_append] at hown7a
      obtain ⟨a7a, c7a, rfl⟩ := own_form' hown7a
      have O7a := Lib.hid hown7a
      have B7a := Lib.hid (show Below wr.heap.size wr w7a from L7.out.grown hg7a (by have := B6.out.size; simp; omega) (own_ge HMI7.out))
      clear hown7a hg7a hv7a HMI7 L7
      refine wpList_met (by rfl) ?_
      dsimp only
      refine wpList_plain rfl (fun K hK => ?_)
      go_simp
      refine hK _ _ ?_
      clear hK K
      refine wpList_met (by rfl) ?_
      dsimp only
      refine append_law rfl (.tmp 35) (.tmp 36) rfl wr.heap.size _ k (u8s xs) rfl (O7a.out.alloc _) (some ⟨w7a.heap.size, 0, none⟩) 1 1 [0] rfl rfl (fun h => by cases h) (bytes_one w7a 0) (by omega) (by have := B7a.out.size; simp; omega) ?_
      intro v7b w7b hown7b hg7b hv7b
      obtain ⟨a7b, c7b, rfl⟩ := own_form' hown7b
      rw [show u8s xs ++ u8s [0] = u8s (xs ++ [0]) by simp [u8s]] at hown7b
      have O7b := Lib.hid hown7b
      have B7b := Lib.hid (show Below wr.heap.size wr w7b from (B7a.out.alloc B7a.out.size _).grown hg7b (by have := B7a.out.size; simp; omega) (own_ge O7a.out))
      clear hown7b hg7b hv7b O7a B7a
      have HB7 := Lib.hid (show BytesIn w7b (.slice a7b (k + 1) c7b) (xs ++ [0]) from own_bytes_n O7b.out (by have := HXL.out; simp; omega))
      have HN7 := Lib.hid (show a7b = none → k + 1 = 0 ∧ c7b = 0 from fun h => own_nil O7b.out a7b (k + 1) c7b rfl h)
      clear O7b
      refine wpList_met (by rfl) ?_
      dsimp only
      refine wpList_plain rfl (fun K hK => ?_)
      go_simp
      refine (rof_any a7b (k + 1) c7b (xs ++ [0]) _ (by have := HXL.out; simp; omega) HX8'.out (by omega) HB7.out HN7.out).mono ?_
      rintro e w8 ⟨rfl, hb8⟩
      have B8 := Lib.hid (show Below wr.heap.size wr w8 from B7b.out.trans (hb8.mono B7b.out.size))
      clear hb8 B7b
      have heq0 := HE0.out
      dsimp only
      refine hK _ _ ?_
      clear hK K
      refine wpList_met (by rfl) ?_
      dsimp only
      go_wp2_with fail
      go_ret
      exact ⟨rfl, HB.out.trans (B8.out.mono HB.out.size)⟩
theorem edges_walk (n c : Int) (w : World) (w0 : (Lit.int .u8 n).wf = true) (w1 : (Lit.int .u8 c).wf = true) :
    Calls Try.prog 5 #[.int .u8 n, .int .u8 c] w fun e w' => e = .returned (.bool true) ∧ Below w.heap.size w w' := by
  have h0 := bounds_u8 w0
  have h1 := bounds_u8 w1
  obtain ⟨n, rfl⟩ := Int.eq_ofNat_of_zero_le h0.1
  obtain ⟨c, rfl⟩ := Int.eq_ofNat_of_zero_le h1.1
  exact edges_main n c w (by omega) (by omega)
end Sha
end Go.Proofs.Ytmfecicapaiaeaa
