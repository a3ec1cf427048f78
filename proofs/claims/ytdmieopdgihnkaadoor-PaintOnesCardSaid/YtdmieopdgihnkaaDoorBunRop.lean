/- OrdRtext, OrdRwrong in one text (by tools/bundle.py). -/
import Derived.Test.YtdmieopdgihnkaaDoorBunOrd
import Derived.Test.YtdmieopdgihnkaaDoorBunRlp
import Derived.Test.YtdmieopdgihnkaaDoorBunBase
/- The document's Chars. -/
namespace Go.Proofs.YtdmieopdgihnkaaDoor
open Go.RowKit Sha Cut Err Six Att
namespace Ord
set_option maxRecDepth 100000 in
set_option maxHeartbeats 1000000 in
theorem rchars_any (ad : Option Addr) (len cap : Nat) (xs : List Nat) (w : World) (hB : BytesIn w (.slice ad len cap) xs) (h8 : ∀ x ∈ xs, x < 256) (hl : xs.length < 1000000) :
    Calls Tryd.prog 26 #[.slice ad len cap] w fun e w' => e = .returned (.bool (xs.all char)) ∧ w = w' := by
  obtain ⟨ad1, c1, hv, _, h1⟩ := hB
  injection hv with e1 e2 e3
  subst e1 e2 e3
  have HC := Lib.hid fun b W hb => rchar_any b W hb
  have HA := Lib.hid h1
  have H8 := Lib.hid fun k => byte_lt h8 (by decide) k
  clear h8 h1
  go_enter Tryd.func26, Tryd.ntmps26
  go_wp2_with fail
  go_loopg [3] (xs.length + 1) (fun n i wr => wr = w ∧ ∃ k : Nat, k ≤ xs.length ∧ n = xs.length + 1 - k ∧ i = .int .i64 k ∧ Hid (∀ i, i < k → char (xs.getD i 0) = true))
  case atStart => exact ⟨rfl, 0, Nat.zero_le _, rfl, rfl, Lib.hid fun i hi => absurd hi (by omega)⟩
  case round =>
    obtain ⟨rfl, k, hk, rfl, rfl, hall⟩ := hrel
    by_cases hlt : k < xs.length
    · obtain ⟨g, o, rfl, c0⟩ : ∃ g o, ad = some ⟨g, o, none⟩ ∧ wr.cell? ⟨g, o + k, none⟩ = some (.int .u8 ((xs.getD k 0 : Nat) : Int)) := by
        rcases HA.out with h | ⟨g, o, h, hc⟩
        · rw [h] at hlt; simp at hlt
        · exact ⟨g, o, h, hc k hlt⟩
      have hb := H8.out k
      have HN := Lib.hid (show char (xs.getD k 0) = true → ∀ i, i < k + 1 → char (xs.getD i 0) = true from fun h i hi => by
          rcases Nat.lt_or_ge i k with h' | h'
          · exact hall.out i h'
          · obtain rfl : i = k := by omega
            exact h)
      have HF := Lib.hid (show char (xs.getD k 0) = false → xs.all char = false from fun h => not_all hlt h)
      generalize xs.getD k 0 = b at c0 hb HN HF
      have hi0 : (0 : Int) ≤ (k : Int) := by omega
      have hi1 : (k : Int) < (xs.length : Int) := by omega
      have ew : IntKind.i64.wrap ((k : Int) + 1) = (k : Int) + 1 := by
        rw [IntWalk.i64_in] <;> omega
      clear hall
      go_wp2_with fail
      refine (HC.out b _ hb).mono ?_
      rintro e w' ⟨rfl, rfl⟩
      cases hcb : char b with
      | true =>
        have HN2 := Lib.hid (HN.out hcb)
        clear HN HF hcb
        go_wp2_with fail
        go_roundg (xs.length + 1 - (k + 1))
        case measure => omega
        case rel => exact ⟨rfl, k + 1, by omega, rfl, by go_num, HN2⟩
      | false =>
        have HF2 := Lib.hid (HF.out hcb)
        clear HN HF hcb
        go_wp2_with fail
        go_ret
        refine ⟨?_, rfl⟩
        rw [HF2.out]; rfl
    · have HE := Lib.hid (all_to (xs := xs) (f := char) fun i hi => hall.out i (by omega))
      have hge : xs.length ≤ k := by omega
      clear hlt hall
      go_wp2_with fail
      go_ret
      refine ⟨?_, rfl⟩
      rw [HE.out]; rfl
end Ord
end Go.Proofs.YtdmieopdgihnkaaDoor
/- The document's Wrong. Written by tools/gen_ord_rwrong.py. -/
namespace Go.Proofs.YtdmieopdgihnkaaDoor
open Go.RowKit Sha Cut Err Six Att
namespace Ord
theorem ret_n {a b : Nat} (h : a = b) : Ending.returned (.int .i64 (a : Int)) = .returned (.int .i64 (b : Int)) := by rw [h]
theorem empty_any (ad : Option Addr) (cap : Nat) (w : World) :
    Calls Tryd.prog 26 #[.slice ad 0 cap] w fun e w' => e = .returned (.bool true) ∧ w = w' := by
  go_enter Tryd.func26, Tryd.ntmps26
  go_wp2_with fail
  refine wp_loop_rounds 1 ?_
  rw [rounds_succ]
  go_wp2_with fail
  go_ret
  exact ⟨rfl, rfl⟩
set_option maxRecDepth 100000 in
set_option maxHeartbeats 4000000 in
theorem rwrong_1 (ad : Option Addr) (len cap : Nat) (t : List Nat) (p n : Bool) (s : Int) (m : Bool) (a : Int) (c z : Nat) (w : World) (hB : BytesIn w (.slice ad len cap) t) (h8 : ∀ x ∈ t, x < 256) (hl : t.length < 1000000) (hc : c < 256) :
    Calls Tryd.prog 11 #[.agg #[.int .i64 1, .slice ad len cap, .bool p, .bool n, .int .i64 s, .bool m, .int .i64 a, .int .u8 (c : Int)], .int .i64 (z : Int)] w fun e w' => e = .returned (.int .i64 (wrong ⟨1, t, p, n, s, m, a, c⟩ z : Nat)) ∧ Below w.heap.size w w' := by
  have HA := Lib.hid (al_any w (.cells #[.int .i64 1, .slice ad len cap, .bool p, .bool n, .int .i64 s, .bool m, .int .i64 a, .int .u8 (c : Int)] 30))
  have HK := Lib.hid fun W hb => rchars_any ad len cap t W (bytes_below hB hb) h8 hl
  have hlt : t.length = len := by obtain ⟨_, _, hv, _⟩ := hB; injection hv with _ e2 _; exact e2.symm
  have HC := Lib.hid hc
  clear hB h8 hc hl
  by_cases ht : t = []
  · obtain rfl : len = 0 := by rw [← hlt, ht]; rfl
    clear HK hlt
    have HR := Lib.hid (show wrong ⟨1, t, p, n, s, m, a, c⟩ z = 1 by rw [ht]; unfold wrong; rw [if_neg (by simp)]; simp)
    clear ht
    go_enter Tryd.func11, Tryd.ntmps11
    go_wp2_with fail
    go_ret
    refine ⟨?_, HA.out⟩
    rw [HR.out]; rfl
  · have hpos : 0 < len := by rw [← hlt]; exact List.length_pos_iff.2 ht
    have hp : (0 : Int) < (len : Int) := by omega
    generalize hb : t.all char = b at HK
    clear hlt
    cases b with
    | false =>
      have HR := Lib.hid (show wrong ⟨1, t, p, n, s, m, a, c⟩ z = 1 by unfold wrong; rw [if_neg (by simp)]; simp [hb, ht])
      clear hb ht
      go_enter Tryd.func11, Tryd.ntmps11
      go_wp2_with fail
      with_reducible refine (HK.out _ HA.out).mono ?_
      rintro e w' ⟨rfl, rfl⟩
      go_wp2_with fail
      go_ret
      refine ⟨?_, HA.out⟩
      rw [HR.out]; rfl
    | true =>
      have HT := Lib.hid hb
      have HNE := Lib.hid ht
      clear hb ht
      go_enter Tryd.func11, Tryd.ntmps11
      go_wp2_with fail
      with_reducible refine (HK.out _ HA.out).mono ?_
      rintro e w' ⟨rfl, rfl⟩
      clear HK
      go_wp2_with fail
      all_goals
        go_ret
        refine ⟨?_, al_any _ _⟩
        have ht := HT.out
        have hne := HNE.out
        clear HA HC
        first
          | (refine ret_n (a := 1) (Eq.symm ?_); unfold wrong; simp_all [own, same] <;> omega)
          | (refine ret_n (a := 0) (Eq.symm ?_); unfold wrong; simp_all [own, same] <;> omega)
          | (refine ret_n (a := 4) (Eq.symm ?_); unfold wrong; simp_all [own, same] <;> omega)
set_option maxRecDepth 100000 in
set_option maxHeartbeats 4000000 in
theorem rwrong_2 (ad : Option Addr) (len cap : Nat) (t : List Nat) (p n : Bool) (s : Int) (m : Bool) (a : Int) (c z : Nat) (w : World) (hB : BytesIn w (.slice ad len cap) t) (h8 : ∀ x ∈ t, x < 256) (hl : t.length < 1000000) (hc : c < 256) :
    Calls Tryd.prog 11 #[.agg #[.int .i64 2, .slice ad len cap, .bool p, .bool n, .int .i64 s, .bool m, .int .i64 a, .int .u8 (c : Int)], .int .i64 (z : Int)] w fun e w' => e = .returned (.int .i64 (wrong ⟨2, t, p, n, s, m, a, c⟩ z : Nat)) ∧ Below w.heap.size w w' := by
  have HA := Lib.hid (al_any w (.cells #[.int .i64 2, .slice ad len cap, .bool p, .bool n, .int .i64 s, .bool m, .int .i64 a, .int .u8 (c : Int)] 30))
  have HK := Lib.hid fun W hb => rchars_any ad len cap t W (bytes_below hB hb) h8 hl
  have hlt : t.length = len := by obtain ⟨_, _, hv, _⟩ := hB; injection hv with _ e2 _; exact e2.symm
  have HC := Lib.hid hc
  clear hB h8 hc hl
  by_cases ht : t = []
  · obtain rfl : len = 0 := by rw [← hlt, ht]; rfl
    clear HK hlt
    have HT := Lib.hid ht
    clear ht
    go_enter Tryd.func11, Tryd.ntmps11
    go_wp2_with fail
    with_reducible refine (empty_any _ _ _).mono ?_
    rintro e w' ⟨rfl, rfl⟩
    go_wp2_with fail
    all_goals
      go_ret
      refine ⟨?_, al_any _ _⟩
      have ht := HT.out
      clear HA HC
      first
        | (refine ret_n (a := 1) (Eq.symm ?_); unfold wrong; simp_all [own, same] <;> omega)
        | (refine ret_n (a := 0) (Eq.symm ?_); unfold wrong; simp_all [own, same] <;> omega)
        | (refine ret_n (a := 4) (Eq.symm ?_); unfold wrong; simp_all [own, same] <;> omega)
  · have hpos : 0 < len := by rw [← hlt]; exact List.length_pos_iff.2 ht
    have hp : (0 : Int) < (len : Int) := by omega
    have HR := Lib.hid (show wrong ⟨2, t, p, n, s, m, a, c⟩ z = 1 by unfold wrong; rw [if_neg (by simp)]; simp [same, own, ht])
    clear hlt ht HK
    go_enter Tryd.func11, Tryd.ntmps11
    go_wp2_with fail
    go_ret
    refine ⟨?_, HA.out⟩
    rw [HR.out]; rfl
set_option maxRecDepth 100000 in
set_option maxHeartbeats 4000000 in
theorem rwrong_3 (ad : Option Addr) (len cap : Nat) (t : List Nat) (p n : Bool) (s : Int) (m : Bool) (a : Int) (c z : Nat) (w : World) (hB : BytesIn w (.slice ad len cap) t) (h8 : ∀ x ∈ t, x < 256) (hl : t.length < 1000000) (hc : c < 256) :
    Calls Tryd.prog 11 #[.agg #[.int .i64 3, .slice ad len cap, .bool p, .bool n, .int .i64 s, .bool m, .int .i64 a, .int .u8 (c : Int)], .int .i64 (z : Int)] w fun e w' => e = .returned (.int .i64 (wrong ⟨3, t, p, n, s, m, a, c⟩ z : Nat)) ∧ Below w.heap.size w w' := by
  have HA := Lib.hid (al_any w (.cells #[.int .i64 3, .slice ad len cap, .bool p, .bool n, .int .i64 s, .bool m, .int .i64 a, .int .u8 (c : Int)] 30))
  have HK := Lib.hid fun W hb => rchars_any ad len cap t W (bytes_below hB hb) h8 hl
  have hlt : t.length = len := by obtain ⟨_, _, hv, _⟩ := hB; injection hv with _ e2 _; exact e2.symm
  have HC := Lib.hid hc
  clear hB h8 hc hl
  by_cases ht : t = []
  · obtain rfl : len = 0 := by rw [← hlt, ht]; rfl
    clear HK hlt
    have HT := Lib.hid ht
    clear ht
    go_enter Tryd.func11, Tryd.ntmps11
    go_wp2_with fail
    with_reducible refine (empty_any _ _ _).mono ?_
    rintro e w' ⟨rfl, rfl⟩
    go_wp2_with fail
    all_goals
      go_ret
      refine ⟨?_, al_any _ _⟩
      have ht := HT.out
      clear HA HC
      first
        | (refine ret_n (a := 1) (Eq.symm ?_); unfold wrong; simp_all [own, same] <;> omega)
        | (refine ret_n (a := 0) (Eq.symm ?_); unfold wrong; simp_all [own, same] <;> omega)
        | (refine ret_n (a := 4) (Eq.symm ?_); unfold wrong; simp_all [own, same] <;> omega)
  · have hpos : 0 < len := by rw [← hlt]; exact List.length_pos_iff.2 ht
    have hp : (0 : Int) < (len : Int) := by omega
    have HR := Lib.hid (show wrong ⟨3, t, p, n, s, m, a, c⟩ z = 1 by unfold wrong; rw [if_neg (by simp)]; simp [same, own, ht])
    clear hlt ht HK
    go_enter Tryd.func11, Tryd.ntmps11
    go_wp2_with fail
    go_ret
    refine ⟨?_, HA.out⟩
    rw [HR.out]; rfl
set_option maxRecDepth 100000 in
set_option maxHeartbeats 4000000 in
theorem rwrong_4 (ad : Option Addr) (len cap : Nat) (t : List Nat) (p n : Bool) (s : Int) (m : Bool) (a : Int) (c z : Nat) (w : World) (hB : BytesIn w (.slice ad len cap) t) (h8 : ∀ x ∈ t, x < 256) (hl : t.length < 1000000) (hc : c < 256) :
    Calls Tryd.prog 11 #[.agg #[.int .i64 4, .slice ad len cap, .bool p, .bool n, .int .i64 s, .bool m, .int .i64 a, .int .u8 (c : Int)], .int .i64 (z : Int)] w fun e w' => e = .returned (.int .i64 (wrong ⟨4, t, p, n, s, m, a, c⟩ z : Nat)) ∧ Below w.heap.size w w' := by
  have HA := Lib.hid (al_any w (.cells #[.int .i64 4, .slice ad len cap, .bool p, .bool n, .int .i64 s, .bool m, .int .i64 a, .int .u8 (c : Int)] 30))
  have HK := Lib.hid fun W hb => rchars_any ad len cap t W (bytes_below hB hb) h8 hl
  have hlt : t.length = len := by obtain ⟨_, _, hv, _⟩ := hB; injection hv with _ e2 _; exact e2.symm
  have HC := Lib.hid hc
  clear hB h8 hc hl
  by_cases ht : t = []
  · obtain rfl : len = 0 := by rw [← hlt, ht]; rfl
    clear HK hlt
    have HT := Lib.hid ht
    clear ht
    go_enter Tryd.func11, Tryd.ntmps11
    go_wp2_with fail
    with_reducible refine (empty_any _ _ _).mono ?_
    rintro e w' ⟨rfl, rfl⟩
    go_wp2_with fail
    all_goals
      go_ret
      refine ⟨?_, al_any _ _⟩
      have ht := HT.out
      clear HA HC
      first
        | (refine ret_n (a := 1) (Eq.symm ?_); unfold wrong; simp_all [own, same] <;> omega)
        | (refine ret_n (a := 0) (Eq.symm ?_); unfold wrong; simp_all [own, same] <;> omega)
        | (refine ret_n (a := 4) (Eq.symm ?_); unfold wrong; simp_all [own, same] <;> omega)
  · have hpos : 0 < len := by rw [← hlt]; exact List.length_pos_iff.2 ht
    have hp : (0 : Int) < (len : Int) := by omega
    have HR := Lib.hid (show wrong ⟨4, t, p, n, s, m, a, c⟩ z = 1 by unfold wrong; rw [if_neg (by simp)]; simp [same, own, ht])
    clear hlt ht HK
    go_enter Tryd.func11, Tryd.ntmps11
    go_wp2_with fail
    go_ret
    refine ⟨?_, HA.out⟩
    rw [HR.out]; rfl
set_option maxRecDepth 100000 in
set_option maxHeartbeats 4000000 in
theorem rwrong_5 (ad : Option Addr) (len cap : Nat) (t : List Nat) (p n : Bool) (s : Int) (m : Bool) (a : Int) (c z : Nat) (w : World) (hB : BytesIn w (.slice ad len cap) t) (h8 : ∀ x ∈ t, x < 256) (hl : t.length < 1000000) (hc : c < 256) :
    Calls Tryd.prog 11 #[.agg #[.int .i64 5, .slice ad len cap, .bool p, .bool n, .int .i64 s, .bool m, .int .i64 a, .int .u8 (c : Int)], .int .i64 (z : Int)] w fun e w' => e = .returned (.int .i64 (wrong ⟨5, t, p, n, s, m, a, c⟩ z : Nat)) ∧ Below w.heap.size w w' := by
  have HA := Lib.hid (al_any w (.cells #[.int .i64 5, .slice ad len cap, .bool p, .bool n, .int .i64 s, .bool m, .int .i64 a, .int .u8 (c : Int)] 30))
  have HK := Lib.hid fun W hb => rchars_any ad len cap t W (bytes_below hB hb) h8 hl
  have hlt : t.length = len := by obtain ⟨_, _, hv, _⟩ := hB; injection hv with _ e2 _; exact e2.symm
  have HC := Lib.hid hc
  clear hB h8 hc hl
  by_cases ht : t = []
  · obtain rfl : len = 0 := by rw [← hlt, ht]; rfl
    clear HK hlt
    have HT := Lib.hid ht
    clear ht
    go_enter Tryd.func11, Tryd.ntmps11
    go_wp2_with fail
    with_reducible refine (empty_any _ _ _).mono ?_
    rintro e w' ⟨rfl, rfl⟩
    go_wp2_with fail
    all_goals
      go_ret
      refine ⟨?_, al_any _ _⟩
      have ht := HT.out
      clear HA HC
      first
        | (refine ret_n (a := 1) (Eq.symm ?_); unfold wrong; simp_all [own, same] <;> omega)
        | (refine ret_n (a := 0) (Eq.symm ?_); unfold wrong; simp_all [own, same] <;> omega)
        | (refine ret_n (a := 4) (Eq.symm ?_); unfold wrong; simp_all [own, same] <;> omega)
  · have hpos : 0 < len := by rw [← hlt]; exact List.length_pos_iff.2 ht
    have hp : (0 : Int) < (len : Int) := by omega
    have HR := Lib.hid (show wrong ⟨5, t, p, n, s, m, a, c⟩ z = 1 by unfold wrong; rw [if_neg (by simp)]; simp [same, own, ht])
    clear hlt ht HK
    go_enter Tryd.func11, Tryd.ntmps11
    go_wp2_with fail
    go_ret
    refine ⟨?_, HA.out⟩
    rw [HR.out]; rfl
set_option maxRecDepth 100000 in
set_option maxHeartbeats 4000000 in
theorem rwrong_6 (ad : Option Addr) (len cap : Nat) (t : List Nat) (p n : Bool) (s : Int) (m : Bool) (a : Int) (c z : Nat) (w : World) (hB : BytesIn w (.slice ad len cap) t) (h8 : ∀ x ∈ t, x < 256) (hl : t.length < 1000000) (hc : c < 256) :
    Calls Tryd.prog 11 #[.agg #[.int .i64 6, .slice ad len cap, .bool p, .bool n, .int .i64 s, .bool m, .int .i64 a, .int .u8 (c : Int)], .int .i64 (z : Int)] w fun e w' => e = .returned (.int .i64 (wrong ⟨6, t, p, n, s, m, a, c⟩ z : Nat)) ∧ Below w.heap.size w w' := by
  have HA := Lib.hid (al_any w (.cells #[.int .i64 6, .slice ad len cap, .bool p, .bool n, .int .i64 s, .bool m, .int .i64 a, .int .u8 (c : Int)] 30))
  have HK := Lib.hid fun W hb => rchars_any ad len cap t W (bytes_below hB hb) h8 hl
  have hlt : t.length = len := by obtain ⟨_, _, hv, _⟩ := hB; injection hv with _ e2 _; exact e2.symm
  have HC := Lib.hid fun W => rchar_any c W hc
  clear hB h8 hc hl
  by_cases ht : t = []
  · obtain rfl : len = 0 := by rw [← hlt, ht]; rfl
    clear HK hlt
    have HT := Lib.hid ht
    clear ht
    go_enter Tryd.func11, Tryd.ntmps11
    go_wp2_with fail
    with_reducible refine (empty_any _ _ _).mono ?_
    rintro e w' ⟨rfl, rfl⟩
    go_wp2_with fail
    all_goals
      first
        | (with_reducible refine (HC.out _).mono ?_; rintro e w' ⟨rfl, rfl⟩; generalize hcc : char c = b; cases b <;> (go_wp2_with fail))
        | skip
    all_goals
      go_ret
      refine ⟨?_, al_any _ _⟩
      have ht := HT.out
      clear HA HC
      first
        | (refine ret_n (a := 1) (Eq.symm ?_); unfold wrong; simp_all [own, same] <;> omega)
        | (refine ret_n (a := 0) (Eq.symm ?_); unfold wrong; simp_all [own, same] <;> omega)
        | (refine ret_n (a := 4) (Eq.symm ?_); unfold wrong; simp_all [own, same] <;> omega)
  · have hpos : 0 < len := by rw [← hlt]; exact List.length_pos_iff.2 ht
    have hp : (0 : Int) < (len : Int) := by omega
    have HR := Lib.hid (show wrong ⟨6, t, p, n, s, m, a, c⟩ z = 1 by unfold wrong; rw [if_neg (by simp)]; simp [same, own, ht])
    clear hlt ht HK
    go_enter Tryd.func11, Tryd.ntmps11
    go_wp2_with fail
    go_ret
    refine ⟨?_, HA.out⟩
    rw [HR.out]; rfl
set_option maxRecDepth 100000 in
set_option maxHeartbeats 4000000 in
theorem rwrong_7 (ad : Option Addr) (len cap : Nat) (t : List Nat) (p n : Bool) (s : Int) (m : Bool) (a : Int) (c z : Nat) (w : World) (hB : BytesIn w (.slice ad len cap) t) (h8 : ∀ x ∈ t, x < 256) (hl : t.length < 1000000) (hc : c < 256) :
    Calls Tryd.prog 11 #[.agg #[.int .i64 7, .slice ad len cap, .bool p, .bool n, .int .i64 s, .bool m, .int .i64 a, .int .u8 (c : Int)], .int .i64 (z : Int)] w fun e w' => e = .returned (.int .i64 (wrong ⟨7, t, p, n, s, m, a, c⟩ z : Nat)) ∧ Below w.heap.size w w' := by
  have HA := Lib.hid (al_any w (.cells #[.int .i64 7, .slice ad len cap, .bool p, .bool n, .int .i64 s, .bool m, .int .i64 a, .int .u8 (c : Int)] 30))
  have HK := Lib.hid fun W hb => rchars_any ad len cap t W (bytes_below hB hb) h8 hl
  have hlt : t.length = len := by obtain ⟨_, _, hv, _⟩ := hB; injection hv with _ e2 _; exact e2.symm
  have HC := Lib.hid hc
  clear hB h8 hc hl
  by_cases ht : t = []
  · obtain rfl : len = 0 := by rw [← hlt, ht]; rfl
    clear HK hlt
    have HT := Lib.hid ht
    clear ht
    go_enter Tryd.func11, Tryd.ntmps11
    go_wp2_with fail
    with_reducible refine (empty_any _ _ _).mono ?_
    rintro e w' ⟨rfl, rfl⟩
    go_wp2_with fail
    all_goals
      go_ret
      refine ⟨?_, al_any _ _⟩
      have ht := HT.out
      clear HA HC
      first
        | (refine ret_n (a := 1) (Eq.symm ?_); unfold wrong; simp_all [own, same] <;> omega)
        | (refine ret_n (a := 0) (Eq.symm ?_); unfold wrong; simp_all [own, same] <;> omega)
        | (refine ret_n (a := 4) (Eq.symm ?_); unfold wrong; simp_all [own, same] <;> omega)
  · have hpos : 0 < len := by rw [← hlt]; exact List.length_pos_iff.2 ht
    have hp : (0 : Int) < (len : Int) := by omega
    have HR := Lib.hid (show wrong ⟨7, t, p, n, s, m, a, c⟩ z = 1 by unfold wrong; rw [if_neg (by simp)]; simp [same, own, ht])
    clear hlt ht HK
    go_enter Tryd.func11, Tryd.ntmps11
    go_wp2_with fail
    go_ret
    refine ⟨?_, HA.out⟩
    rw [HR.out]; rfl
set_option maxHeartbeats 1000000 in
theorem rwrong_no (ad : Option Addr) (len cap : Nat) (k : Int) (p n : Bool) (s : Int) (m : Bool) (a : Int) (c : Int) (z : Int) (w : World) (hk : k < 1 ∨ 7 < k) :
    Calls Tryd.prog 11 #[.agg #[.int .i64 k, .slice ad len cap, .bool p, .bool n, .int .i64 s, .bool m, .int .i64 a, .int .u8 c], .int .i64 z] w fun e w' => e = .returned (.int .i64 5) ∧ Below w.heap.size w w' := by
  by_cases h : k < 1
  · go_enter Tryd.func11, Tryd.ntmps11
    go_wp2_with fail
    go_ret
    exact ⟨rfl, al_any _ _⟩
  · have h7 : 7 < k := by omega
    clear hk
    go_enter Tryd.func11, Tryd.ntmps11
    go_wp2_with fail
    go_ret
    exact ⟨rfl, al_any _ _⟩
/-- The document's Wrong tells what is wrong. -/
theorem rwrong_any (o : O) (ad : Option Addr) (len cap z : Nat) (w : World) (hB : BytesIn w (.slice ad len cap) o.t) (h8 : ∀ x ∈ o.t, x < 256) (hl : o.t.length < 1000000) (hc : o.c < 256) :
    Calls Tryd.prog 11 #[.agg #[.int .i64 o.k, .slice ad len cap, .bool o.p, .bool o.n, .int .i64 o.s, .bool o.m, .int .i64 o.a, .int .u8 (o.c : Int)], .int .i64 (z : Int)] w fun e w' => e = .returned (.int .i64 (wrong o z : Nat)) ∧ Below w.heap.size w w' := by
  obtain ⟨k, t, p, n, s, m, a, c⟩ := o
  simp only at hB h8 hl hc ⊢
  by_cases hk : k < 1 ∨ 7 < k
  · have e : wrong ⟨k, t, p, n, s, m, a, c⟩ z = 5 := by unfold wrong; rw [if_pos hk]
    rw [e]
    exact rwrong_no ad len cap k p n s m a c z w hk
  have hk : k = 1 ∨ k = 2 ∨ k = 3 ∨ k = 4 ∨ k = 5 ∨ k = 6 ∨ k = 7 := by omega
  rcases hk with rfl | rfl | rfl | rfl | rfl | rfl | rfl
  · exact rwrong_1 ad len cap t p n s m a c z w hB h8 hl hc
  · exact rwrong_2 ad len cap t p n s m a c z w hB h8 hl hc
  · exact rwrong_3 ad len cap t p n s m a c z w hB h8 hl hc
  · exact rwrong_4 ad len cap t p n s m a c z w hB h8 hl hc
  · exact rwrong_5 ad len cap t p n s m a c z w hB h8 hl hc
  · exact rwrong_6 ad len cap t p n s m a c z w hB h8 hl hc
  · exact rwrong_7 ad len cap t p n s m a c z w hB h8 hl hc
end Ord
end Go.Proofs.YtdmieopdgihnkaaDoor
