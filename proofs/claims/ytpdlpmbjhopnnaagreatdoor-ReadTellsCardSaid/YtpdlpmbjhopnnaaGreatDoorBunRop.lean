/- OrdRtext, OrdRwrong, OrdRput in one text (by tools/bundle.py). -/
import Derived.Test.YtpdlpmbjhopnnaaGreatDoorBunOrd
import Derived.Test.YtpdlpmbjhopnnaaGreatDoorBunRlp
import Derived.Test.YtpdlpmbjhopnnaaGreatDoorBunBase
import Derived.Test.YtpdlpmbjhopnnaaGreatDoorBunPlain
import Derived.Deep.AppendLies
import Derived.Deep.Cut
import Derived.Deep.RegionHeld3
/- The document's Chars. -/
namespace Go.Proofs.YtpdlpmbjhopnnaaGreatDoor
open Go.RowKit Sha Cut Err Six Att
namespace Ord
set_option maxRecDepth 100000 in
set_option maxHeartbeats 1000000 in
theorem rchars_any (ad : Option Addr) (len cap : Nat) (xs : List Nat) (w : World) (hB : BytesIn w (.slice ad len cap) xs) (h8 : ∀ x ∈ xs, x < 256) (hl : xs.length < 1000000) :
    Calls Tryz.prog 67 #[.slice ad len cap] w fun e w' => e = .returned (.bool (xs.all char)) ∧ w = w' := by
  obtain ⟨ad1, c1, hv, _, h1⟩ := hB
  injection hv with e1 e2 e3
  subst e1 e2 e3
  have HC := Lib.hid fun b W hb => rchar_any b W hb
  have HA := Lib.hid h1
  have H8 := Lib.hid fun k => byte_lt h8 (by decide) k
  clear h8 h1
  go_enter Tryz.func67, Tryz.ntmps67
  go_wp2_with fail
  go_loopg [3] (xs.length + 1) (fun n i wr => wr = w ∧ ∃ k : Nat, k ≤ xs.length ∧ n = xs.length + 1 - k ∧ i = .int .i64 k ∧ Hid (∀ i, i < k → char (xs.getD i 0) = true))
  case atStart => exact ⟨rfl, 0, Nat.zero_le _, rfl, rfl, Lib.hid fun i hi => absurd hi (by omega)⟩
  case round =>
    obtain ⟨rfl, k, hk, rfl, rfl, hall⟩ := hrel
    by_cases hlt : k < xs.length
    · obtain ⟨g, o, rfl, c0⟩ : ∃ g o, ad = some ⟨g, o, none⟩ ∧ wr.cell? ⟨g, o + k, none⟩ = some (.int .u8 ((xs.getD k 0 : Nat) : Int)) := by
        rcases HA.out with h | ⟨g, o, h, hc⟩
        · rw [h] at hlt; simp at hlt
        · exact ⟨g, o, h, hc k hlt⟩
      have hb := H8.out k
      have HN := Lib.hid (show char (xs.getD k 0) = true → ∀ i, i < k + 1 → char (xs.getD i 0) = true from fun h i hi => by
          rcases Nat.lt_or_ge i k with h' | h'
          · exact hall.out i h'
          · obtain rfl : i = k := by omega
            exact h)
      have HF := Lib.hid (show char (xs.getD k 0) = false → xs.all char = false from fun h => not_all hlt h)
      generalize xs.getD k 0 = b at c0 hb HN HF
      have hi0 : (0 : Int) ≤ (k : Int) := by omega
      have hi1 : (k : Int) < (xs.length : Int) := by omega
      have ew : IntKind.i64.wrap ((k : Int) + 1) = (k : Int) + 1 := by
        rw [IntWalk.i64_in] <;> omega
      clear hall
      go_wp2_with fail
      refine (HC.out b _ hb).mono ?_
      rintro e w' ⟨rfl, rfl⟩
      cases hcb : char b with
      | true =>
        have HN2 := Lib.hid (HN.out hcb)
        clear HN HF hcb
        go_wp2_with fail
        go_roundg (xs.length + 1 - (k + 1))
        case measure => omega
        case rel => exact ⟨rfl, k + 1, by omega, rfl, by go_num, HN2⟩
      | false =>
        have HF2 := Lib.hid (HF.out hcb)
        clear HN HF hcb
        go_wp2_with fail
        go_ret
        refine ⟨?_, rfl⟩
        rw [HF2.out]; rfl
    · have HE := Lib.hid (all_to (xs := xs) (f := char) fun i hi => hall.out i (by omega))
      have hge : xs.length ≤ k := by omega
      clear hlt hall
      go_wp2_with fail
      go_ret
      refine ⟨?_, rfl⟩
      rw [HE.out]; rfl
end Ord
end Go.Proofs.YtpdlpmbjhopnnaaGreatDoor
/- The document's Wrong. Written by tools/gen_ord_rwrong.py. -/
namespace Go.Proofs.YtpdlpmbjhopnnaaGreatDoor
open Go.RowKit Sha Cut Err Six Att
namespace Ord
theorem ret_n {a b : Nat} (h : a = b) : Ending.returned (.int .i64 (a : Int)) = .returned (.int .i64 (b : Int)) := by rw [h]
theorem empty_any (ad : Option Addr) (cap : Nat) (w : World) :
    Calls Tryz.prog 67 #[.slice ad 0 cap] w fun e w' => e = .returned (.bool true) ∧ w = w' := by
  go_enter Tryz.func67, Tryz.ntmps67
  go_wp2_with fail
  refine wp_loop_rounds 1 ?_
  rw [rounds_succ]
  go_wp2_with fail
  go_ret
  exact ⟨rfl, rfl⟩
set_option maxRecDepth 100000 in
set_option maxHeartbeats 4000000 in
theorem rwrong_1 (ad : Option Addr) (len cap : Nat) (t : List Nat) (p n : Bool) (s : Int) (m : Bool) (a : Int) (c z : Nat) (w : World) (hB : BytesIn w (.slice ad len cap) t) (h8 : ∀ x ∈ t, x < 256) (hl : t.length < 1000000) (hc : c < 256) :
    Calls Tryz.prog 33 #[.agg #[.int .i64 1, .slice ad len cap, .bool p, .bool n, .int .i64 s, .bool m, .int .i64 a, .int .u8 (c : Int)], .int .i64 (z : Int)] w fun e w' => e = .returned (.int .i64 (wrong ⟨1, t, p, n, s, m, a, c⟩ z : Nat)) ∧ Below w.heap.size w w' := by
  have HA := Lib.hid (al_any w (.cells #[.int .i64 1, .slice ad len cap, .bool p, .bool n, .int .i64 s, .bool m, .int .i64 a, .int .u8 (c : Int)] 76))
  have HK := Lib.hid fun W hb => rchars_any ad len cap t W (bytes_below hB hb) h8 hl
  have hlt : t.length = len := by obtain ⟨_, _, hv, _⟩ := hB; injection hv with _ e2 _; exact e2.symm
  have HC := Lib.hid hc
  clear hB h8 hc hl
  by_cases ht : t = []
  · obtain rfl : len = 0 := by rw [← hlt, ht]; rfl
    clear HK hlt
    have HR := Lib.hid (show wrong ⟨1, t, p, n, s, m, a, c⟩ z = 1 by rw [ht]; unfold wrong; rw [if_neg (by simp)]; simp)
    clear ht
    go_enter Tryz.func33, Tryz.ntmps33
    go_wp2_with fail
    go_ret
    refine ⟨?_, HA.out⟩
    rw [HR.out]; rfl
  · have hpos : 0 < len := by rw [← hlt]; exact List.length_pos_iff.2 ht
    have hp : (0 : Int) < (len : Int) := by omega
    generalize hb : t.all char = b at HK
    clear hlt
    cases b with
    | false =>
      have HR := Lib.hid (show wrong ⟨1, t, p, n, s, m, a, c⟩ z = 1 by unfold wrong; rw [if_neg (by simp)]; simp [hb, ht])
      clear hb ht
      go_enter Tryz.func33, Tryz.ntmps33
      go_wp2_with fail
      with_reducible refine (HK.out _ HA.out).mono ?_
      rintro e w' ⟨rfl, rfl⟩
      go_wp2_with fail
      go_ret
      refine ⟨?_, HA.out⟩
      rw [HR.out]; rfl
    | true =>
      have HT := Lib.hid hb
      have HNE := Lib.hid ht
      clear hb ht
      go_enter Tryz.func33, Tryz.ntmps33
      go_wp2_with fail
      with_reducible refine (HK.out _ HA.out).mono ?_
      rintro e w' ⟨rfl, rfl⟩
      clear HK
      go_wp2_with fail
      all_goals
        go_ret
        refine ⟨?_, al_any _ _⟩
        have ht := HT.out
        have hne := HNE.out
        clear HA HC
        first
          | (refine ret_n (a := 1) (Eq.symm ?_); unfold wrong; simp_all [own, same] <;> omega)
          | (refine ret_n (a := 0) (Eq.symm ?_); unfold wrong; simp_all [own, same] <;> omega)
          | (refine ret_n (a := 4) (Eq.symm ?_); unfold wrong; simp_all [own, same] <;> omega)
set_option maxRecDepth 100000 in
set_option maxHeartbeats 4000000 in
theorem rwrong_2 (ad : Option Addr) (len cap : Nat) (t : List Nat) (p n : Bool) (s : Int) (m : Bool) (a : Int) (c z : Nat) (w : World) (hB : BytesIn w (.slice ad len cap) t) (h8 : ∀ x ∈ t, x < 256) (hl : t.length < 1000000) (hc : c < 256) :
    Calls Tryz.prog 33 #[.agg #[.int .i64 2, .slice ad len cap, .bool p, .bool n, .int .i64 s, .bool m, .int .i64 a, .int .u8 (c : Int)], .int .i64 (z : Int)] w fun e w' => e = .returned (.int .i64 (wrong ⟨2, t, p, n, s, m, a, c⟩ z : Nat)) ∧ Below w.heap.size w w' := by
  have HA := Lib.hid (al_any w (.cells #[.int .i64 2, .slice ad len cap, .bool p, .bool n, .int .i64 s, .bool m, .int .i64 a, .int .u8 (c : Int)] 76))
  have HK := Lib.hid fun W hb => rchars_any ad len cap t W (bytes_below hB hb) h8 hl
  have hlt : t.length = len := by obtain ⟨_, _, hv, _⟩ := hB; injection hv with _ e2 _; exact e2.symm
  have HC := Lib.hid hc
  clear hB h8 hc hl
  by_cases ht : t = []
  · obtain rfl : len = 0 := by rw [← hlt, ht]; rfl
    clear HK hlt
    have HT := Lib.hid ht
    clear ht
    go_enter Tryz.func33, Tryz.ntmps33
    go_wp2_with fail
    with_reducible refine (empty_any _ _ _).mono ?_
    rintro e w' ⟨rfl, rfl⟩
    go_wp2_with fail
    all_goals
      go_ret
      refine ⟨?_, al_any _ _⟩
      have ht := HT.out
      clear HA HC
      first
        | (refine ret_n (a := 1) (Eq.symm ?_); unfold wrong; simp_all [own, same] <;> omega)
        | (refine ret_n (a := 0) (Eq.symm ?_); unfold wrong; simp_all [own, same] <;> omega)
        | (refine ret_n (a := 4) (Eq.symm ?_); unfold wrong; simp_all [own, same] <;> omega)
  · have hpos : 0 < len := by rw [← hlt]; exact List.length_pos_iff.2 ht
    have hp : (0 : Int) < (len : Int) := by omega
    have HR := Lib.hid (show wrong ⟨2, t, p, n, s, m, a, c⟩ z = 1 by unfold wrong; rw [if_neg (by simp)]; simp [same, own, ht])
    clear hlt ht HK
    go_enter Tryz.func33, Tryz.ntmps33
    go_wp2_with fail
    go_ret
    refine ⟨?_, HA.out⟩
    rw [HR.out]; rfl
set_option maxRecDepth 100000 in
set_option maxHeartbeats 4000000 in
theorem rwrong_3 (ad : Option Addr) (len cap : Nat) (t : List Nat) (p n : Bool) (s : Int) (m : Bool) (a : Int) (c z : Nat) (w : World) (hB : BytesIn w (.slice ad len cap) t) (h8 : ∀ x ∈ t, x < 256) (hl : t.length < 1000000) (hc : c < 256) :
    Calls Tryz.prog 33 #[.agg #[.int .i64 3, .slice ad len cap, .bool p, .bool n, .int .i64 s, .bool m, .int .i64 a, .int .u8 (c : Int)], .int .i64 (z : Int)] w fun e w' => e = .returned (.int .i64 (wrong ⟨3, t, p, n, s, m, a, c⟩ z : Nat)) ∧ Below w.heap.size w w' := by
  have HA := Lib.hid (al_any w (.cells #[.int .i64 3, .slice ad len cap, .bool p, .bool n, .int .i64 s, .bool m, .int .i64 a, .int .u8 (c : Int)] 76))
  have HK := Lib.hid fun W hb => rchars_any ad len cap t W (bytes_below hB hb) h8 hl
  have hlt : t.length = len := by obtain ⟨_, _, hv, _⟩ := hB; injection hv with _ e2 _; exact e2.symm
  have HC := Lib.hid hc
  clear hB h8 hc hl
  by_cases ht : t = []
  · obtain rfl : len = 0 := by rw [← hlt, ht]; rfl
    clear HK hlt
    have HT := Lib.hid ht
    clear ht
    go_enter Tryz.func33, Tryz.ntmps33
    go_wp2_with fail
    with_reducible refine (empty_any _ _ _).mono ?_
    rintro e w' ⟨rfl, rfl⟩
    go_wp2_with fail
    all_goals
      go_ret
      refine ⟨?_, al_any _ _⟩
      have ht := HT.out
      clear HA HC
      first
        | (refine ret_n (a := 1) (Eq.symm ?_); unfold wrong; simp_all [own, same] <;> omega)
        | (refine ret_n (a := 0) (Eq.symm ?_); unfold wrong; simp_all [own, same] <;> omega)
        | (refine ret_n (a := 4) (Eq.symm ?_); unfold wrong; simp_all [own, same] <;> omega)
  · have hpos : 0 < len := by rw [← hlt]; exact List.length_pos_iff.2 ht
    have hp : (0 : Int) < (len : Int) := by omega
    have HR := Lib.hid (show wrong ⟨3, t, p, n, s, m, a, c⟩ z = 1 by unfold wrong; rw [if_neg (by simp)]; simp [same, own, ht])
    clear hlt ht HK
    go_enter Tryz.func33, Tryz.ntmps33
    go_wp2_with fail
    go_ret
    refine ⟨?_, HA.out⟩
    rw [HR.out]; rfl
set_option maxRecDepth 100000 in
set_option maxHeartbeats 4000000 in
theorem rwrong_4 (ad : Option Addr) (len cap : Nat) (t : List Nat) (p n : Bool) (s : Int) (m : Bool) (a : Int) (c z : Nat) (w : World) (hB : BytesIn w (.slice ad len cap) t) (h8 : ∀ x ∈ t, x < 256) (hl : t.length < 1000000) (hc : c < 256) :
    Calls Tryz.prog 33 #[.agg #[.int .i64 4, .slice ad len cap, .bool p, .bool n, .int .i64 s, .bool m, .int .i64 a, .int .u8 (c : Int)], .int .i64 (z : Int)] w fun e w' => e = .returned (.int .i64 (wrong ⟨4, t, p, n, s, m, a, c⟩ z : Nat)) ∧ Below w.heap.size w w' := by
  have HA := Lib.hid (al_any w (.cells #[.int .i64 4, .slice ad len cap, .bool p, .bool n, .int .i64 s, .bool m, .int .i64 a, .int .u8 (c : Int)] 76))
  have HK := Lib.hid fun W hb => rchars_any ad len cap t W (bytes_below hB hb) h8 hl
  have hlt : t.length = len := by obtain ⟨_, _, hv, _⟩ := hB; injection hv with _ e2 _; exact e2.symm
  have HC := Lib.hid hc
  clear hB h8 hc hl
  by_cases ht : t = []
  · obtain rfl : len = 0 := by rw [← hlt, ht]; rfl
    clear HK hlt
    have HT := Lib.hid ht
    clear ht
    go_enter Tryz.func33, Tryz.ntmps33
    go_wp2_with fail
    with_reducible refine (empty_any _ _ _).mono ?_
    rintro e w' ⟨rfl, rfl⟩
    go_wp2_with fail
    all_goals
      go_ret
      refine ⟨?_, al_any _ _⟩
      have ht := HT.out
      clear HA HC
      first
        | (refine ret_n (a := 1) (Eq.symm ?_); unfold wrong; simp_all [own, same] <;> omega)
        | (refine ret_n (a := 0) (Eq.symm ?_); unfold wrong; simp_all [own, same] <;> omega)
        | (refine ret_n (a := 4) (Eq.symm ?_); unfold wrong; simp_all [own, same] <;> omega)
  · have hpos : 0 < len := by rw [← hlt]; exact List.length_pos_iff.2 ht
    have hp : (0 : Int) < (len : Int) := by omega
    have HR := Lib.hid (show wrong ⟨4, t, p, n, s, m, a, c⟩ z = 1 by unfold wrong; rw [if_neg (by simp)]; simp [same, own, ht])
    clear hlt ht HK
    go_enter Tryz.func33, Tryz.ntmps33
    go_wp2_with fail
    go_ret
    refine ⟨?_, HA.out⟩
    rw [HR.out]; rfl
set_option maxRecDepth 100000 in
set_option maxHeartbeats 4000000 in
theorem rwrong_5 (ad : Option Addr) (len cap : Nat) (t : List Nat) (p n : Bool) (s : Int) (m : Bool) (a : Int) (c z : Nat) (w : World) (hB : BytesIn w (.slice ad len cap) t) (h8 : ∀ x ∈ t, x < 256) (hl : t.length < 1000000) (hc : c < 256) :
    Calls Tryz.prog 33 #[.agg #[.int .i64 5, .slice ad len cap, .bool p, .bool n, .int .i64 s, .bool m, .int .i64 a, .int .u8 (c : Int)], .int .i64 (z : Int)] w fun e w' => e = .returned (.int .i64 (wrong ⟨5, t, p, n, s, m, a, c⟩ z : Nat)) ∧ Below w.heap.size w w' := by
  have HA := Lib.hid (al_any w (.cells #[.int .i64 5, .slice ad len cap, .bool p, .bool n, .int .i64 s, .bool m, .int .i64 a, .int .u8 (c : Int)] 76))
  have HK := Lib.hid fun W hb => rchars_any ad len cap t W (bytes_below hB hb) h8 hl
  have hlt : t.length = len := by obtain ⟨_, _, hv, _⟩ := hB; injection hv with _ e2 _; exact e2.symm
  have HC := Lib.hid hc
  clear hB h8 hc hl
  by_cases ht : t = []
  · obtain rfl : len = 0 := by rw [← hlt, ht]; rfl
    clear HK hlt
    have HT := Lib.hid ht
    clear ht
    go_enter Tryz.func33, Tryz.ntmps33
    go_wp2_with fail
    with_reducible refine (empty_any _ _ _).mono ?_
    rintro e w' ⟨rfl, rfl⟩
    go_wp2_with fail
    all_goals
      go_ret
      refine ⟨?_, al_any _ _⟩
      have ht := HT.out
      clear HA HC
      first
        | (refine ret_n (a := 1) (Eq.symm ?_); unfold wrong; simp_all [own, same] <;> omega)
        | (refine ret_n (a := 0) (Eq.symm ?_); unfold wrong; simp_all [own, same] <;> omega)
        | (refine ret_n (a := 4) (Eq.symm ?_); unfold wrong; simp_all [own, same] <;> omega)
  · have hpos : 0 < len := by rw [← hlt]; exact List.length_pos_iff.2 ht
    have hp : (0 : Int) < (len : Int) := by omega
    have HR := Lib.hid (show wrong ⟨5, t, p, n, s, m, a, c⟩ z = 1 by unfold wrong; rw [if_neg (by simp)]; simp [same, own, ht])
    clear hlt ht HK
    go_enter Tryz.func33, Tryz.ntmps33
    go_wp2_with fail
    go_ret
    refine ⟨?_, HA.out⟩
    rw [HR.out]; rfl
set_option maxRecDepth 100000 in
set_option maxHeartbeats 4000000 in
theorem rwrong_6 (ad : Option Addr) (len cap : Nat) (t : List Nat) (p n : Bool) (s : Int) (m : Bool) (a : Int) (c z : Nat) (w : World) (hB : BytesIn w (.slice ad len cap) t) (h8 : ∀ x ∈ t, x < 256) (hl : t.length < 1000000) (hc : c < 256) :
    Calls Tryz.prog 33 #[.agg #[.int .i64 6, .slice ad len cap, .bool p, .bool n, .int .i64 s, .bool m, .int .i64 a, .int .u8 (c : Int)], .int .i64 (z : Int)] w fun e w' => e = .returned (.int .i64 (wrong ⟨6, t, p, n, s, m, a, c⟩ z : Nat)) ∧ Below w.heap.size w w' := by
  have HA := Lib.hid (al_any w (.cells #[.int .i64 6, .slice ad len cap, .bool p, .bool n, .int .i64 s, .bool m, .int .i64 a, .int .u8 (c : Int)] 76))
  have HK := Lib.hid fun W hb => rchars_any ad len cap t W (bytes_below hB hb) h8 hl
  have hlt : t.length = len := by obtain ⟨_, _, hv, _⟩ := hB; injection hv with _ e2 _; exact e2.symm
  have HC := Lib.hid fun W => rchar_any c W hc
  clear hB h8 hc hl
  by_cases ht : t = []
  · obtain rfl : len = 0 := by rw [← hlt, ht]; rfl
    clear HK hlt
    have HT := Lib.hid ht
    clear ht
    go_enter Tryz.func33, Tryz.ntmps33
    go_wp2_with fail
    with_reducible refine (empty_any _ _ _).mono ?_
    rintro e w' ⟨rfl, rfl⟩
    go_wp2_with fail
    all_goals
      first
        | (with_reducible refine (HC.out _).mono ?_; rintro e w' ⟨rfl, rfl⟩; generalize hcc : char c = b; cases b <;> (go_wp2_with fail))
        | skip
    all_goals
      go_ret
      refine ⟨?_, al_any _ _⟩
      have ht := HT.out
      clear HA HC
      first
        | (refine ret_n (a := 1) (Eq.symm ?_); unfold wrong; simp_all [own, same] <;> omega)
        | (refine ret_n (a := 0) (Eq.symm ?_); unfold wrong; simp_all [own, same] <;> omega)
        | (refine ret_n (a := 4) (Eq.symm ?_); unfold wrong; simp_all [own, same] <;> omega)
  · have hpos : 0 < len := by rw [← hlt]; exact List.length_pos_iff.2 ht
    have hp : (0 : Int) < (len : Int) := by omega
    have HR := Lib.hid (show wrong ⟨6, t, p, n, s, m, a, c⟩ z = 1 by unfold wrong; rw [if_neg (by simp)]; simp [same, own, ht])
    clear hlt ht HK
    go_enter Tryz.func33, Tryz.ntmps33
    go_wp2_with fail
    go_ret
    refine ⟨?_, HA.out⟩
    rw [HR.out]; rfl
set_option maxRecDepth 100000 in
set_option maxHeartbeats 4000000 in
theorem rwrong_7 (ad : Option Addr) (len cap : Nat) (t : List Nat) (p n : Bool) (s : Int) (m : Bool) (a : Int) (c z : Nat) (w : World) (hB : BytesIn w (.slice ad len cap) t) (h8 : ∀ x ∈ t, x < 256) (hl : t.length < 1000000) (hc : c < 256) :
    Calls Tryz.prog 33 #[.agg #[.int .i64 7, .slice ad len cap, .bool p, .bool n, .int .i64 s, .bool m, .int .i64 a, .int .u8 (c : Int)], .int .i64 (z : Int)] w fun e w' => e = .returned (.int .i64 (wrong ⟨7, t, p, n, s, m, a, c⟩ z : Nat)) ∧ Below w.heap.size w w' := by
  have HA := Lib.hid (al_any w (.cells #[.int .i64 7, .slice ad len cap, .bool p, .bool n, .int .i64 s, .bool m, .int .i64 a, .int .u8 (c : Int)] 76))
  have HK := Lib.hid fun W hb => rchars_any ad len cap t W (bytes_below hB hb) h8 hl
  have hlt : t.length = len := by obtain ⟨_, _, hv, _⟩ := hB; injection hv with _ e2 _; exact e2.symm
  have HC := Lib.hid hc
  clear hB h8 hc hl
  by_cases ht : t = []
  · obtain rfl : len = 0 := by rw [← hlt, ht]; rfl
    clear HK hlt
    have HT := Lib.hid ht
    clear ht
    go_enter Tryz.func33, Tryz.ntmps33
    go_wp2_with fail
    with_reducible refine (empty_any _ _ _).mono ?_
    rintro e w' ⟨rfl, rfl⟩
    go_wp2_with fail
    all_goals
      go_ret
      refine ⟨?_, al_any _ _⟩
      have ht := HT.out
      clear HA HC
      first
        | (refine ret_n (a := 1) (Eq.symm ?_); unfold wrong; simp_all [own, same] <;> omega)
        | (refine ret_n (a := 0) (Eq.symm ?_); unfold wrong; simp_all [own, same] <;> omega)
        | (refine ret_n (a := 4) (Eq.symm ?_); unfold wrong; simp_all [own, same] <;> omega)
  · have hpos : 0 < len := by rw [← hlt]; exact List.length_pos_iff.2 ht
    have hp : (0 : Int) < (len : Int) := by omega
    have HR := Lib.hid (show wrong ⟨7, t, p, n, s, m, a, c⟩ z = 1 by unfold wrong; rw [if_neg (by simp)]; simp [same, own, ht])
    clear hlt ht HK
    go_enter Tryz.func33, Tryz.ntmps33
    go_wp2_with fail
    go_ret
    refine ⟨?_, HA.out⟩
    rw [HR.out]; rfl
set_option maxHeartbeats 1000000 in
theorem rwrong_no (ad : Option Addr) (len cap : Nat) (k : Int) (p n : Bool) (s : Int) (m : Bool) (a : Int) (c : Int) (z : Int) (w : World) (hk : k < 1 ∨ 7 < k) :
    Calls Tryz.prog 33 #[.agg #[.int .i64 k, .slice ad len cap, .bool p, .bool n, .int .i64 s, .bool m, .int .i64 a, .int .u8 c], .int .i64 z] w fun e w' => e = .returned (.int .i64 5) ∧ Below w.heap.size w w' := by
  by_cases h : k < 1
  · go_enter Tryz.func33, Tryz.ntmps33
    go_wp2_with fail
    go_ret
    exact ⟨rfl, al_any _ _⟩
  · have h7 : 7 < k := by omega
    clear hk
    go_enter Tryz.func33, Tryz.ntmps33
    go_wp2_with fail
    go_ret
    exact ⟨rfl, al_any _ _⟩
/-- The document's Wrong tells what is wrong. -/
theorem rwrong_any (o : O) (ad : Option Addr) (len cap z : Nat) (w : World) (hB : BytesIn w (.slice ad len cap) o.t) (h8 : ∀ x ∈ o.t, x < 256) (hl : o.t.length < 1000000) (hc : o.c < 256) :
    Calls Tryz.prog 33 #[.agg #[.int .i64 o.k, .slice ad len cap, .bool o.p, .bool o.n, .int .i64 o.s, .bool o.m, .int .i64 o.a, .int .u8 (o.c : Int)], .int .i64 (z : Int)] w fun e w' => e = .returned (.int .i64 (wrong o z : Nat)) ∧ Below w.heap.size w w' := by
  obtain ⟨k, t, p, n, s, m, a, c⟩ := o
  simp only at hB h8 hl hc ⊢
  by_cases hk : k < 1 ∨ 7 < k
  · have e : wrong ⟨k, t, p, n, s, m, a, c⟩ z = 5 := by unfold wrong; rw [if_pos hk]
    rw [e]
    exact rwrong_no ad len cap k p n s m a c z w hk
  have hk : k = 1 ∨ k = 2 ∨ k = 3 ∨ k = 4 ∨ k = 5 ∨ k = 6 ∨ k = 7 := by omega
  rcases hk with rfl | rfl | rfl | rfl | rfl | rfl | rfl
  · exact rwrong_1 ad len cap t p n s m a c z w hB h8 hl hc
  · exact rwrong_2 ad len cap t p n s m a c z w hB h8 hl hc
  · exact rwrong_3 ad len cap t p n s m a c z w hB h8 hl hc
  · exact rwrong_4 ad len cap t p n s m a c z w hB h8 hl hc
  · exact rwrong_5 ad len cap t p n s m a c z w hB h8 hl hc
  · exact rwrong_6 ad len cap t p n s m a c z w hB h8 hl hc
  · exact rwrong_7 ad len cap t p n s m a c z w hB h8 hl hc
end Ord
end Go.Proofs.YtpdlpmbjhopnnaaGreatDoor
/- The document's Put of orders. Written by tools/gen_ord_rput.py. -/
namespace Go.Proofs.YtpdlpmbjhopnnaaGreatDoor
open Go.RowKit Sha Cut Err Six Att Apd
namespace Ord
theorem two67 {w1 w' : World} {B : Nat} {t : TypeId} {a0 a1 a2 a3 a4 a5 a6 a7 : Value} (k : w1.heap[B]? = some (.cells #[a0, a1, a2, a3, a4, a5, a6, a7] t (0, 0))) (h : Below w1.heap.size w1 w') :
    Below w1.heap.size w1 w' ∧ w'.cell? ⟨B, 6, none⟩ = some a6 ∧ w'.cell? ⟨B, 7, none⟩ = some a7 := by
  obtain ⟨_, _, _, _, _, _, h6, h7⟩ := cells8 (blk k h)
  exact ⟨h, h6, h7⟩
theorem own_lit1 (w : World) (o : Obj) (base : Nat) (l : List Nat) (hb : base ≤ w.heap.size + 1) (hl : l.length < 1000000) : ((w.alloc o).alloc (.cells (u8s l).toArray 5)).ownsRow base 5 1 (.slice (some ⟨w.heap.size + 1, 0, none⟩) l.length l.length) l.length (u8s l) := by
  have h := own_lit (w.alloc o) base l (by rw [World.size_alloc]; exact hb) hl
  rwa [World.size_alloc] at h
theorem own_at0 {w : World} {base n i : Nat} {va : Option Addr} {vc : Nat} {m : List Nat} (h : w.ownsRow base 5 1 (.slice va n vc) n (u8s m)) (hi : i < n) : ∃ g, va = some ⟨g, 0, none⟩ ∧ base ≤ g ∧ g < w.heap.size := by
  obtain ⟨ad, c, hv, hnn, hs⟩ := own_spot h
  injection hv with e1 e2 e3
  subst e1 e3
  cases va with
  | none => have := (hnn rfl).1; omega
  | some a =>
    obtain ⟨h1, h2, h3⟩ := hs a rfl
    exact ⟨a.block, by rw [← h1], h2, h3⟩
theorem dr_any (w : World) : Below w.heap.size w w.drew := (Below.refl _ _).drew
theorem bytes_row {w w' : World} {b n c : Nat} {r : Option Nat} {xs : List Nat} (h : BytesIn w (.slice (some ⟨b, 0, none⟩) n c) xs) (hg : w.grownBy w' r) (hne : some b ≠ r) : BytesIn w' (.slice (some ⟨b, 0, none⟩) n c) xs := by
  obtain ⟨ad, cap, hv, hl, hc⟩ := h
  refine ⟨ad, cap, hv, hl, ?_⟩
  injection hv with e1 _ _
  subst e1
  rcases hc with h0 | ⟨g, off, e, hc⟩
  · exact .inl h0
  · injection e with e
    injection e with e1 e2
    subst e1
    exact .inr ⟨_, off, by rw [← e2], fun j hj => hg.cell (hc j hj) (by simpa using hne)⟩
/-- An append to a row of the call's own, at a step of a region that draws. -/
theorem step_app {ops : Array Oper} {o : Oper} {a : Act} {w : World} {K : Act → World → Prop} {Q : Exit → Act → World → Prop} {E : Prop} (hgd : o.guard = none) (s x : Operand)
    (ho : o.op = .call { callee := .builtin .append, args := #[s, x], argTypes := #[27, 27] }) (base : Nat) (n : Nat) (xs : List Nat) (v : Value) (hs : a.eval s = v) (hown : w.ownsRow base 5 1 v n (u8s xs))
    (ad : Addr) (m c : Nat) (news : List Nat) (hx : a.eval x = .slice (some ad) m c) (hl : news.length = m) (hnews : BytesIn w (.slice (some ad) m c) news) (hm : 0 < m) (h63 : n + m < 1000000) (hbase : base ≤ w.heap.size)
    (h : ∀ v' w', w'.ownsRow base 5 1 v' (n + m) (u8s (xs ++ news)) → w.grownBy w' v.ownBlock → w.ownsRow base 5 1 v n (u8s xs) → K (a.put o.dst v') w') :
    if Region.wanted o (yielded ops a.tmps) = true then Oper.wp Tryz.prog o a w K Q else E := by
  obtain ⟨i0, hi, hz0, hz1, hz2⟩ := info_parts info8
  refine step_append_lies w hgd s x 27 ho base 5 i0 (.int .u8 0) 1 1 Tryz.underlying27 hi hz0 hz1 hz2 rfl (by decide) v n (u8s xs) hs hown ad m c (u8s news) hx (by rw [u8s_length, hl, Nat.mul_one]) (bytes_src hnews ad rfl) (u8s_one _) hm (by unfold maxLen; omega) (by omega) hbase w.heap.size rfl ?_
  intro g cap w' h1 h2 _ _
  refine h _ w' ?_ h2 hown
  have e : u8s xs ++ u8s news = u8s (xs ++ news) := by simp [u8s]
  rwa [e] at h1
set_option maxHeartbeats 1000000 in
theorem rput4_any (a z : Nat) (w : World) (ha : a < z) (h2 : z ≤ 16383) :
    Calls Tryz.prog 36 #[.int .i64 (a : Int), .int .i64 (z : Int)] w fun e w' => ∃ v, e = .returned v ∧ w'.ownsRow w.heap.size 5 1 v 2 (u8s [Adr.first a z, Adr.second a z]) ∧ Below w.heap.size w w' := by
  by_cases h : z ≤ 4096
  · have e1 : Adr.first a z = put (a / 64) := by unfold Adr.first; rw [if_pos h]
    have e2 : Adr.second a z = put (a % 64) := by unfold Adr.second; rw [if_pos h]
    rw [e1, e2]
    have H1 := fun W => rput_any (a / 64) W (by omega)
    have H2 := fun W => rput_any (a % 64) W (Nat.mod_lt _ (by decide))
    rw [show ((a / 64 : Nat) : Int) = (a : Int) / 64 by omega] at H1
    rw [show ((a % 64 : Nat) : Int) = (a : Int) % 64 by omega] at H2
    generalize put (a / 64) = x at *
    generalize put (a % 64) = y at *
    have H1 := Lib.hid H1
    have H2 := Lib.hid H2
    clear e1 e2
    go_enter Tryz.func36, Tryz.ntmps36
    go_wp2_with fail
    with_reducible refine (H1.out _).mono ?_
    rintro e w1 ⟨rfl, j, rfl⟩
    go_wp2_with fail
    with_reducible refine (H2.out _).mono ?_
    rintro e w1 ⟨rfl, k, rfl⟩
    go_wp2_with fail
    go_ret
    have hd : Below w.heap.size w (w.drewN (j + k)) := below_drewN _ _ _
    have h1 := own_lit (w.drewN (j + k)) w.heap.size [x, y] hd.size (by show 2 < 1000000; decide)
    exact ⟨_, rfl, h1, hd.alloc hd.size _⟩
  · have e1 : Adr.first a z = a / 256 := by unfold Adr.first; rw [if_neg h]
    have e2 : Adr.second a z = a % 256 := by unfold Adr.second; rw [if_neg h]
    rw [e1, e2]
    clear e1 e2
    go_enter Tryz.func36, Tryz.ntmps36
    go_wp2_with fail
    go_ret
    exact ⟨_, rfl, own_lit w w.heap.size [a / 256, a % 256] (Nat.le_refl _) (by show 2 < 1000000; decide), al_any _ _⟩
set_option maxRecDepth 100000 in
set_option maxHeartbeats 4000000 in
theorem rput_1 (ad : Option Addr) (len cap z : Nat) (t : List Nat) (w : World) (hB : BytesIn w (.slice ad len cap) t) (hn : ad = none → len = 0 ∧ cap = 0) (hl : t.length < 1000000) :
    Calls Tryz.prog 34 #[.agg #[.int .i64 1, .slice ad len cap, .bool false, .bool false, .int .i64 0, .bool false, .int .i64 0, .int .u8 0], .int .i64 (z : Int)] w fun e w' => ∃ v, e = .returned v ∧ w'.ownsRow w.heap.size 5 1 v t.length (u8s t) ∧ Below w.heap.size w w' := by
  have HA := Lib.hid (al_any w (.cells #[.int .i64 1, .slice ad len cap, .bool false, .bool false, .int .i64 0, .bool false, .int .i64 0, .int .u8 0] 76))
  have HG := Lib.hid (heap_alloc_new w (.cells #[.int .i64 1, .slice ad len cap, .bool false, .bool false, .int .i64 0, .bool false, .int .i64 0, .int .u8 0] 76))
  have hlt : t.length = len := by obtain ⟨_, _, hv, _⟩ := hB; injection hv with _ e2 _; exact e2.symm
  have HL := Lib.hid hl
  have HN := Lib.hid hn
  have HB := Lib.hid (bytes_below hB HA.out)
  subst hlt
  clear hB hn hl
  go_enter Tryz.func34, Tryz.ntmps34
  go_upto_region 1 with (fail)
  generalize w.alloc (.cells #[.int .i64 1, .slice ad t.length cap, .bool false, .bool false, .int .i64 0, .bool false, .int .i64 0, .int .u8 0] 76) = w1 at HA HG HB ⊢
  obtain ⟨c0, c1, c2, c3, c4, c5, c6, c7⟩ := cells8 HG.out
  have l1 : w.heap.size < w1.heap.size := there_lt HG.out
  have HOE := Lib.hid (own_lit w1 w1.heap.size [] (Nat.le_refl _) (by decide))
  go_wp2_with (at_builtin; refine wpList_mark ?_)
  refine Lib.hid ?_
  refine append_own rfl (.tmp 8) (.tmp 10) rfl w1.heap.size _ 0 _ rfl HOE.out ad t.length cap t rfl rfl HN.out (bytes_src (bytes_below HB.out (al_any _ _))) (by have := HL.out; omega) (by simp) ?_
  intro v2 w2 hown hgr _
  have HO := Lib.hid (show w2.ownsRow w1.heap.size 5 1 v2 t.length (u8s t) from by simpa [u8s] using hown)
  have K := kept_hid HA (below_own (al_any w1 (.cells (u8s []).toArray 5)) hgr (own_lit w1 w1.heap.size [] (Nat.le_refl _) (by decide)))
  obtain ⟨va, vc, rfl⟩ := own_form HO.out
  clear hown hgr HB HN
  go_wp2_with fail
  go_ret
  exact ⟨_, rfl, own_mono HO.out HA.out.size, K.out⟩
set_option maxRecDepth 100000 in
set_option maxHeartbeats 4000000 in
theorem rput_2 (ad : Option Addr) (len cap z : Nat) (p n m : Bool) (s : Nat) (w : World) (hs : s < 4) :
    Calls Tryz.prog 34 #[.agg #[.int .i64 2, .slice ad len cap, .bool p, .bool n, .int .i64 (s : Int), .bool m, .int .i64 0, .int .u8 0], .int .i64 (z : Int)] w fun e w' => ∃ v, e = .returned v ∧ w'.ownsRow w.heap.size 5 1 v 2 (u8s [29, put (num p n m s)]) ∧ Below w.heap.size w w' := by
  have HA := Lib.hid (al_any w (.cells #[.int .i64 2, .slice ad len cap, .bool p, .bool n, .int .i64 (s : Int), .bool m, .int .i64 0, .int .u8 0] 76))
  have HG := Lib.hid (heap_alloc_new w (.cells #[.int .i64 2, .slice ad len cap, .bool p, .bool n, .int .i64 (s : Int), .bool m, .int .i64 0, .int .u8 0] 76))
  go_enter Tryz.func34, Tryz.ntmps34
  go_upto_region 1 with (fail)
  generalize w.alloc (.cells #[.int .i64 2, .slice ad len cap, .bool p, .bool n, .int .i64 (s : Int), .bool m, .int .i64 0, .int .u8 0] 76) = w1 at HA HG ⊢
  obtain ⟨c0, c1, c2, c3, c4, c5, c6, c7⟩ := cells8 HG.out
  have l1 : w.heap.size < w1.heap.size := there_lt HG.out
  go_wp2_with fail
  have HP := Lib.hid (rput5 p n m (s : Int) w1 (by omega) (by omega))
  rw [Int.toNat_natCast] at HP
  with_reducible refine HP.out.mono ?_
  rintro e w2 ⟨rfl, hb⟩
  have K := kept_hid HA hb
  clear hb HP c0 c1 c2 c3 c4 c5 c6 c7
  go_wp2_with fail
  go_ret
  exact ⟨_, rfl, own_lit _ w.heap.size [29, put (num p n m s)] K.out.size (by show 2 < 1000000; decide), (kept_alloc K _).out⟩
set_option maxRecDepth 100000 in
set_option maxHeartbeats 4000000 in
theorem rput_3 (ad : Option Addr) (len cap z : Nat) (a : Nat) (w : World) (ha : a < z) (h2 : z ≤ 16383) :
    Calls Tryz.prog 34 #[.agg #[.int .i64 3, .slice ad len cap, .bool false, .bool false, .int .i64 0, .bool false, .int .i64 (a : Int), .int .u8 0], .int .i64 (z : Int)] w fun e w' => ∃ v, e = .returned v ∧ w'.ownsRow w.heap.size 5 1 v 3 (u8s [17, Adr.first a z, Adr.second a z]) ∧ Below w.heap.size w w' := by
  have HA := Lib.hid (al_any w (.cells #[.int .i64 3, .slice ad len cap, .bool false, .bool false, .int .i64 0, .bool false, .int .i64 (a : Int), .int .u8 0] 76))
  have HG := Lib.hid (heap_alloc_new w (.cells #[.int .i64 3, .slice ad len cap, .bool false, .bool false, .int .i64 0, .bool false, .int .i64 (a : Int), .int .u8 0] 76))
  go_enter Tryz.func34, Tryz.ntmps34
  go_upto_region 1 with (fail)
  generalize w.alloc (.cells #[.int .i64 3, .slice ad len cap, .bool false, .bool false, .int .i64 0, .bool false, .int .i64 (a : Int), .int .u8 0] 76) = w1 at HA HG ⊢
  obtain ⟨c0, c1, c2, c3, c4, c5, c6, c7⟩ := cells8 HG.out
  have l1 : w.heap.size < w1.heap.size := there_lt HG.out
  go_wp2_with fail
  with_reducible refine (rput4_any a z _ ha h2).mono ?_
  rintro e w2 ⟨v, rfl, ho, hb⟩
  have HO := Lib.hid (own_below (own_lit w1 w1.heap.size [17] (Nat.le_refl _) (by decide)) hb)
  have K := Lib.hid (kept_trans (al_any w1 (.cells (u8s [17]).toArray 5)) hb)
  obtain ⟨va, vc, rfl⟩ := own_form ho
  have HN := Lib.hid (own_nil ho)
  have HS := Lib.hid (bytes_src (own_bytes ho))
  clear ho hb c0 c1 c2 c3 c4 c5 c6 c7
  go_wp2_with (at_builtin; refine wpList_mark ?_)
  refine Lib.hid ?_
  refine append_own rfl (.tmp 30) (.tmp 34) rfl w1.heap.size _ 1 _ rfl HO.out va 2 vc [Adr.first a z, Adr.second a z] rfl rfl HN.out HS.out (by decide) K.out.size ?_
  intro v3 w3 hown hgr _
  have HO3 := Lib.hid (show w3.ownsRow w1.heap.size 5 1 v3 3 (u8s [17, Adr.first a z, Adr.second a z]) from hown)
  have K3 := kept_hid HA (below_own K.out hgr HO.out)
  obtain ⟨va3, vc3, rfl⟩ := own_form hown
  clear hown hgr HO K HS
  go_wp2_with fail
  go_ret
  exact ⟨_, rfl, own_mono HO3.out HA.out.size, K3.out⟩
set_option maxRecDepth 100000 in
set_option maxHeartbeats 4000000 in
theorem rput_4 (ad : Option Addr) (len cap z : Nat)  (w : World)  :
    Calls Tryz.prog 34 #[.agg #[.int .i64 4, .slice ad len cap, .bool false, .bool false, .int .i64 0, .bool false, .int .i64 0, .int .u8 0], .int .i64 (z : Int)] w fun e w' => ∃ v, e = .returned v ∧ w'.ownsRow w.heap.size 5 1 v 1 (u8s [19]) ∧ Below w.heap.size w w' := by
  have HA := Lib.hid (al_any w (.cells #[.int .i64 4, .slice ad len cap, .bool false, .bool false, .int .i64 0, .bool false, .int .i64 0, .int .u8 0] 76))
  have HG := Lib.hid (heap_alloc_new w (.cells #[.int .i64 4, .slice ad len cap, .bool false, .bool false, .int .i64 0, .bool false, .int .i64 0, .int .u8 0] 76))
  go_enter Tryz.func34, Tryz.ntmps34
  go_upto_region 1 with (fail)
  generalize w.alloc (.cells #[.int .i64 4, .slice ad len cap, .bool false, .bool false, .int .i64 0, .bool false, .int .i64 0, .int .u8 0] 76) = w1 at HA HG ⊢
  obtain ⟨c0, c1, c2, c3, c4, c5, c6, c7⟩ := cells8 HG.out
  have l1 : w.heap.size < w1.heap.size := there_lt HG.out
  go_wp2_with fail
  go_ret
  exact ⟨_, rfl, own_lit w1 w.heap.size [19] HA.out.size (by decide), (kept_alloc HA _).out⟩
set_option maxRecDepth 100000 in
set_option maxHeartbeats 4000000 in
theorem rput_5 (ad : Option Addr) (len cap z : Nat)  (w : World)  :
    Calls Tryz.prog 34 #[.agg #[.int .i64 5, .slice ad len cap, .bool false, .bool false, .int .i64 0, .bool false, .int .i64 0, .int .u8 0], .int .i64 (z : Int)] w fun e w' => ∃ v, e = .returned v ∧ w'.ownsRow w.heap.size 5 1 v 1 (u8s [5]) ∧ Below w.heap.size w w' := by
  have HA := Lib.hid (al_any w (.cells #[.int .i64 5, .slice ad len cap, .bool false, .bool false, .int .i64 0, .bool false, .int .i64 0, .int .u8 0] 76))
  have HG := Lib.hid (heap_alloc_new w (.cells #[.int .i64 5, .slice ad len cap, .bool false, .bool false, .int .i64 0, .bool false, .int .i64 0, .int .u8 0] 76))
  go_enter Tryz.func34, Tryz.ntmps34
  go_upto_region 1 with (fail)
  generalize w.alloc (.cells #[.int .i64 5, .slice ad len cap, .bool false, .bool false, .int .i64 0, .bool false, .int .i64 0, .int .u8 0] 76) = w1 at HA HG ⊢
  obtain ⟨c0, c1, c2, c3, c4, c5, c6, c7⟩ := cells8 HG.out
  have l1 : w.heap.size < w1.heap.size := there_lt HG.out
  go_wp2_with fail
  go_ret
  exact ⟨_, rfl, own_lit w1 w.heap.size [5] HA.out.size (by decide), (kept_alloc HA _).out⟩
set_option maxRecDepth 100000 in
set_option maxHeartbeats 4000000 in
theorem rput_7 (ad : Option Addr) (len cap z : Nat) (a : Nat) (w : World) (ha : a < z) (h2 : z ≤ 16383) :
    Calls Tryz.prog 34 #[.agg #[.int .i64 7, .slice ad len cap, .bool false, .bool false, .int .i64 0, .bool false, .int .i64 (a : Int), .int .u8 0], .int .i64 (z : Int)] w fun e w' => ∃ v, e = .returned v ∧ w'.ownsRow w.heap.size 5 1 v 3 (u8s [18, Adr.first a z, Adr.second a z]) ∧ Below w.heap.size w w' := by
  have HA := Lib.hid (al_any w (.cells #[.int .i64 7, .slice ad len cap, .bool false, .bool false, .int .i64 0, .bool false, .int .i64 (a : Int), .int .u8 0] 76))
  have HG := Lib.hid (heap_alloc_new w (.cells #[.int .i64 7, .slice ad len cap, .bool false, .bool false, .int .i64 0, .bool false, .int .i64 (a : Int), .int .u8 0] 76))
  go_enter Tryz.func34, Tryz.ntmps34
  go_upto_region 1 with (fail)
  generalize w.alloc (.cells #[.int .i64 7, .slice ad len cap, .bool false, .bool false, .int .i64 0, .bool false, .int .i64 (a : Int), .int .u8 0] 76) = w1 at HA HG ⊢
  obtain ⟨c0, c1, c2, c3, c4, c5, c6, c7⟩ := cells8 HG.out
  have l1 : w.heap.size < w1.heap.size := there_lt HG.out
  go_wp2_with fail
  with_reducible refine (rput4_any a z _ ha h2).mono ?_
  rintro e w2 ⟨v, rfl, ho, hb⟩
  have HO := Lib.hid (own_below (own_lit w1 w1.heap.size [18] (Nat.le_refl _) (by decide)) hb)
  have K := Lib.hid (kept_trans (al_any w1 (.cells (u8s [18]).toArray 5)) hb)
  obtain ⟨va, vc, rfl⟩ := own_form ho
  have HN := Lib.hid (own_nil ho)
  have HS := Lib.hid (bytes_src (own_bytes ho))
  clear ho hb c0 c1 c2 c3 c4 c5 c6 c7
  go_wp2_with (at_builtin; refine wpList_mark ?_)
  refine Lib.hid ?_
  refine append_own rfl (.tmp 39) (.tmp 43) rfl w1.heap.size _ 1 _ rfl HO.out va 2 vc [Adr.first a z, Adr.second a z] rfl rfl HN.out HS.out (by decide) K.out.size ?_
  intro v3 w3 hown hgr _
  have HO3 := Lib.hid (show w3.ownsRow w1.heap.size 5 1 v3 3 (u8s [18, Adr.first a z, Adr.second a z]) from hown)
  have K3 := kept_hid HA (below_own K.out hgr HO.out)
  obtain ⟨va3, vc3, rfl⟩ := own_form hown
  clear hown hgr HO K HS
  go_wp2_with fail
  go_ret
  exact ⟨_, rfl, own_mono HO3.out HA.out.size, K3.out⟩
set_option maxRecDepth 100000 in
set_option maxHeartbeats 4000000 in
theorem rput_6 (ad : Option Addr) (len cap z : Nat) (a c : Nat) (w : World) (ha : a < z) (h2 : z ≤ 16383) :
    Calls Tryz.prog 34 #[.agg #[.int .i64 6, .slice ad len cap, .bool false, .bool false, .int .i64 0, .bool false, .int .i64 (a : Int), .int .u8 (c : Int)], .int .i64 (z : Int)] w fun e w' => ∃ v, e = .returned v ∧ w'.ownsRow w.heap.size 5 1 v 4 (u8s [60, Adr.first a z, Adr.second a z, c]) ∧ Below w.heap.size w w' := by
  have HA := Lib.hid (al_any w (.cells #[.int .i64 6, .slice ad len cap, .bool false, .bool false, .int .i64 0, .bool false, .int .i64 (a : Int), .int .u8 (c : Int)] 76))
  have HG := Lib.hid (heap_alloc_new w (.cells #[.int .i64 6, .slice ad len cap, .bool false, .bool false, .int .i64 0, .bool false, .int .i64 (a : Int), .int .u8 (c : Int)] 76))
  go_enter Tryz.func34, Tryz.ntmps34
  go_upto_region 1 with (fail)
  generalize w.alloc (.cells #[.int .i64 6, .slice ad len cap, .bool false, .bool false, .int .i64 0, .bool false, .int .i64 (a : Int), .int .u8 (c : Int)] 76) = w1 at HA HG ⊢
  obtain ⟨c0, c1, c2, c3, c4, c5, c6, c7⟩ := cells8 HG.out
  have l1 : w.heap.size < w1.heap.size := there_lt HG.out
  go_wp2_with fail
  have C1 := Lib.hid fun W => rput4_any a z W ha h2
  clear ha h2 l1
  go_region_held3 (fun w' => Below w1.heap.size w1 w' ∧ w'.cell? ⟨w.heap.size, 6, none⟩ = some (.int .i64 (a : Int)) ∧ w'.cell? ⟨w.heap.size, 7, none⟩ = some (.int .u8 (c : Int)))
    (first | exact two67 HG.out (Below.refl _ _).drew | exact two67 HG.out (Below.refl _ _) | exact two67 HG.out hB5 | exact two67 HG.out hB4 | exact two67 HG.out (kept_trans (And.left (by assumption)) hb) | exact two67 HG.out (kept_trans (And.left (by assumption)) (al_any _ _)))
    (first
      | (go_at_call 36; with_reducible refine (C1.out _).mono ?_; rintro e wa ⟨v, rfl, ho, hb⟩; obtain ⟨va, vc, rfl⟩ := own_form ho; obtain ⟨ga, rfl, _, _⟩ := own_at0 ho (show 0 < 2 by decide); have hby := own_bytes ho; clear ho)
      | (refine step_app rfl (.tmp 45) (.tmp 49) rfl w1.heap.size 1 [60] (.slice (some ⟨_, 0, none⟩) 1 1) rfl ?_ _ 2 _ [Adr.first a z, Adr.second a z] rfl rfl ?_ (by decide) (by decide) ?_ ?_
         · (try refine own_below ?_ (dr_any _)); (try refine own_below ?_ hb); (try refine own_below ?_ (dr_any _))
           first | (first | (refine own_lit _ _ [60] ?_ ?_; (first | exact Nat.le_refl _ | exact Nat.le_succ _ | (have hq := hb.size; simp at hq ⊢; omega)); decide) | (refine own_lit1 _ _ _ [60] ?_ ?_; (first | exact Nat.le_refl _ | exact Nat.le_succ _ | (have hq := hb.size; simp at hq ⊢; omega)); decide)) | (refine own_below ?_ (al_any _ _); (try refine own_below ?_ (dr_any _)); (try refine own_below ?_ hb); (try refine own_below ?_ (dr_any _)); first | (refine own_lit _ _ [60] ?_ ?_; (first | exact Nat.le_refl _ | exact Nat.le_succ _ | (have hq := hb.size; simp at hq ⊢; omega)); decide) | (refine own_lit1 _ _ _ [60] ?_ ?_; (first | exact Nat.le_refl _ | exact Nat.le_succ _ | (have hq := hb.size; simp at hq ⊢; omega)); decide))
         · (try refine bytes_below ?_ (dr_any _))
           first | exact hby | exact bytes_below hby (al_any _ _) | exact bytes_below (bytes_below hby (al_any _ _)) (al_any _ _)
         · exact (And.left (by assumption : Below w1.heap.size w1 _ ∧ _)).size
         intro v4 w4 hown hgr h60
         have hB4 := below_own (And.left (by assumption : Below w1.heap.size w1 _ ∧ _)) hgr h60
         have hgr4 := hgr
         clear h60 hgr)
      | (refine step_app rfl (.tmp 50) (.tmp 53) rfl w1.heap.size (1 + 2) ([60] ++ [Adr.first a z, Adr.second a z]) v4 rfl ?_ _ 1 _ [c] rfl rfl ?_ (by decide) (by decide) ?_ ?_
         · first | exact hown | exact own_below hown (al_any _ _)
         · first
           | exact lit_in _ [c]
           | (refine bytes_row ?_ hgr4 ?_; ((try refine bytes_below ?_ (dr_any _)); (try refine bytes_below ?_ hb); (try refine bytes_below ?_ (dr_any _)); first | (first | exact lit_in _ [c] | exact lit_in1 _ _ [c]) | (refine bytes_below ?_ (al_any _ _); (try refine bytes_below ?_ (dr_any _)); (try refine bytes_below ?_ hb); (try refine bytes_below ?_ (dr_any _)); first | exact lit_in _ [c] | exact lit_in1 _ _ [c])); (intro e; simp [Value.ownBlock] at e; try (have hq := hb.size; simp at hq; omega)))
         · exact (And.left (by assumption : Below w1.heap.size w1 _ ∧ _)).size
         intro v5 w5 hown5 hgr h60
         have hB5 := below_own (And.left (by assumption : Below w1.heap.size w1 _ ∧ _)) hgr h60
         clear h60 hgr))
  all_goals
    have HO := Lib.hid (show w5.ownsRow w1.heap.size 5 1 v5 4 (u8s [60, Adr.first a z, Adr.second a z, c]) from hown5)
    have HB5 := Lib.hid hB5
    obtain ⟨va5, vc5, rfl⟩ := own_form HO.out
    clear hB5 hB4 hown hown5 hby hgr4 hb c0 c1 c2 c3 c4 c5 c6 c7 HG
    go_wp2_with fail
    go_ret
    exact ⟨_, rfl, own_mono HO.out HA.out.size, (kept_hid HA HB5.out).out⟩
/-- The document's Put of an order that isn't wrong. -/
theorem rput_right (o : O) (ad : Option Addr) (len cap z : Nat) (w : World) (hB : BytesIn w (.slice ad len cap) o.t) (hl : o.t.length < 1000000) (hn : ad = none → len = 0 ∧ cap = 0) (h0 : wrong o z = 0) (h2 : z ≤ 16383) :
    Calls Tryz.prog 34 #[.agg #[.int .i64 o.k, .slice ad len cap, .bool o.p, .bool o.n, .int .i64 o.s, .bool o.m, .int .i64 o.a, .int .u8 (o.c : Int)], .int .i64 (z : Int)] w fun e w' => ∃ v, e = .returned v ∧ w'.ownsRow w.heap.size 5 1 v (obytes o z).length (u8s (obytes o z)) ∧ Below w.heap.size w w' := by
  rcases right_cases h0 with ⟨t, rfl, _, _⟩ | ⟨p, n, m, s, rfl, hs⟩ | ⟨a, rfl, ha⟩ | rfl | rfl | ⟨a, c, rfl, ha, _⟩ | ⟨a, rfl, ha⟩
  · exact rput_1 ad len cap z t w hB hn hl
  · exact rput_2 ad len cap z p n m s w hs
  · exact rput_3 ad len cap z a w ha h2
  · exact rput_4 ad len cap z w
  · exact rput_5 ad len cap z w
  · exact rput_6 ad len cap z a c w ha h2
  · exact rput_7 ad len cap z a w ha h2
end Ord
end Go.Proofs.YtpdlpmbjhopnnaaGreatDoor
