/- putBehind of package stream. -/
import Derived.Test.YtmllmmamdkjndaaDoorStrMem
import Derived.Test.YtmllmmamdkjndaaDoorBunOrd
namespace Go.Proofs.YtmllmmamdkjndaaDoor
open Go.RowKit Sha Cut Err Six Att
namespace Str
open Go.Proofs.YtmllmmamdkjndaaDoor.Ord
theorem wrong_text_1 {o : O} {z : Nat} (h : o.k = 1) : wrong o z = 0 ∨ wrong o z = 1 := by
  unfold wrong
  simp only [h]
  repeat' split
  all_goals first | (exact .inl rfl) | (exact .inr rfl) | omega
set_option maxHeartbeats 1000000 in
theorem behind_ok (b : Int) (o : O) (ad : Option Addr) (len cap z : Nat) (w : World) (hB : BytesIn w (.slice ad len cap) o.t) (h8 : ∀ x ∈ o.t, x < 256) (hl : o.t.length < 1000000) (hn : ad = none → len = 0 ∧ cap = 0) (hc : o.c < 256) (h0 : wrong o z = 0) (hp : ¬ (b = 1 ∧ o.k = 1)) (h1 : 1 ≤ z) (h2 : z ≤ 16383) :
    Calls Tryd.prog 35 #[.int .i64 b, .agg #[.int .i64 o.k, .slice ad len cap, .bool o.p, .bool o.n, .int .i64 o.s, .bool o.m, .int .i64 o.a, .int .u8 (o.c : Int)], .int .i64 (z : Int)] w fun e w' => ∃ v, e = .returned (.tuple #[v, .nilIface]) ∧ w'.ownsRow w.heap.size 5 1 v (obytes o z).length (u8s (obytes o z)) ∧ Below w.heap.size w w' := by
  obtain ⟨k, t, p, n, s, m, a, c⟩ := o
  simp only at hB h8 hl hc hp ⊢
  have HA := Lib.hid (al_any w (.cells #[.int .i64 k, .slice ad len cap, .bool p, .bool n, .int .i64 s, .bool m, .int .i64 a, .int .u8 (c : Int)] 51))
  have HP := fun W hb => put_right ⟨k, t, p, n, s, m, a, c⟩ ad len cap z W (bytes_below hB hb) h8 hl hn hc h0 h1 h2
  generalize obytes ⟨k, t, p, n, s, m, a, c⟩ z = bs at HP ⊢
  simp only at HP
  have HP := Lib.hid HP
  clear hB h8 hl hn hc h0 h1 h2
  by_cases hb1 : b = 1
  · have hk : (k == 1) = false := by simp; intro h; exact hp ⟨hb1, h⟩
    subst hb1
    clear hp
    go_enter Tryd.func35, Tryd.ntmps35
    go_wp2_with fail
    generalize w.alloc (.cells #[.int .i64 k, .slice ad len cap, .bool p, .bool n, .int .i64 s, .bool m, .int .i64 a, .int .u8 (c : Int)] 51) = w1 at *
    with_reducible refine (HP.out _ HA.out).mono ?_
    rintro e w2 ⟨v, rfl, ho, hb⟩
    have HO := Lib.hid (own_mono ho HA.out.size)
    have HK := kept_hid HA hb
    clear ho hb HP
    go_wp2_with fail
    go_ret2
    exact ⟨_, rfl, HO.out, HK.out⟩
  · have hb2 : (b == 1) = false := by simp [hb1]
    clear hp hb1
    go_enter Tryd.func35, Tryd.ntmps35
    go_wp2_with fail
    generalize w.alloc (.cells #[.int .i64 k, .slice ad len cap, .bool p, .bool n, .int .i64 s, .bool m, .int .i64 a, .int .u8 (c : Int)] 51) = w1 at *
    with_reducible refine (HP.out _ HA.out).mono ?_
    rintro e w2 ⟨v, rfl, ho, hb⟩
    have HO := Lib.hid (own_mono ho HA.out.size)
    have HK := kept_hid HA hb
    clear ho hb HP
    go_wp2_with fail
    go_ret2
    exact ⟨_, rfl, HO.out, HK.out⟩
set_option maxHeartbeats 1000000 in
theorem behind_bad (b : Int) (o : O) (ad : Option Addr) (len cap z : Nat) (w : World) (hB : BytesIn w (.slice ad len cap) o.t) (h8 : ∀ x ∈ o.t, x < 256) (hl : o.t.length < 1000000) (hc : o.c < 256) (h0 : wrong o z ≠ 0) (h1 : 1 ≤ z) (h2 : z ≤ 16383) :
    Calls Tryd.prog 35 #[.int .i64 b, .agg #[.int .i64 o.k, .slice ad len cap, .bool o.p, .bool o.n, .int .i64 o.s, .bool o.m, .int .i64 o.a, .int .u8 (o.c : Int)], .int .i64 (z : Int)] w fun e w' => e = .returned (.tuple #[.slice none 0 0, .iface 55 (.int .i64 (wrong o z : Nat))]) ∧ Below w.heap.size w w' := by
  obtain ⟨k, t, p, n, s, m, a, c⟩ := o
  simp only at hB h8 hl hc ⊢
  have HA := Lib.hid (al_any w (.cells #[.int .i64 k, .slice ad len cap, .bool p, .bool n, .int .i64 s, .bool m, .int .i64 a, .int .u8 (c : Int)] 51))
  have HP := fun W hb => put_wrong ⟨k, t, p, n, s, m, a, c⟩ ad len cap z W (bytes_below hB hb) h8 hl hc h0 h1 h2
  have HT := Lib.hid (show k = 1 → wrong ⟨k, t, p, n, s, m, a, c⟩ z = 1 from fun hk => by
    rcases wrong_text_1 (o := ⟨k, t, p, n, s, m, a, c⟩) (z := z) hk with h | h
    · exact absurd h h0
    · exact h)
  generalize wrong ⟨k, t, p, n, s, m, a, c⟩ z = u at HP HT h0 ⊢
  simp only at HP
  have HP := Lib.hid HP
  clear hB h8 hl hc h0 h1 h2
  by_cases hb1 : b = 1
  · subst hb1
    by_cases hk1 : k = 1
    · have hu := HT.out hk1
      subst hk1 hu
      go_enter Tryd.func35, Tryd.ntmps35
      go_wp2_with fail
      go_ret2
      exact ⟨rfl, HA.out⟩
    · have hk : (k == 1) = false := by simp [hk1]
      clear hk1
      go_enter Tryd.func35, Tryd.ntmps35
      go_wp2_with fail
      generalize w.alloc (.cells #[.int .i64 k, .slice ad len cap, .bool p, .bool n, .int .i64 s, .bool m, .int .i64 a, .int .u8 (c : Int)] 51) = w1 at *
      with_reducible refine (HP.out _ HA.out).mono ?_
      rintro e w2 ⟨rfl, hb⟩
      have HK := kept_hid HA hb
      clear hb HP
      go_wp2_with fail
      go_ret2
      exact ⟨rfl, HK.out⟩
  · have hb2 : (b == 1) = false := by simp [hb1]
    clear hb1
    go_enter Tryd.func35, Tryd.ntmps35
    go_wp2_with fail
    generalize w.alloc (.cells #[.int .i64 k, .slice ad len cap, .bool p, .bool n, .int .i64 s, .bool m, .int .i64 a, .int .u8 (c : Int)] 51) = w1 at *
    with_reducible refine (HP.out _ HA.out).mono ?_
    rintro e w2 ⟨rfl, hb⟩
    have HK := kept_hid HA hb
    clear hb HP
    go_wp2_with fail
    go_ret2
    exact ⟨rfl, HK.out⟩
set_option maxHeartbeats 1000000 in
/-- Characters behind characters. -/
theorem behind_text (b : Int) (o : O) (ad : Option Addr) (len cap : Nat) (z : Int) (w : World) (hb : b = 1) (hk : o.k = 1) :
    Calls Tryd.prog 35 #[.int .i64 b, .agg #[.int .i64 o.k, .slice ad len cap, .bool o.p, .bool o.n, .int .i64 o.s, .bool o.m, .int .i64 o.a, .int .u8 (o.c : Int)], .int .i64 z] w fun e w' => e = .returned (.tuple #[.slice none 0 0, .iface 55 (.int .i64 1)]) ∧ Below w.heap.size w w' := by
  obtain ⟨k, t, p, n, s, m, a, c⟩ := o
  simp only at hk ⊢
  subst hk hb
  have HA := Lib.hid (al_any w (.cells #[.int .i64 1, .slice ad len cap, .bool p, .bool n, .int .i64 s, .bool m, .int .i64 a, .int .u8 (c : Int)] 51))
  go_enter Tryd.func35, Tryd.ntmps35
  go_wp2_with fail
  go_ret2
  exact ⟨rfl, HA.out⟩
end Str
end Go.Proofs.YtmllmmamdkjndaaDoor
