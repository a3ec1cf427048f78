/- Right of package order. Written by tools/gen_ord_right.py. -/
import Derived.Test.YtllpmgddcpgegaaOrdText
import Derived.Test.YtllpmgddcpgegaaAttrLeaf
import Derived.Test.YtllpmgddcpgegaaAddrPutAll
import Derived.Deep.RegionHeld3
import Derived.Test.YtllpmgddcpgegaaBlk
namespace Go.Proofs.Ytllpmgddcpgegaa
open Go.RowKit Sha Cut Err Six Att
namespace Ord
theorem int_cases (s : Int) (n : Nat) : (s < 0 ∨ (n : Int) ≤ s) ∨ ∃ u : Nat, s = u ∧ u < n := by
  by_cases h : s < 0 ∨ (n : Int) ≤ s
  · exact .inl h
  · obtain ⟨u, rfl⟩ := Int.eq_ofNat_of_zero_le (a := s) (by omega)
    exact .inr ⟨u, rfl, by omega⟩
theorem errv_0 : errv 0 = .nilIface := rfl
theorem errv_1 : errv 1 = .iface 60 (.int .i64 1) := rfl
theorem errv_4 : errv 4 = .iface 60 (.int .i64 4) := rfl
theorem errv_5 : errv 5 = .iface 60 (.int .i64 5) := rfl
theorem bytes_nil (w : World) : BytesIn w (.slice none 0 0) [] := ⟨none, 0, rfl, Nat.le_refl _, .inl rfl⟩
set_option maxRecDepth 100000 in
set_option maxHeartbeats 4000000 in
theorem right_1 (ad : Option Addr) (len cap : Nat) (t : List Nat) (p n : Bool) (s : Int) (m : Bool) (a : Int) (c z : Nat) (w : World) (hB : BytesIn w (.slice ad len cap) t) (h8 : ∀ x ∈ t, x < 256) (hl : t.length < 1000000) (_hc : c < 256) (_h1 : 1 ≤ z) (_h2 : z ≤ 16383) :
    Calls Try.prog 16 #[.agg #[.int .i64 1, .slice ad len cap, .bool p, .bool n, .int .i64 s, .bool m, .int .i64 a, .int .u8 (c : Int)], .int .i64 (z : Int)] w fun e w' => e = .returned (errv (wrong ⟨1, t, p, n, s, m, a, c⟩ z)) ∧ Below w.heap.size w w' := by
  have HW : Hid (wrong ⟨1, t, p, n, s, m, a, c⟩ z = if same ⟨1, t, p, n, s, m, a, c⟩ (own ⟨1, t, p, n, s, m, a, c⟩) = false then 1 else tcode t) := by
    show wrong _ z = _
    unfold wrong tcode
    rw [if_neg (by simp)]
    simp
  have HA : Hid (Below w.heap.size w (w.alloc (.cells #[.int .i64 1, .slice ad len cap, .bool p, .bool n, .int .i64 s, .bool m, .int .i64 a, .int .u8 (c : Int)] 26))) := (Below.refl _ _).alloc (Nat.le_refl _) _
  have HG := Lib.hid (heap_alloc_new w (.cells #[.int .i64 1, .slice ad len cap, .bool p, .bool n, .int .i64 s, .bool m, .int .i64 a, .int .u8 (c : Int)] 26))
  have HO := Lib.hid fun W => own_1 ad len cap p n s m a (c : Int) W
  have HS := Lib.hid fun W hb => same_any ⟨1, t, p, n, s, m, a, c⟩ ⟨1, t, false, false, 0, false, 0, 0⟩ ad len cap ad len cap W (bytes_below hB hb) (bytes_below hB hb) h8 h8 hl
  have e0 : own ⟨1, t, p, n, s, m, a, c⟩ = ⟨1, t, false, false, 0, false, 0, 0⟩ := rfl
  rw [e0] at HW
  have e1 : ((0 : Nat) : Int) = 0 := rfl
  simp only [e1] at HS
  clear e1
  generalize same ⟨1, t, p, n, s, m, a, c⟩ ⟨1, t, false, false, 0, false, 0, 0⟩ = b at HW HS
  clear e0
  have HB := Lib.hid hB
  have H8 := Lib.hid h8
  clear hB h8
  go_enter Try.func16, Try.ntmps16
  go_wp2_with fail
  generalize w.alloc (.cells #[.int .i64 1, .slice ad len cap, .bool p, .bool n, .int .i64 s, .bool m, .int .i64 a, .int .u8 (c : Int)] 26) = w1 at HA HG ⊢
  go_region_held3 (fun w' => Below w1.heap.size w1 w' ∧ w'.cell? ⟨w.heap.size, 0, none⟩ = some (.int .i64 1) ∧ w'.cell? ⟨w.heap.size, 1, none⟩ = some (.slice ad len cap) ∧ w'.cell? ⟨w.heap.size, 2, none⟩ = some (.bool p) ∧ w'.cell? ⟨w.heap.size, 3, none⟩ = some (.bool n) ∧ w'.cell? ⟨w.heap.size, 4, none⟩ = some (.int .i64 s) ∧ w'.cell? ⟨w.heap.size, 5, none⟩ = some (.bool m) ∧ w'.cell? ⟨w.heap.size, 6, none⟩ = some (.int .i64 a) ∧ w'.cell? ⟨w.heap.size, 7, none⟩ = some (.int .u8 (c : Int)))
    (first | exact held8 HG.out (Below.refl _ _).drew | exact held8 HG.out (Below.refl _ _) | exact held8 HG.out (kept_trans (And.left (by assumption)) hb))
    (first
      | (go_at_call 27; with_reducible refine (HO.out _).mono ?_; rintro e wa ⟨rfl, hb⟩)
      | (go_at_call 10; with_reducible refine (HS.out _ (kept_trans HA.out (And.left (by assumption)))).mono ?_; rintro e wb ⟨rfl, hb⟩))
  have hS := And.left (by assumption : Below w1.heap.size w1 _ ∧ _)
  have H2 := kept_hid HA hS
  clear HO HS
  cases b with
  | false =>
    replace HW := Lib.hid (show wrong ⟨1, t, p, n, s, m, a, c⟩ z = 1 by have := HW.out; simp at this; exact this)
    clear hS
    go_wp2_with fail
    go_ret
    rw [HW.out, errv_1]
    exact ⟨rfl, H2.out⟩
  | true =>
    obtain ⟨_, c0, c1, c2, c3, c4, c5, c6, c7⟩ := held8 HG.out hS
    by_cases ht : t = []
    · replace HW := Lib.hid (show wrong ⟨1, t, p, n, s, m, a, c⟩ z = 1 by have := HW.out; simp at this; rw [this]; unfold tcode; rw [if_pos (.inl ht)])
      have HB0 := HB.out
      obtain ⟨ad', cap', hv, _⟩ := HB0
      injection hv with e1 e2 e3
      rw [ht] at e2
      simp only [List.length_nil] at e2
      subst e2
      clear ht
      go_wp2_with fail
      with_reducible refine (text_empty _ _ _).mono ?_
      rintro e w5 ⟨rfl, rfl⟩
      go_wp2_with fail
      go_ret
      rw [HW.out, errv_1]
      exact ⟨rfl, H2.out⟩
    · have HT := Lib.hid fun W hb => text_any ad len cap t W (bytes_below HB.out hb) H8.out hl ht
      replace HW := Lib.hid (show wrong ⟨1, t, p, n, s, m, a, c⟩ z = tcode t by have := HW.out; simpa using this)
      clear ht
      go_wp2_with fail
      with_reducible refine (HT.out _ H2.out).mono ?_
      rintro e w5 ⟨rfl, rfl⟩
      rcases (show tcode t = 0 ∨ tcode t = 1 by unfold tcode; split <;> simp) with e1 | e1
      · rw [e1, errv_0]
        rw [e1] at HW
        go_wp2_with fail
        go_ret
        rw [HW.out, errv_0]
        exact ⟨rfl, H2.out⟩
      · rw [e1, errv_1]
        rw [e1] at HW
        go_wp2_with fail
        go_ret
        rw [HW.out, errv_1]
        exact ⟨rfl, H2.out⟩
set_option maxRecDepth 100000 in
set_option maxHeartbeats 4000000 in
theorem right_2 (ad : Option Addr) (len cap : Nat) (t : List Nat) (p n : Bool) (s : Int) (m : Bool) (a : Int) (c z : Nat) (w : World) (hB : BytesIn w (.slice ad len cap) t) (h8 : ∀ x ∈ t, x < 256) (hl : t.length < 1000000) (_hc : c < 256) (_h1 : 1 ≤ z) (_h2 : z ≤ 16383) :
    Calls Try.prog 16 #[.agg #[.int .i64 2, .slice ad len cap, .bool p, .bool n, .int .i64 s, .bool m, .int .i64 a, .int .u8 (c : Int)], .int .i64 (z : Int)] w fun e w' => e = .returned (errv (wrong ⟨2, t, p, n, s, m, a, c⟩ z)) ∧ Below w.heap.size w w' := by
  have HW : Hid (wrong ⟨2, t, p, n, s, m, a, c⟩ z = if same ⟨2, t, p, n, s, m, a, c⟩ (own ⟨2, t, p, n, s, m, a, c⟩) = false then 1 else if s < 0 ∨ 4 ≤ s then 1 else 0) := by
    show wrong _ z = _
    unfold wrong
    rw [if_neg (by simp)]
    simp
  have HA : Hid (Below w.heap.size w (w.alloc (.cells #[.int .i64 2, .slice ad len cap, .bool p, .bool n, .int .i64 s, .bool m, .int .i64 a, .int .u8 (c : Int)] 26))) := (Below.refl _ _).alloc (Nat.le_refl _) _
  have HG := Lib.hid (heap_alloc_new w (.cells #[.int .i64 2, .slice ad len cap, .bool p, .bool n, .int .i64 s, .bool m, .int .i64 a, .int .u8 (c : Int)] 26))
  have HO := Lib.hid fun W => own_2 ad len cap p n s m a (c : Int) W
  have HS := Lib.hid fun W hb => same_any ⟨2, t, p, n, s, m, a, c⟩ ⟨2, [], p, n, s, m, 0, 0⟩ ad len cap none 0 0 W (bytes_below hB hb) (bytes_nil _) h8 (by simp) hl
  have e0 : own ⟨2, t, p, n, s, m, a, c⟩ = ⟨2, [], p, n, s, m, 0, 0⟩ := rfl
  rw [e0] at HW
  have e1 : ((0 : Nat) : Int) = 0 := rfl
  simp only [e1] at HS
  clear e1
  generalize same ⟨2, t, p, n, s, m, a, c⟩ ⟨2, [], p, n, s, m, 0, 0⟩ = b at HW HS
  clear e0
  clear hB h8
  go_enter Try.func16, Try.ntmps16
  go_wp2_with fail
  generalize w.alloc (.cells #[.int .i64 2, .slice ad len cap, .bool p, .bool n, .int .i64 s, .bool m, .int .i64 a, .int .u8 (c : Int)] 26) = w1 at HA HG ⊢
  go_region_held3 (fun w' => Below w1.heap.size w1 w' ∧ w'.cell? ⟨w.heap.size, 0, none⟩ = some (.int .i64 2) ∧ w'.cell? ⟨w.heap.size, 1, none⟩ = some (.slice ad len cap) ∧ w'.cell? ⟨w.heap.size, 2, none⟩ = some (.bool p) ∧ w'.cell? ⟨w.heap.size, 3, none⟩ = some (.bool n) ∧ w'.cell? ⟨w.heap.size, 4, none⟩ = some (.int .i64 s) ∧ w'.cell? ⟨w.heap.size, 5, none⟩ = some (.bool m) ∧ w'.cell? ⟨w.heap.size, 6, none⟩ = some (.int .i64 a) ∧ w'.cell? ⟨w.heap.size, 7, none⟩ = some (.int .u8 (c : Int)))
    (first | exact held8 HG.out (Below.refl _ _).drew | exact held8 HG.out (Below.refl _ _) | exact held8 HG.out (kept_trans (And.left (by assumption)) hb))
    (first
      | (go_at_call 27; with_reducible refine (HO.out _).mono ?_; rintro e wa ⟨rfl, hb⟩)
      | (go_at_call 10; with_reducible refine (HS.out _ (kept_trans HA.out (And.left (by assumption)))).mono ?_; rintro e wb ⟨rfl, hb⟩))
  have hS := And.left (by assumption : Below w1.heap.size w1 _ ∧ _)
  have H2 := kept_hid HA hS
  clear HO HS
  cases b with
  | false =>
    replace HW := Lib.hid (show wrong ⟨2, t, p, n, s, m, a, c⟩ z = 1 by have := HW.out; simp at this; exact this)
    clear hS
    go_wp2_with fail
    go_ret
    rw [HW.out, errv_1]
    exact ⟨rfl, H2.out⟩
  | true =>
    obtain ⟨_, c0, c1, c2, c3, c4, c5, c6, c7⟩ := held8 HG.out hS
    rcases int_cases s 4 with hs | ⟨u, rfl, hs⟩
    · replace HW := Lib.hid (show wrong ⟨2, t, p, n, s, m, a, c⟩ z = 1 by
          have := HW.out
          have hs' : s < 0 ∨ 4 ≤ s := by omega
          simpa [hs'] using this)
      have HP := Lib.hid fun W => put_bad p n m s W hs
      clear hs
      go_wp2_with fail
      with_reducible refine (HP.out _).mono ?_
      rintro e w5 ⟨rfl, hb5⟩
      have H5 := kept_hid H2 hb5
      clear hb5
      go_wp2_with fail
      go_ret
      rw [HW.out, errv_1]
      exact ⟨rfl, H5.out⟩
    · replace HW := Lib.hid (show wrong ⟨2, t, p, n, (u : Int), m, a, c⟩ z = 0 by
          have := HW.out
          have hu : ¬ ((u : Int) < 0 ∨ 4 ≤ (u : Int)) := by omega
          simpa [hu] using this)
      have HP := Lib.hid fun W => put_ok p n m u W hs
      clear hs
      go_wp2_with fail
      with_reducible refine (HP.out _).mono ?_
      rintro e w5 ⟨rfl, hb5⟩
      have H5 := kept_hid H2 hb5
      clear hb5
      go_wp2_with fail
      go_ret
      rw [HW.out, errv_0]
      exact ⟨rfl, H5.out⟩
set_option maxRecDepth 100000 in
set_option maxHeartbeats 4000000 in
theorem right_3 (ad : Option Addr) (len cap : Nat) (t : List Nat) (p n : Bool) (s : Int) (m : Bool) (a : Int) (c z : Nat) (w : World) (hB : BytesIn w (.slice ad len cap) t) (h8 : ∀ x ∈ t, x < 256) (hl : t.length < 1000000) (_hc : c < 256) (h1 : 1 ≤ z) (h2 : z ≤ 16383) :
    Calls Try.prog 16 #[.agg #[.int .i64 3, .slice ad len cap, .bool p, .bool n, .int .i64 s, .bool m, .int .i64 a, .int .u8 (c : Int)], .int .i64 (z : Int)] w fun e w' => e = .returned (errv (wrong ⟨3, t, p, n, s, m, a, c⟩ z)) ∧ Below w.heap.size w w' := by
  have HW : Hid (wrong ⟨3, t, p, n, s, m, a, c⟩ z = if same ⟨3, t, p, n, s, m, a, c⟩ (own ⟨3, t, p, n, s, m, a, c⟩) = false then 1 else if a < 0 ∨ (z : Int) ≤ a then 4 else 0) := by
    show wrong _ z = _
    unfold wrong
    rw [if_neg (by simp)]
    simp
  have HA : Hid (Below w.heap.size w (w.alloc (.cells #[.int .i64 3, .slice ad len cap, .bool p, .bool n, .int .i64 s, .bool m, .int .i64 a, .int .u8 (c : Int)] 26))) := (Below.refl _ _).alloc (Nat.le_refl _) _
  have HG := Lib.hid (heap_alloc_new w (.cells #[.int .i64 3, .slice ad len cap, .bool p, .bool n, .int .i64 s, .bool m, .int .i64 a, .int .u8 (c : Int)] 26))
  have HO := Lib.hid fun W => own_3 ad len cap p n s m a (c : Int) W
  have HS := Lib.hid fun W hb => same_any ⟨3, t, p, n, s, m, a, c⟩ ⟨3, [], false, false, 0, false, a, 0⟩ ad len cap none 0 0 W (bytes_below hB hb) (bytes_nil _) h8 (by simp) hl
  have e0 : own ⟨3, t, p, n, s, m, a, c⟩ = ⟨3, [], false, false, 0, false, a, 0⟩ := rfl
  rw [e0] at HW
  have e1 : ((0 : Nat) : Int) = 0 := rfl
  simp only [e1] at HS
  clear e1
  generalize same ⟨3, t, p, n, s, m, a, c⟩ ⟨3, [], false, false, 0, false, a, 0⟩ = b at HW HS
  clear e0
  clear hB h8
  go_enter Try.func16, Try.ntmps16
  go_wp2_with fail
  generalize w.alloc (.cells #[.int .i64 3, .slice ad len cap, .bool p, .bool n, .int .i64 s, .bool m, .int .i64 a, .int .u8 (c : Int)] 26) = w1 at HA HG ⊢
  go_region_held3 (fun w' => Below w1.heap.size w1 w' ∧ w'.cell? ⟨w.heap.size, 0, none⟩ = some (.int .i64 3) ∧ w'.cell? ⟨w.heap.size, 1, none⟩ = some (.slice ad len cap) ∧ w'.cell? ⟨w.heap.size, 2, none⟩ = some (.bool p) ∧ w'.cell? ⟨w.heap.size, 3, none⟩ = some (.bool n) ∧ w'.cell? ⟨w.heap.size, 4, none⟩ = some (.int .i64 s) ∧ w'.cell? ⟨w.heap.size, 5, none⟩ = some (.bool m) ∧ w'.cell? ⟨w.heap.size, 6, none⟩ = some (.int .i64 a) ∧ w'.cell? ⟨w.heap.size, 7, none⟩ = some (.int .u8 (c : Int)))
    (first | exact held8 HG.out (Below.refl _ _).drew | exact held8 HG.out (Below.refl _ _) | exact held8 HG.out (kept_trans (And.left (by assumption)) hb))
    (first
      | (go_at_call 27; with_reducible refine (HO.out _).mono ?_; rintro e wa ⟨rfl, hb⟩)
      | (go_at_call 10; with_reducible refine (HS.out _ (kept_trans HA.out (And.left (by assumption)))).mono ?_; rintro e wb ⟨rfl, hb⟩))
  have hS := And.left (by assumption : Below w1.heap.size w1 _ ∧ _)
  have H2 := kept_hid HA hS
  clear HO HS
  cases b with
  | false =>
    replace HW := Lib.hid (show wrong ⟨3, t, p, n, s, m, a, c⟩ z = 1 by have := HW.out; simp at this; exact this)
    clear hS
    go_wp2_with fail
    go_ret
    rw [HW.out, errv_1]
    exact ⟨rfl, H2.out⟩
  | true =>
    obtain ⟨_, c0, c1, c2, c3, c4, c5, c6, c7⟩ := held8 HG.out hS
    rcases int_cases a z with ha | ⟨u, rfl, ha⟩
    · replace HW := Lib.hid (show wrong ⟨3, t, p, n, s, m, a, c⟩ z = 4 by have := HW.out; simp only [if_pos ha] at this; simpa using this)
      go_wp2_with fail
      with_reducible refine (Adr.put_none a z _ h1 h2 ha).mono ?_
      rintro e w5 ⟨rfl, hb5⟩
      have H5 := kept_hid H2 hb5
      clear hb5
      go_wp2_with fail
      go_ret
      rw [HW.out, errv_4]
      exact ⟨rfl, (kept_alloc H5 _).out⟩
    · replace HW := Lib.hid (show wrong ⟨3, t, p, n, s, m, (u : Int), c⟩ z = 0 by have := HW.out; simp only [if_neg (show ¬ ((u : Int) < 0 ∨ (z : Int) ≤ (u : Int)) by omega)] at this; simpa using this)
      go_wp2_with fail
      with_reducible refine (Adr.put_all u z _ ha h2).mono ?_
      rintro e w5 ⟨rfl, hb5⟩
      have H5 := kept_hid H2 hb5
      clear hb5
      go_wp2_with fail
      go_ret
      rw [HW.out, errv_0]
      exact ⟨rfl, (kept_alloc H5 _).out⟩
set_option maxRecDepth 100000 in
set_option maxHeartbeats 4000000 in
theorem right_4 (ad : Option Addr) (len cap : Nat) (t : List Nat) (p n : Bool) (s : Int) (m : Bool) (a : Int) (c z : Nat) (w : World) (hB : BytesIn w (.slice ad len cap) t) (h8 : ∀ x ∈ t, x < 256) (hl : t.length < 1000000) (_hc : c < 256) (_h1 : 1 ≤ z) (_h2 : z ≤ 16383) :
    Calls Try.prog 16 #[.agg #[.int .i64 4, .slice ad len cap, .bool p, .bool n, .int .i64 s, .bool m, .int .i64 a, .int .u8 (c : Int)], .int .i64 (z : Int)] w fun e w' => e = .returned (errv (wrong ⟨4, t, p, n, s, m, a, c⟩ z)) ∧ Below w.heap.size w w' := by
  have HW : Hid (wrong ⟨4, t, p, n, s, m, a, c⟩ z = if same ⟨4, t, p, n, s, m, a, c⟩ (own ⟨4, t, p, n, s, m, a, c⟩) = false then 1 else 0) := by
    show wrong _ z = _
    unfold wrong
    rw [if_neg (by simp)]
    simp
  have HA : Hid (Below w.heap.size w (w.alloc (.cells #[.int .i64 4, .slice ad len cap, .bool p, .bool n, .int .i64 s, .bool m, .int .i64 a, .int .u8 (c : Int)] 26))) := (Below.refl _ _).alloc (Nat.le_refl _) _
  have HG := Lib.hid (heap_alloc_new w (.cells #[.int .i64 4, .slice ad len cap, .bool p, .bool n, .int .i64 s, .bool m, .int .i64 a, .int .u8 (c : Int)] 26))
  have HO := Lib.hid fun W => own_4 ad len cap p n s m a (c : Int) W
  have HS := Lib.hid fun W hb => same_any ⟨4, t, p, n, s, m, a, c⟩ ⟨4, [], false, false, 0, false, 0, 0⟩ ad len cap none 0 0 W (bytes_below hB hb) (bytes_nil _) h8 (by simp) hl
  have e0 : own ⟨4, t, p, n, s, m, a, c⟩ = ⟨4, [], false, false, 0, false, 0, 0⟩ := rfl
  rw [e0] at HW
  have e1 : ((0 : Nat) : Int) = 0 := rfl
  simp only [e1] at HS
  clear e1
  generalize same ⟨4, t, p, n, s, m, a, c⟩ ⟨4, [], false, false, 0, false, 0, 0⟩ = b at HW HS
  clear e0
  clear hB h8
  go_enter Try.func16, Try.ntmps16
  go_wp2_with fail
  generalize w.alloc (.cells #[.int .i64 4, .slice ad len cap, .bool p, .bool n, .int .i64 s, .bool m, .int .i64 a, .int .u8 (c : Int)] 26) = w1 at HA HG ⊢
  go_region_held3 (fun w' => Below w1.heap.size w1 w' ∧ w'.cell? ⟨w.heap.size, 0, none⟩ = some (.int .i64 4) ∧ w'.cell? ⟨w.heap.size, 1, none⟩ = some (.slice ad len cap) ∧ w'.cell? ⟨w.heap.size, 2, none⟩ = some (.bool p) ∧ w'.cell? ⟨w.heap.size, 3, none⟩ = some (.bool n) ∧ w'.cell? ⟨w.heap.size, 4, none⟩ = some (.int .i64 s) ∧ w'.cell? ⟨w.heap.size, 5, none⟩ = some (.bool m) ∧ w'.cell? ⟨w.heap.size, 6, none⟩ = some (.int .i64 a) ∧ w'.cell? ⟨w.heap.size, 7, none⟩ = some (.int .u8 (c : Int)))
    (first | exact held8 HG.out (Below.refl _ _).drew | exact held8 HG.out (Below.refl _ _) | exact held8 HG.out (kept_trans (And.left (by assumption)) hb))
    (first
      | (go_at_call 27; with_reducible refine (HO.out _).mono ?_; rintro e wa ⟨rfl, hb⟩)
      | (go_at_call 10; with_reducible refine (HS.out _ (kept_trans HA.out (And.left (by assumption)))).mono ?_; rintro e wb ⟨rfl, hb⟩))
  have hS := And.left (by assumption : Below w1.heap.size w1 _ ∧ _)
  have H2 := kept_hid HA hS
  clear HO HS
  cases b with
  | false =>
    replace HW := Lib.hid (show wrong ⟨4, t, p, n, s, m, a, c⟩ z = 1 by have := HW.out; simp at this; exact this)
    clear hS
    go_wp2_with fail
    go_ret
    rw [HW.out, errv_1]
    exact ⟨rfl, H2.out⟩
  | true =>
    obtain ⟨_, c0, c1, c2, c3, c4, c5, c6, c7⟩ := held8 HG.out hS
    replace HW := Lib.hid (show wrong ⟨4, t, p, n, s, m, a, c⟩ z = 0 by have := HW.out; simpa using this)
    go_wp2_with fail
    go_ret
    rw [HW.out, errv_0]
    exact ⟨rfl, H2.out⟩
set_option maxRecDepth 100000 in
set_option maxHeartbeats 4000000 in
theorem right_5 (ad : Option Addr) (len cap : Nat) (t : List Nat) (p n : Bool) (s : Int) (m : Bool) (a : Int) (c z : Nat) (w : World) (hB : BytesIn w (.slice ad len cap) t) (h8 : ∀ x ∈ t, x < 256) (hl : t.length < 1000000) (_hc : c < 256) (_h1 : 1 ≤ z) (_h2 : z ≤ 16383) :
    Calls Try.prog 16 #[.agg #[.int .i64 5, .slice ad len cap, .bool p, .bool n, .int .i64 s, .bool m, .int .i64 a, .int .u8 (c : Int)], .int .i64 (z : Int)] w fun e w' => e = .returned (errv (wrong ⟨5, t, p, n, s, m, a, c⟩ z)) ∧ Below w.heap.size w w' := by
  have HW : Hid (wrong ⟨5, t, p, n, s, m, a, c⟩ z = if same ⟨5, t, p, n, s, m, a, c⟩ (own ⟨5, t, p, n, s, m, a, c⟩) = false then 1 else 0) := by
    show wrong _ z = _
    unfold wrong
    rw [if_neg (by simp)]
    simp
  have HA : Hid (Below w.heap.size w (w.alloc (.cells #[.int .i64 5, .slice ad len cap, .bool p, .bool n, .int .i64 s, .bool m, .int .i64 a, .int .u8 (c : Int)] 26))) := (Below.refl _ _).alloc (Nat.le_refl _) _
  have HG := Lib.hid (heap_alloc_new w (.cells #[.int .i64 5, .slice ad len cap, .bool p, .bool n, .int .i64 s, .bool m, .int .i64 a, .int .u8 (c : Int)] 26))
  have HO := Lib.hid fun W => own_5 ad len cap p n s m a (c : Int) W
  have HS := Lib.hid fun W hb => same_any ⟨5, t, p, n, s, m, a, c⟩ ⟨5, [], false, false, 0, false, 0, 0⟩ ad len cap none 0 0 W (bytes_below hB hb) (bytes_nil _) h8 (by simp) hl
  have e0 : own ⟨5, t, p, n, s, m, a, c⟩ = ⟨5, [], false, false, 0, false, 0, 0⟩ := rfl
  rw [e0] at HW
  have e1 : ((0 : Nat) : Int) = 0 := rfl
  simp only [e1] at HS
  clear e1
  generalize same ⟨5, t, p, n, s, m, a, c⟩ ⟨5, [], false, false, 0, false, 0, 0⟩ = b at HW HS
  clear e0
  clear hB h8
  go_enter Try.func16, Try.ntmps16
  go_wp2_with fail
  generalize w.alloc (.cells #[.int .i64 5, .slice ad len cap, .bool p, .bool n, .int .i64 s, .bool m, .int .i64 a, .int .u8 (c : Int)] 26) = w1 at HA HG ⊢
  go_region_held3 (fun w' => Below w1.heap.size w1 w' ∧ w'.cell? ⟨w.heap.size, 0, none⟩ = some (.int .i64 5) ∧ w'.cell? ⟨w.heap.size, 1, none⟩ = some (.slice ad len cap) ∧ w'.cell? ⟨w.heap.size, 2, none⟩ = some (.bool p) ∧ w'.cell? ⟨w.heap.size, 3, none⟩ = some (.bool n) ∧ w'.cell? ⟨w.heap.size, 4, none⟩ = some (.int .i64 s) ∧ w'.cell? ⟨w.heap.size, 5, none⟩ = some (.bool m) ∧ w'.cell? ⟨w.heap.size, 6, none⟩ = some (.int .i64 a) ∧ w'.cell? ⟨w.heap.size, 7, none⟩ = some (.int .u8 (c : Int)))
    (first | exact held8 HG.out (Below.refl _ _).drew | exact held8 HG.out (Below.refl _ _) | exact held8 HG.out (kept_trans (And.left (by assumption)) hb))
    (first
      | (go_at_call 27; with_reducible refine (HO.out _).mono ?_; rintro e wa ⟨rfl, hb⟩)
      | (go_at_call 10; with_reducible refine (HS.out _ (kept_trans HA.out (And.left (by assumption)))).mono ?_; rintro e wb ⟨rfl, hb⟩))
  have hS := And.left (by assumption : Below w1.heap.size w1 _ ∧ _)
  have H2 := kept_hid HA hS
  clear HO HS
  cases b with
  | false =>
    replace HW := Lib.hid (show wrong ⟨5, t, p, n, s, m, a, c⟩ z = 1 by have := HW.out; simp at this; exact this)
    clear hS
    go_wp2_with fail
    go_ret
    rw [HW.out, errv_1]
    exact ⟨rfl, H2.out⟩
  | true =>
    obtain ⟨_, c0, c1, c2, c3, c4, c5, c6, c7⟩ := held8 HG.out hS
    replace HW := Lib.hid (show wrong ⟨5, t, p, n, s, m, a, c⟩ z = 0 by have := HW.out; simpa using this)
    go_wp2_with fail
    go_ret
    rw [HW.out, errv_0]
    exact ⟨rfl, H2.out⟩
set_option maxRecDepth 100000 in
set_option maxHeartbeats 4000000 in
theorem right_6 (ad : Option Addr) (len cap : Nat) (t : List Nat) (p n : Bool) (s : Int) (m : Bool) (a : Int) (c z : Nat) (w : World) (hB : BytesIn w (.slice ad len cap) t) (h8 : ∀ x ∈ t, x < 256) (hl : t.length < 1000000) (hc : c < 256) (h1 : 1 ≤ z) (h2 : z ≤ 16383) :
    Calls Try.prog 16 #[.agg #[.int .i64 6, .slice ad len cap, .bool p, .bool n, .int .i64 s, .bool m, .int .i64 a, .int .u8 (c : Int)], .int .i64 (z : Int)] w fun e w' => e = .returned (errv (wrong ⟨6, t, p, n, s, m, a, c⟩ z)) ∧ Below w.heap.size w w' := by
  have HW : Hid (wrong ⟨6, t, p, n, s, m, a, c⟩ z = if same ⟨6, t, p, n, s, m, a, c⟩ (own ⟨6, t, p, n, s, m, a, c⟩) = false then 1 else if char c = false then 1 else if a < 0 ∨ (z : Int) ≤ a then 4 else 0) := by
    show wrong _ z = _
    unfold wrong
    rw [if_neg (by simp)]
    simp
  have HA : Hid (Below w.heap.size w (w.alloc (.cells #[.int .i64 6, .slice ad len cap, .bool p, .bool n, .int .i64 s, .bool m, .int .i64 a, .int .u8 (c : Int)] 26))) := (Below.refl _ _).alloc (Nat.le_refl _) _
  have HG := Lib.hid (heap_alloc_new w (.cells #[.int .i64 6, .slice ad len cap, .bool p, .bool n, .int .i64 s, .bool m, .int .i64 a, .int .u8 (c : Int)] 26))
  have HO := Lib.hid fun W => own_6 ad len cap p n s m a (c : Int) W
  have HS := Lib.hid fun W hb => same_any ⟨6, t, p, n, s, m, a, c⟩ ⟨6, [], false, false, 0, false, a, c⟩ ad len cap none 0 0 W (bytes_below hB hb) (bytes_nil _) h8 (by simp) hl
  have e0 : own ⟨6, t, p, n, s, m, a, c⟩ = ⟨6, [], false, false, 0, false, a, c⟩ := rfl
  rw [e0] at HW
  have e1 : ((0 : Nat) : Int) = 0 := rfl
  simp only at HS
  clear e1
  generalize same ⟨6, t, p, n, s, m, a, c⟩ ⟨6, [], false, false, 0, false, a, c⟩ = b at HW HS
  clear e0
  clear hB h8
  go_enter Try.func16, Try.ntmps16
  go_wp2_with fail
  generalize w.alloc (.cells #[.int .i64 6, .slice ad len cap, .bool p, .bool n, .int .i64 s, .bool m, .int .i64 a, .int .u8 (c : Int)] 26) = w1 at HA HG ⊢
  go_region_held3 (fun w' => Below w1.heap.size w1 w' ∧ w'.cell? ⟨w.heap.size, 0, none⟩ = some (.int .i64 6) ∧ w'.cell? ⟨w.heap.size, 1, none⟩ = some (.slice ad len cap) ∧ w'.cell? ⟨w.heap.size, 2, none⟩ = some (.bool p) ∧ w'.cell? ⟨w.heap.size, 3, none⟩ = some (.bool n) ∧ w'.cell? ⟨w.heap.size, 4, none⟩ = some (.int .i64 s) ∧ w'.cell? ⟨w.heap.size, 5, none⟩ = some (.bool m) ∧ w'.cell? ⟨w.heap.size, 6, none⟩ = some (.int .i64 a) ∧ w'.cell? ⟨w.heap.size, 7, none⟩ = some (.int .u8 (c : Int)))
    (first | exact held8 HG.out (Below.refl _ _).drew | exact held8 HG.out (Below.refl _ _) | exact held8 HG.out (kept_trans (And.left (by assumption)) hb))
    (first
      | (go_at_call 27; with_reducible refine (HO.out _).mono ?_; rintro e wa ⟨rfl, hb⟩)
      | (go_at_call 10; with_reducible refine (HS.out _ (kept_trans HA.out (And.left (by assumption)))).mono ?_; rintro e wb ⟨rfl, hb⟩))
  have hS := And.left (by assumption : Below w1.heap.size w1 _ ∧ _)
  have H2 := kept_hid HA hS
  clear HO HS
  cases b with
  | false =>
    replace HW := Lib.hid (show wrong ⟨6, t, p, n, s, m, a, c⟩ z = 1 by have := HW.out; simp at this; exact this)
    clear hS
    go_wp2_with fail
    go_ret
    rw [HW.out, errv_1]
    exact ⟨rfl, H2.out⟩
  | true =>
    obtain ⟨_, c0, c1, c2, c3, c4, c5, c6, c7⟩ := held8 HG.out hS
    have HC := Lib.hid fun W => char_any c W hc
    cases hcc : char c with
    | false =>
      replace HW := Lib.hid (show wrong ⟨6, t, p, n, s, m, a, c⟩ z = 1 by have := HW.out; simp [hcc] at this; exact this)
      rw [hcc] at HC
      clear hcc
      go_wp2_with fail
      with_reducible refine (HC.out _).mono ?_
      rintro e w5 ⟨rfl, rfl⟩
      go_wp2_with fail
      go_ret
      rw [HW.out, errv_1]
      exact ⟨rfl, H2.out⟩
    | true =>
      replace HW := Lib.hid (show wrong ⟨6, t, p, n, s, m, a, c⟩ z = if a < 0 ∨ (z : Int) ≤ a then 4 else 0 by have := HW.out; simpa [hcc] using this)
      rw [hcc] at HC
      clear hcc
      go_wp2_with fail
      with_reducible refine (HC.out _).mono ?_
      rintro e w5 ⟨rfl, rfl⟩
      rcases int_cases a z with ha | ⟨u, rfl, ha⟩
      · replace HW := Lib.hid (show wrong ⟨6, t, p, n, s, m, a, c⟩ z = 4 by have := HW.out; rw [if_pos ha] at this; exact this)
        go_wp2_with fail
        with_reducible refine (Adr.put_none a z _ h1 h2 ha).mono ?_
        rintro e w5 ⟨rfl, hb5⟩
        have H5 := kept_hid H2 hb5
        clear hb5
        go_wp2_with fail
        go_ret
        rw [HW.out, errv_4]
        exact ⟨rfl, (kept_alloc H5 _).out⟩
      · replace HW := Lib.hid (show wrong ⟨6, t, p, n, s, m, (u : Int), c⟩ z = 0 by have := HW.out; rw [if_neg (show ¬ ((u : Int) < 0 ∨ (z : Int) ≤ (u : Int)) by omega)] at this; exact this)
        go_wp2_with fail
        with_reducible refine (Adr.put_all u z _ ha h2).mono ?_
        rintro e w5 ⟨rfl, hb5⟩
        have H5 := kept_hid H2 hb5
        clear hb5
        go_wp2_with fail
        go_ret
        rw [HW.out, errv_0]
        exact ⟨rfl, (kept_alloc H5 _).out⟩
set_option maxRecDepth 100000 in
set_option maxHeartbeats 4000000 in
theorem right_7 (ad : Option Addr) (len cap : Nat) (t : List Nat) (p n : Bool) (s : Int) (m : Bool) (a : Int) (c z : Nat) (w : World) (hB : BytesIn w (.slice ad len cap) t) (h8 : ∀ x ∈ t, x < 256) (hl : t.length < 1000000) (_hc : c < 256) (h1 : 1 ≤ z) (h2 : z ≤ 16383) :
    Calls Try.prog 16 #[.agg #[.int .i64 7, .slice ad len cap, .bool p, .bool n, .int .i64 s, .bool m, .int .i64 a, .int .u8 (c : Int)], .int .i64 (z : Int)] w fun e w' => e = .returned (errv (wrong ⟨7, t, p, n, s, m, a, c⟩ z)) ∧ Below w.heap.size w w' := by
  have HW : Hid (wrong ⟨7, t, p, n, s, m, a, c⟩ z = if same ⟨7, t, p, n, s, m, a, c⟩ (own ⟨7, t, p, n, s, m, a, c⟩) = false then 1 else if a < 0 ∨ (z : Int) ≤ a then 4 else 0) := by
    show wrong _ z = _
    unfold wrong
    rw [if_neg (by simp)]
    simp
  have HA : Hid (Below w.heap.size w (w.alloc (.cells #[.int .i64 7, .slice ad len cap, .bool p, .bool n, .int .i64 s, .bool m, .int .i64 a, .int .u8 (c : Int)] 26))) := (Below.refl _ _).alloc (Nat.le_refl _) _
  have HG := Lib.hid (heap_alloc_new w (.cells #[.int .i64 7, .slice ad len cap, .bool p, .bool n, .int .i64 s, .bool m, .int .i64 a, .int .u8 (c : Int)] 26))
  have HO := Lib.hid fun W => own_7 ad len cap p n s m a (c : Int) W
  have HS := Lib.hid fun W hb => same_any ⟨7, t, p, n, s, m, a, c⟩ ⟨7, [], false, false, 0, false, a, 0⟩ ad len cap none 0 0 W (bytes_below hB hb) (bytes_nil _) h8 (by simp) hl
  have e0 : own ⟨7, t, p, n, s, m, a, c⟩ = ⟨7, [], false, false, 0, false, a, 0⟩ := rfl
  rw [e0] at HW
  have e1 : ((0 : Nat) : Int) = 0 := rfl
  simp only [e1] at HS
  clear e1
  generalize same ⟨7, t, p, n, s, m, a, c⟩ ⟨7, [], false, false, 0, false, a, 0⟩ = b at HW HS
  clear e0
  clear hB h8
  go_enter Try.func16, Try.ntmps16
  go_wp2_with fail
  generalize w.alloc (.cells #[.int .i64 7, .slice ad len cap, .bool p, .bool n, .int .i64 s, .bool m, .int .i64 a, .int .u8 (c : Int)] 26) = w1 at HA HG ⊢
  go_region_held3 (fun w' => Below w1.heap.size w1 w' ∧ w'.cell? ⟨w.heap.size, 0, none⟩ = some (.int .i64 7) ∧ w'.cell? ⟨w.heap.size, 1, none⟩ = some (.slice ad len cap) ∧ w'.cell? ⟨w.heap.size, 2, none⟩ = some (.bool p) ∧ w'.cell? ⟨w.heap.size, 3, none⟩ = some (.bool n) ∧ w'.cell? ⟨w.heap.size, 4, none⟩ = some (.int .i64 s) ∧ w'.cell? ⟨w.heap.size, 5, none⟩ = some (.bool m) ∧ w'.cell? ⟨w.heap.size, 6, none⟩ = some (.int .i64 a) ∧ w'.cell? ⟨w.heap.size, 7, none⟩ = some (.int .u8 (c : Int)))
    (first | exact held8 HG.out (Below.refl _ _).drew | exact held8 HG.out (Below.refl _ _) | exact held8 HG.out (kept_trans (And.left (by assumption)) hb))
    (first
      | (go_at_call 27; with_reducible refine (HO.out _).mono ?_; rintro e wa ⟨rfl, hb⟩)
      | (go_at_call 10; with_reducible refine (HS.out _ (kept_trans HA.out (And.left (by assumption)))).mono ?_; rintro e wb ⟨rfl, hb⟩))
  have hS := And.left (by assumption : Below w1.heap.size w1 _ ∧ _)
  have H2 := kept_hid HA hS
  clear HO HS
  cases b with
  | false =>
    replace HW := Lib.hid (show wrong ⟨7, t, p, n, s, m, a, c⟩ z = 1 by have := HW.out; simp at this; exact this)
    clear hS
    go_wp2_with fail
    go_ret
    rw [HW.out, errv_1]
    exact ⟨rfl, H2.out⟩
  | true =>
    obtain ⟨_, c0, c1, c2, c3, c4, c5, c6, c7⟩ := held8 HG.out hS
    rcases int_cases a z with ha | ⟨u, rfl, ha⟩
    · replace HW := Lib.hid (show wrong ⟨7, t, p, n, s, m, a, c⟩ z = 4 by have := HW.out; simp only [if_pos ha] at this; simpa using this)
      go_wp2_with fail
      with_reducible refine (Adr.put_none a z _ h1 h2 ha).mono ?_
      rintro e w5 ⟨rfl, hb5⟩
      have H5 := kept_hid H2 hb5
      clear hb5
      go_wp2_with fail
      go_ret
      rw [HW.out, errv_4]
      exact ⟨rfl, (kept_alloc H5 _).out⟩
    · replace HW := Lib.hid (show wrong ⟨7, t, p, n, s, m, (u : Int), c⟩ z = 0 by have := HW.out; simp only [if_neg (show ¬ ((u : Int) < 0 ∨ (z : Int) ≤ (u : Int)) by omega)] at this; simpa using this)
      go_wp2_with fail
      with_reducible refine (Adr.put_all u z _ ha h2).mono ?_
      rintro e w5 ⟨rfl, hb5⟩
      have H5 := kept_hid H2 hb5
      clear hb5
      go_wp2_with fail
      go_ret
      rw [HW.out, errv_0]
      exact ⟨rfl, (kept_alloc H5 _).out⟩
set_option maxHeartbeats 1000000 in
theorem right_no (ad : Option Addr) (len cap : Nat) (k : Int) (p n : Bool) (s : Int) (m : Bool) (a : Int) (c : Int) (z : Int) (w : World) (hk : k < 1 ∨ 7 < k) :
    Calls Try.prog 16 #[.agg #[.int .i64 k, .slice ad len cap, .bool p, .bool n, .int .i64 s, .bool m, .int .i64 a, .int .u8 c], .int .i64 z] w fun e w' => e = .returned (errv 5) ∧ Below w.heap.size w w' := by
  rw [errv_5]
  by_cases h : k < 1
  · go_enter Try.func16, Try.ntmps16
    go_wp2_with fail
    go_ret
    exact ⟨rfl, (Below.refl _ _).alloc (Nat.le_refl _) _⟩
  · have h7 : 7 < k := by omega
    clear hk
    go_enter Try.func16, Try.ntmps16
    go_wp2_with fail
    go_ret
    exact ⟨rfl, (Below.refl _ _).alloc (Nat.le_refl _) _⟩
/-- Right tells what is wrong. -/
theorem right_any (o : O) (ad : Option Addr) (len cap z : Nat) (w : World) (hB : BytesIn w (.slice ad len cap) o.t) (h8 : ∀ x ∈ o.t, x < 256) (hl : o.t.length < 1000000) (hc : o.c < 256) (h1 : 1 ≤ z) (h2 : z ≤ 16383) :
    Calls Try.prog 16 #[.agg #[.int .i64 o.k, .slice ad len cap, .bool o.p, .bool o.n, .int .i64 o.s, .bool o.m, .int .i64 o.a, .int .u8 (o.c : Int)], .int .i64 (z : Int)] w fun e w' => e = .returned (errv (wrong o z)) ∧ Below w.heap.size w w' := by
  obtain ⟨k, t, p, n, s, m, a, c⟩ := o
  simp only at hB h8 hl hc ⊢
  by_cases hk : k < 1 ∨ 7 < k
  · have e : wrong ⟨k, t, p, n, s, m, a, c⟩ z = 5 := by unfold wrong; rw [if_pos hk]
    rw [e]
    exact right_no ad len cap k p n s m a c z w hk
  have hk : k = 1 ∨ k = 2 ∨ k = 3 ∨ k = 4 ∨ k = 5 ∨ k = 6 ∨ k = 7 := by omega
  rcases hk with rfl | rfl | rfl | rfl | rfl | rfl | rfl
  · exact right_1 ad len cap t p n s m a c z w hB h8 hl hc h1 h2
  · exact right_2 ad len cap t p n s m a c z w hB h8 hl hc h1 h2
  · exact right_3 ad len cap t p n s m a c z w hB h8 hl hc h1 h2
  · exact right_4 ad len cap t p n s m a c z w hB h8 hl hc h1 h2
  · exact right_5 ad len cap t p n s m a c z w hB h8 hl hc h1 h2
  · exact right_6 ad len cap t p n s m a c z w hB h8 hl hc h1 h2
  · exact right_7 ad len cap t p n s m a c z w hB h8 hl hc h1 h2
end Ord
end Go.Proofs.Ytllpmgddcpgegaa
