/- AddrBack returns true. -/
import Derived.Test.YtdpipjcihnghpaaDoorAddrWays
import Derived.Test.YtdpipjcihnghpaaDoorAddrGets
import Derived.Test.YtdpipjcihnghpaaDoorAppend
namespace Go.Proofs.YtdpipjcihnghpaaDoor
open Go.RowKit Err Six Sha Apd
namespace Adr
/-- What is written is read as it was. -/
theorem get_put (g o len cap x s : Nat) (w : World) (hl : 2 ≤ len) (hx : x < s) (h2 : s ≤ 16383) (c0 : w.cell? ⟨g, o, none⟩ = some (.int .u8 (first x s : Nat))) (c1 : w.cell? ⟨g, o + 1, none⟩ = some (.int .u8 (second x s : Nat))) :
    Calls Tryd.prog 8 #[.slice (some ⟨g, o, none⟩) len cap, .int .i64 (s : Int)] w fun e w' => e = .returned (.tuple #[.int .i64 (x : Int), .nilIface]) ∧ Below w.heap.size w w' := by
  unfold first at c0; unfold second at c1
  by_cases h : s ≤ 4096
  · rw [if_pos h] at c0 c1
    have e1 := put_low (x / 64) (by omega)
    have e2 := put_low (x % 64) (by omega)
    have HR := getShort_ok g o len cap _ _ w hl (put_lt (x / 64) (by omega)) (put_lt (x % 64) (by omega)) c0 c1 (graphic_put _ (by omega)) (graphic_put _ (by omega))
    rw [e1, e2] at HR
    have := get_short_ok _ len cap s (x / 64) (x % 64) w (by omega) h2 h hl (by omega) (by omega) (by omega) HR
    rwa [show 64 * ((x / 64 : Nat) : Int) + ((x % 64 : Nat) : Int) = (x : Int) by omega] at this
  · rw [if_neg h] at c0 c1
    have HR := getLong_ok g o len cap _ _ w hl (by omega) (by omega) c0 c1
    have := get_long_ok _ len cap s (x / 256) (x % 256) w (by omega) h2 (by omega) hl (by omega) (by omega) (by omega) HR
    rwa [show 256 * ((x / 256 : Nat) : Int) + ((x % 256 : Nat) : Int) = (x : Int) by omega] at this
theorem first_lt (x s : Nat) (hx : x < s) (h2 : s ≤ 16383) : first x s < 256 := by
  unfold first
  by_cases h : s ≤ 4096
  · rw [if_pos h]; exact put_lt _ (by omega)
  · rw [if_neg h]; omega
theorem second_lt (x s : Nat) : second x s < 256 := by
  unfold second
  by_cases h : s ≤ 4096
  · rw [if_pos h]; exact put_lt _ (by omega)
  · rw [if_neg h]; omega
theorem own_two {w : World} {base n p q : Nat} {v : Value} {xs : List Nat} (h : w.ownsRow base 5 1 v n ([] ++ u8s [p, q] ++ u8s xs)) :
    ∃ g c, v = .slice (some ⟨g, 0, none⟩) n c ∧ 2 ≤ n ∧ w.cell? ⟨g, 0, none⟩ = some (.int .u8 (p : Int)) ∧ w.cell? ⟨g, 1, none⟩ = some (.int .u8 (q : Int)) := by
  have hl : n = 2 + xs.length := by have := h.1; simp [u8s] at this; omega
  rcases h.2 with ⟨_, h0⟩ | ⟨g, c, cur, rfl, _, hh, _, _, _, ht⟩
  · omega
  · have hj : ∀ j, j < n → cur[j]? = ([] ++ u8s [p, q] ++ u8s xs)[j]? := fun j hj => by
      rw [← ht, List.getElem?_take, if_pos (by omega), Array.getElem?_toList]
    refine ⟨g, c, rfl, by omega, ?_, ?_⟩
    · rw [cell_of_row w g 0 _ _ _ hh, hj 0 (by omega)]; rfl
    · rw [cell_of_row w g 1 _ _ _ hh, hj 1 (by omega)]; rfl
theorem two_of {w : World} {B : Nat} {x y : Int} {t : TypeId} (h : w.heap[B]? = some (.cells #[.int .u8 x, .int .u8 y] t (0, 0))) : Two w B x y := ⟨cell_of_row _ _ 0 _ _ _ h, cell_of_row _ _ 1 _ _ _ h⟩
set_option maxRecDepth 100000 in
set_option maxHeartbeats 4000000 in
theorem back_long (a n : Nat) (b0 b1 : Int) (ad : Option Addr) (len cap : Nat) (w : World) (hl : 100 < len) (hg : Handle w) :
    Calls Tryd.prog 4 #[.int .u16 (a : Int), .int .u16 (n : Int), .agg #[.int .u8 b0, .int .u8 b1], .slice ad len cap] w fun e w' => e = .returned (.bool true) ∧ Below w.heap.size w w' := by
  go_enter Tryd.func4, Tryd.ntmps4
  go_wp2_with fail
  obtain ⟨hT0, hA0⟩ := two_new w 33 b0 b1
  have hg0 := hand_of hg hA0
  have H0 := Lib.hid hA0
  clear hg hA0 hT0
  generalize w.alloc (.cells #[.int .u8 b0, .int .u8 b1] 33) = W0 at *
  refine (awake_any _ hg0).mono ?_
  rintro e w1 ⟨rfl, hb1⟩
  have hg1 := hand_of hg0 hb1
  have H1 := kept_hid H0 hb1
  clear hb1 hg0 H0
  go_wp2_with fail
  refine (awake_any _ hg1).mono ?_
  rintro e w2 ⟨rfl, hb2⟩
  have H2 := kept_hid H1 hb2
  clear hb2 hg1 H1
  go_wp2_with fail
  go_ret
  exact ⟨rfl, H2.out⟩
theorem src_two (w : World) (g p q : Nat) (hg : g = w.heap.size) : ∀ ad, some (⟨g, 0, none⟩ : Addr) = some ad → ∀ j u, (u8s [p, q])[j]? = some u → (w.alloc (.cells #[.int .u8 (p : Int), .int .u8 (q : Int)] 5)).cell? (ad.add j) = some u := by
  intro ad h j u hj
  subst hg
  injection h with h
  subst h
  match j, hj with
  | 0, hj => simp [u8s] at hj; subst hj; rw [show (⟨w.heap.size, 0, none⟩ : Addr).add 0 = ⟨w.heap.size, 0, none⟩ from rfl, cell_of_row _ w.heap.size 0 _ _ _ (heap_alloc_new w _)]; rfl
  | 1, hj => simp [u8s] at hj; subst hj; rw [show (⟨w.heap.size, 0, none⟩ : Addr).add 1 = ⟨w.heap.size, 1, none⟩ from rfl, cell_of_row _ w.heap.size 1 _ _ _ (heap_alloc_new w _)]; rfl
theorem own_ge {w : World} {base e size n k : Nat} {v : Value} {xs : List Value} (h : w.ownsRow base e size v n xs) (hk : v.ownBlock = some k) : base ≤ k := by
  rcases h.2 with ⟨rfl, _⟩ | ⟨g, c, cur, rfl, hb, _⟩
  · cases hk
  · simp [Value.ownBlock] at hk; omega
set_option maxRecDepth 100000 in
set_option maxHeartbeats 4000000 in
theorem back_bad (a n x s : Nat) (b0 b1 : Int) (ad : Option Addr) (len cap : Nat) (xs : List Nat) (w : World) (ha : a < 65536) (hn : n < 65536) (es : 1 + n % 16383 = s) (ex : a % s = x) (hx : x < s) (h2 : s ≤ 16383) (hl : len ≤ 100)
    (hB : BytesIn w (.slice ad len cap) xs) (hnil : ad = none → len = 0 ∧ cap = 0) (hg : Handle w)
    (HA : ∀ W, Two W w.heap.size b0 b1 → Calls Tryd.prog 8 #[.slice (some ⟨w.heap.size, 0, none⟩) 2 2, .int .i64 (s : Int)] W fun e w' => ∃ T v, e = .returned (.tuple #[.int .i64 0, .iface T v]) ∧ Below W.heap.size W w') :
    Calls Tryd.prog 4 #[.int .u16 (a : Int), .int .u16 (n : Int), .agg #[.int .u8 b0, .int .u8 b1], .slice ad len cap] w fun e w' => e = .returned (.bool true) ∧ Below w.heap.size w w' := by
  have hlen : xs.length = len := by
    obtain ⟨_, _, hv, _⟩ := hB
    injection hv with e1 e2 e3
    exact e2.symm
  have HX := Lib.hid fun W => put_all x s W hx h2
  have HG := Lib.hid fun g L c W hL => get_put g 0 L c x s W hL hx h2
  have HA := Lib.hid HA
  have HNI := Lib.hid hnil
  have HLE := Lib.hid hlen
  have hf := first_lt x s hx h2
  have hs := second_lt x s
  generalize first x s = p at *
  generalize second x s = q at *
  clear hnil hlen
  go_enter Tryd.func4, Tryd.ntmps4
  go_wp2_with fail
  obtain ⟨hT0, hA0⟩ := two_new w 33 b0 b1
  have hg0 := hand_of hg hA0
  have hB := bytes_below hB hA0
  have H0 := Lib.hid hA0
  clear hg hA0
  generalize w.alloc (.cells #[.int .u8 b0, .int .u8 b1] 33) = W0 at *
  generalize w.heap.size = B0 at hT0 HA ⊢
  refine (awake_any _ hg0).mono ?_
  rintro e w1 ⟨rfl, hb1⟩
  have hg1 := hand_of hg0 hb1
  have hB := bytes_below hB hb1
  have hT0 := hT0.below hb1
  have H1 := kept_hid H0 hb1
  clear hb1 hg0 H0
  go_wp2_with fail
  rw [size_of, es, rem_of, ex]
  clear ha hn es ex
  refine (HX.out _).mono ?_
  rintro e w2 ⟨rfl, hb2⟩
  obtain ⟨hT1, hA2⟩ := two_new w2 33 p q
  have hg2 := hand_of (hand_of hg1 hb2) hA2
  have hB := bytes_below (bytes_below hB hb2) hA2
  have hT0 := (hT0.below hb2).below hA2
  have H2 := kept_hid (kept_hid H1 hb2) hA2
  clear hb2 hg1 hA2 HX H1
  have a0 := hT1.c0
  have a1 := hT1.c1
  have HMI := Lib.hid (show ((w2.alloc (.cells #[.int .u8 (p : Int), .int .u8 (q : Int)] 33)).alloc (.cells #[] 5)).ownsRow (w2.heap.size + 1) 5 1 (.slice (some ⟨w2.heap.size + 1, 0, none⟩) 0 0) 0 [] from by
    have := World.ownsRow_lit (base := w2.heap.size + 1) (e := 5) (size := 1) (w2.alloc (.cells #[.int .u8 (p : Int), .int .u8 (q : Int)] 33)) #[] 0 (by simp) (Nat.zero_le _) rfl
    simpa using this)
  have HSR := Lib.hid (src_two ((w2.alloc (.cells #[.int .u8 (p : Int), .int .u8 (q : Int)] 33)).alloc (.cells #[] 5)) (w2.heap.size + 1 + 1) p q (by simp))
  have HW := Lib.hid (show Below (w2.heap.size + 1) (w2.alloc (.cells #[.int .u8 (p : Int), .int .u8 (q : Int)] 33)) (((w2.alloc (.cells #[.int .u8 (p : Int), .int .u8 (q : Int)] 33)).alloc (.cells #[] 5)).alloc (.cells #[.int .u8 (p : Int), .int .u8 (q : Int)] 5)) from
    ((Below.refl _ _).alloc (by simp) _).alloc (by simp) _)
  have HT0 := Lib.hid hT0
  have HBB := Lib.hid hB
  have HHG := Lib.hid hg2
  clear hT1 hT0 hB hg2
  go_wp2_with (at_builtin; refine wpList_mark ?_)
  refine Lib.hid ?_
  refine append_own rfl (.tmp 42) (.tmp 47) rfl (w2.heap.size + 1) (.slice (some ⟨w2.heap.size + 1, 0, none⟩) 0 0) 0 [] rfl (HMI.out.alloc _) (some ⟨w2.heap.size + 1 + 1, 0, none⟩) 2 2 [p, q] rfl rfl (fun h => by cases h) HSR.out (by decide) ?_ ?_
  · simp
  clear a0 a1
  intro v3 w3 hown3 hgr3 _
  have HS2 := Lib.hid (show (w2.alloc (.cells #[.int .u8 (p : Int), .int .u8 (q : Int)] 33)).heap.size = w2.heap.size + 1 by simp)
  have HW3 := Lib.hid (HW.out.grown hgr3 (by simp) (by intro k hk; simp [Value.ownBlock] at hk; omega))
  obtain ⟨va, vc, rfl⟩ := own_form hown3
  have HO3 := Lib.hid hown3
  clear hown3 hgr3 HMI HSR HW
  have HB3 := Lib.hid (bytes_src (bytes_below HBB.out (by rw [HS2.out]; exact HW3.out)))
  have HZ3 := Lib.hid (show w2.heap.size + 1 ≤ w3.heap.size from by have := HW3.out.size; rw [HS2.out] at this; exact this)
  clear HBB
  go_wp2_with (at_builtin; refine wpList_mark ?_)
  refine Lib.hid ?_
  refine append_own rfl (.tmp 48) (.tmp 49) rfl (w2.heap.size + 1) _ (0 + 2) ([] ++ u8s [p, q]) rfl HO3.out ad len cap xs rfl HLE.out HNI.out HB3.out ?_ HZ3.out ?_
  · omega
  intro v4 w4 hown4 hgr4 _
  have HW4 := Lib.hid (HW3.out.grown hgr4 HZ3.out (by intro k hk; have := own_ge HO3.out hk; omega))
  obtain ⟨g, c, rfl, hL, c0, c1⟩ := own_two hown4
  have HC0 := Lib.hid c0
  have HC1 := Lib.hid c1
  rw [← HS2.out] at HW4
  have HG4 := Lib.hid (hand_of HHG.out HW4.out)
  have HT4 := Lib.hid (HT0.out.below HW4.out)
  have H4 := kept_hid H2 HW4.out
  clear hown4 hgr4 HO3 HB3 HZ3 HW3 HW4 HT0 HHG H2 c0 c1 HS2 HNI HLE
  go_wp2_with fail
  refine (HG.out g _ c _ hL HC0.out HC1.out).mono ?_
  rintro e w5 ⟨rfl, hb5⟩
  have hg5 := hand_of HG4.out hb5
  have hT5 := HT4.out.below hb5
  have H5 := kept_hid H4 hb5
  clear hb5 HG4 HT4 HC0 HC1 HG H4
  go_wp2_with fail
  refine (HA.out _ hT5).mono ?_
  rintro e w6 ⟨T, v, rfl, hb6⟩
  have H6 := kept_hid H5 hb6
  clear hb6 hg5 hT5 HA H5
  go_wp2_with fail
  go_ret
  exact ⟨rfl, H6.out⟩
set_option maxRecDepth 100000 in
set_option maxHeartbeats 4000000 in
theorem back_good (a n x s z : Nat) (b0 b1 : Int) (ad : Option Addr) (len cap : Nat) (xs : List Nat) (w : World) (ha : a < 65536) (hn : n < 65536) (es : 1 + n % 16383 = s) (ex : a % s = x) (hx : x < s) (h2 : s ≤ 16383) (hl : len ≤ 100)
    (hB : BytesIn w (.slice ad len cap) xs) (hnil : ad = none → len = 0 ∧ cap = 0) (hg : Handle w)
    (HA : ∀ W, Two W w.heap.size b0 b1 → Calls Tryd.prog 8 #[.slice (some ⟨w.heap.size, 0, none⟩) 2 2, .int .i64 (s : Int)] W fun e w' => e = .returned (.tuple #[.int .i64 (z : Int), .nilIface]) ∧ Below W.heap.size W w')
    (hz : z < s) (hz0 : b0 = (first z s : Nat)) (hz1 : b1 = (second z s : Nat)) :
    Calls Tryd.prog 4 #[.int .u16 (a : Int), .int .u16 (n : Int), .agg #[.int .u8 b0, .int .u8 b1], .slice ad len cap] w fun e w' => e = .returned (.bool true) ∧ Below w.heap.size w w' := by
  have hlen : xs.length = len := by
    obtain ⟨_, _, hv, _⟩ := hB
    injection hv with e1 e2 e3
    exact e2.symm
  have HX := Lib.hid fun W => put_all x s W hx h2
  have HG := Lib.hid fun g L c W hL => get_put g 0 L c x s W hL hx h2
  have HA := Lib.hid HA
  have HNI := Lib.hid hnil
  have HLE := Lib.hid hlen
  have HZ := Lib.hid fun W => put_all z s W hz h2
  rw [← hz0, ← hz1] at HZ
  clear hz hz0 hz1
  have hf := first_lt x s hx h2
  have hs := second_lt x s
  generalize first x s = p at *
  generalize second x s = q at *
  clear hnil hlen
  go_enter Tryd.func4, Tryd.ntmps4
  go_wp2_with fail
  obtain ⟨hT0, hA0⟩ := two_new w 33 b0 b1
  have hg0 := hand_of hg hA0
  have hB := bytes_below hB hA0
  have H0 := Lib.hid hA0
  clear hg hA0
  generalize w.alloc (.cells #[.int .u8 b0, .int .u8 b1] 33) = W0 at *
  generalize w.heap.size = B0 at hT0 HA ⊢
  refine (awake_any _ hg0).mono ?_
  rintro e w1 ⟨rfl, hb1⟩
  have hg1 := hand_of hg0 hb1
  have hB := bytes_below hB hb1
  have hT0 := hT0.below hb1
  have H1 := kept_hid H0 hb1
  clear hb1 hg0 H0
  go_wp2_with fail
  rw [size_of, es, rem_of, ex]
  clear ha hn es ex
  refine (HX.out _).mono ?_
  rintro e w2 ⟨rfl, hb2⟩
  obtain ⟨hT1, hA2⟩ := two_new w2 33 p q
  have hg2 := hand_of (hand_of hg1 hb2) hA2
  have hB := bytes_below (bytes_below hB hb2) hA2
  have hT0 := (hT0.below hb2).below hA2
  have H2 := kept_hid (kept_hid H1 hb2) hA2
  clear hb2 hg1 hA2 HX H1
  have a0 := hT1.c0
  have a1 := hT1.c1
  have HMI := Lib.hid (show ((w2.alloc (.cells #[.int .u8 (p : Int), .int .u8 (q : Int)] 33)).alloc (.cells #[] 5)).ownsRow (w2.heap.size + 1) 5 1 (.slice (some ⟨w2.heap.size + 1, 0, none⟩) 0 0) 0 [] from by
    have := World.ownsRow_lit (base := w2.heap.size + 1) (e := 5) (size := 1) (w2.alloc (.cells #[.int .u8 (p : Int), .int .u8 (q : Int)] 33)) #[] 0 (by simp) (Nat.zero_le _) rfl
    simpa using this)
  have HSR := Lib.hid (src_two ((w2.alloc (.cells #[.int .u8 (p : Int), .int .u8 (q : Int)] 33)).alloc (.cells #[] 5)) (w2.heap.size + 1 + 1) p q (by simp))
  have HW := Lib.hid (show Below (w2.heap.size + 1) (w2.alloc (.cells #[.int .u8 (p : Int), .int .u8 (q : Int)] 33)) (((w2.alloc (.cells #[.int .u8 (p : Int), .int .u8 (q : Int)] 33)).alloc (.cells #[] 5)).alloc (.cells #[.int .u8 (p : Int), .int .u8 (q : Int)] 5)) from
    ((Below.refl _ _).alloc (by simp) _).alloc (by simp) _)
  have HT0 := Lib.hid hT0
  have HBB := Lib.hid hB
  have HHG := Lib.hid hg2
  clear hT1 hT0 hB hg2
  go_wp2_with (at_builtin; refine wpList_mark ?_)
  refine Lib.hid ?_
  refine append_own rfl (.tmp 42) (.tmp 47) rfl (w2.heap.size + 1) (.slice (some ⟨w2.heap.size + 1, 0, none⟩) 0 0) 0 [] rfl (HMI.out.alloc _) (some ⟨w2.heap.size + 1 + 1, 0, none⟩) 2 2 [p, q] rfl rfl (fun h => by cases h) HSR.out (by decide) ?_ ?_
  · simp
  clear a0 a1
  intro v3 w3 hown3 hgr3 _
  have HS2 := Lib.hid (show (w2.alloc (.cells #[.int .u8 (p : Int), .int .u8 (q : Int)] 33)).heap.size = w2.heap.size + 1 by simp)
  have HW3 := Lib.hid (HW.out.grown hgr3 (by simp) (by intro k hk; simp [Value.ownBlock] at hk; omega))
  obtain ⟨va, vc, rfl⟩ := own_form hown3
  have HO3 := Lib.hid hown3
  clear hown3 hgr3 HMI HSR HW
  have HB3 := Lib.hid (bytes_src (bytes_below HBB.out (by rw [HS2.out]; exact HW3.out)))
  have HZ3 := Lib.hid (show w2.heap.size + 1 ≤ w3.heap.size from by have := HW3.out.size; rw [HS2.out] at this; exact this)
  clear HBB
  go_wp2_with (at_builtin; refine wpList_mark ?_)
  refine Lib.hid ?_
  refine append_own rfl (.tmp 48) (.tmp 49) rfl (w2.heap.size + 1) _ (0 + 2) ([] ++ u8s [p, q]) rfl HO3.out ad len cap xs rfl HLE.out HNI.out HB3.out ?_ HZ3.out ?_
  · omega
  intro v4 w4 hown4 hgr4 _
  have HW4 := Lib.hid (HW3.out.grown hgr4 HZ3.out (by intro k hk; have := own_ge HO3.out hk; omega))
  obtain ⟨g, c, rfl, hL, c0, c1⟩ := own_two hown4
  have HC0 := Lib.hid c0
  have HC1 := Lib.hid c1
  rw [← HS2.out] at HW4
  have HG4 := Lib.hid (hand_of HHG.out HW4.out)
  have HT4 := Lib.hid (HT0.out.below HW4.out)
  have H4 := kept_hid H2 HW4.out
  clear hown4 hgr4 HO3 HB3 HZ3 HW3 HW4 HT0 HHG H2 c0 c1 HS2 HNI HLE
  go_wp2_with fail
  refine (HG.out g _ c _ hL HC0.out HC1.out).mono ?_
  rintro e w5 ⟨rfl, hb5⟩
  have hg5 := hand_of HG4.out hb5
  have hT5 := HT4.out.below hb5
  have H5 := kept_hid H4 hb5
  clear hb5 HG4 HT4 HC0 HC1 HG H4
  go_wp2_with fail
  refine (HA.out _ hT5).mono ?_
  rintro e w6 ⟨rfl, hb6⟩
  have hT6 := hT5.below hb6
  have H6 := kept_hid H5 hb6
  clear hb6 hg5 hT5 HA H5
  go_wp2_with fail
  refine (HZ.out _).mono ?_
  rintro e w7 ⟨rfl, hb7⟩
  obtain ⟨hT8, hA8⟩ := two_new w7 33 b0 b1
  have hT7 := (hT6.below hb7).below hA8
  have H7 := kept_hid (kept_hid H6 hb7) hA8
  have e0 := hT7.c0
  have e1 := hT7.c1
  have d0 := hT8.c0
  have d1 := hT8.c1
  have q1 := eql_two b0 b1 b0 b1
  rw [show (b0 == b0 && b1 == b1) = true by simp] at q1
  clear hb7 hA8 hT6 hT7 hT8 H6 HZ
  go_wp2_with fail
  go_ret
  exact ⟨rfl, H7.out⟩
end Adr
end Go.Proofs.YtdpipjcihnghpaaDoor
