/- takeCommand by the plain function; Read of package stream. Written by tools/gen_str_read.py. -/
import Derived.Test.YtmllmmamdkjndaaDoorStrCmd
namespace Go.Proofs.YtmllmmamdkjndaaDoor
open Go.RowKit Sha Cut Err Six Att Byt Apd
namespace Str
open Go.Proofs.YtmllmmamdkjndaaDoor.Ord
theorem cread_cons (c : Nat) (ys : List Nat) (z : Nat) (hl : (c :: ys).length ≤ 8192) : cread (c :: ys) z =
    if known (c : Int) = false then (noneC, 5, 0)
    else if writes (c : Int) = false then if ys ≠ [] then (noneC, 1, 1) else (⟨c, false, false, false, []⟩, 0, -1)
    else match ys with
    | [] => (noneC, 2, 1)
    | b :: r =>
      if noWrite b = true then (noneC, 3, 1)
      else if (ords z r.length 2 r).2.1 ≠ 0 then (noneC, (ords z r.length 2 r).2.1, ((ords z r.length 2 r).2.2 : Int))
      else (⟨c, b % 64 / 4 % 2 == 1, b % 64 / 2 % 2 == 1, b % 64 % 2 == 1, (ords z r.length 2 r).1⟩, 0, -1) := by
  unfold cread
  rw [if_neg (by omega)]
  cases ys <;> rfl
theorem command_any {C g : Nat} {xs : List Nat} (z : Nat) (w : World) (h : Cur w C g xs 0 .nilIface) (hx : xs.length ≤ 8192) (h8 : ∀ x ∈ xs, x < 256) :
    Calls Tryd.prog 29 #[.pointer (some ⟨C, 0, none⟩), .int .i64 (z : Int)] w fun e w' => ∃ (c : Int) (a u r : Bool) (ad : Option Addr) (n cp : Nat), e = .returned (.agg #[.int .i64 c, .bool a, .bool u, .bool r, .slice ad n cp]) ∧ w.grownBy w' (some C) ∧
      (((cread xs z).2.1 = 0 ∧ c = (cread xs z).1.cmd ∧ a = (cread xs z).1.a ∧ u = (cread xs z).1.u ∧ r = (cread xs z).1.r ∧ OrdsIn w' w.heap.size (.slice ad n cp) (cread xs z).1.os ∧ ∃ at_, Cur w' C g xs at_ .nilIface) ∨
       ((cread xs z).2.1 ≠ 0 ∧ ∃ ev at_ wh, Cur w' C g xs at_ ev ∧ Byt.Met w' ev ((cread xs z).2.1 : Int) wh ∧ (wh : Int) = (cread xs z).2.2)) := by
  have hx6 : xs.length < 1000000 := by omega
  cases xs with
  | nil =>
    refine (command_none z w h hx6 rfl).mono ?_
    rintro e w' ⟨c, a, u, r, ad, n, cp, he, hg, ev, at_, hu, hm⟩
    exact ⟨c, a, u, r, ad, n, cp, he, hg, .inr ⟨by show (2 : Nat) ≠ 0; decide, ev, at_, 0, hu, hm, rfl⟩⟩
  | cons c ys =>
    have hc8 := h8 c (by simp)
    have hcg : (c :: ys).getD 0 0 = c := rfl
    rw [cread_cons c ys z hx]
    cases hk : known (c : Int) with
    | false =>
      rw [if_pos rfl]
      refine (command_strange z w h hx6 (by simp) hc8 hk).mono ?_
      rintro e w' ⟨c, a, u, r, ad, n, cp, he, hg, ev, at_, hu, hm⟩
      exact ⟨c, a, u, r, ad, n, cp, he, hg, .inr ⟨by show (5 : Nat) ≠ 0; decide, ev, at_, 0, hu, hm, rfl⟩⟩
    | true =>
      rw [if_neg (by decide)]
      cases hw : writes (c : Int) with
      | false =>
        rw [if_pos rfl]
        by_cases hys : ys = []
        · subst hys
          rw [if_neg (by simp)]
          refine (command_bare z w h hx6 (by simp) hc8 c hcg hk hw rfl).mono ?_
          rintro e w' ⟨ad, n, cp, he, hg, ho, hu⟩
          exact ⟨_, _, _, _, ad, n, cp, he, hg, .inl ⟨rfl, rfl, rfl, rfl, rfl, ho, hu⟩⟩
        · rw [if_pos hys]
          have hpos : 0 < ys.length := List.length_pos_iff.2 hys
          refine (command_more z w h hx6 (by simp) hc8 c hcg hk hw (by simp; omega)).mono ?_
          rintro e w' ⟨c, a, u, r, ad, n, cp, he, hg, ev, at_, hu, hm⟩
          exact ⟨c, a, u, r, ad, n, cp, he, hg, .inr ⟨by show (1 : Nat) ≠ 0; decide, ev, at_, 1, hu, hm, rfl⟩⟩
      | true =>
        rw [if_neg (by decide)]
        cases ys with
        | nil =>
          refine (command_cut z w h hx6 (by simp) hc8 c hcg hk hw rfl).mono ?_
          rintro e w' ⟨c, a, u, r, ad, n, cp, he, hg, ev, at_, hu, hm⟩
          exact ⟨c, a, u, r, ad, n, cp, he, hg, .inr ⟨by show (2 : Nat) ≠ 0; decide, ev, at_, 1, hu, hm, rfl⟩⟩
        | cons b r =>
          have hb8 := h8 b (by simp)
          simp only
          cases hn : noWrite b with
          | true =>
            rw [if_pos rfl]
            refine (command_wcc z w h hx6 (by simp) hc8 c hcg hk hw (by simp) hb8 hn).mono ?_
            rintro e w' ⟨c, a, u, r, ad, n, cp, he, hg, ev, at_, hu, hm⟩
            exact ⟨c, a, u, r, ad, n, cp, he, hg, .inr ⟨by show (3 : Nat) ≠ 0; decide, ev, at_, 1, hu, hm, rfl⟩⟩
          | false =>
            rw [if_neg (by decide)]
            obtain ⟨a, u, s, rfl⟩ := write_cases b hb8 hn
            have hn2 := wnum_lt a u s
            have hbit : (put (wnum a u s) % 64 / 4 % 2 == 1) = a ∧ (put (wnum a u s) % 64 / 2 % 2 == 1) = u ∧ (put (wnum a u s) % 64 % 2 == 1) = s := by
              rw [put_low _ (by omega)]
              cases a <;> cases u <;> cases s <;> decide
            rw [hbit.1, hbit.2.1, hbit.2.2]
            have hR : ords z r.length 2 r = ords z ((c :: put (wnum a u s) :: r).length - 2) 2 ((c :: put (wnum a u s) :: r).drop 2) := rfl
            by_cases hE : (ords z r.length 2 r).2.1 = 0
            · rw [if_neg (by rw [hE]; simp)]
              refine (command_orders z w h hx6 (by simp) hc8 c hcg hk hw (by simp) h8 a u s rfl _ hR hE).mono ?_
              rintro e w' ⟨ad, n, cp, he, hg, ho, hu⟩
              exact ⟨_, _, _, _, ad, n, cp, he, hg, .inl ⟨rfl, rfl, rfl, rfl, rfl, ho, hu⟩⟩
            · rw [if_pos hE]
              refine (command_wrong z w h hx6 (by simp) hc8 c hcg hk hw (by simp) h8 a u s rfl _ hR hE).mono ?_
              rintro e w' ⟨c, a, u, r, ad, n, cp, he, hg, ev, at_, hu, hm⟩
              exact ⟨c, a, u, r, ad, n, cp, he, hg, .inr ⟨hE, ev, at_, _, hu, hm, rfl⟩⟩
theorem set5b (a : World) (B : Nat) (t : TypeId) (a0 a1 a2 a3 a4 u0 u1 u2 u3 u4 : Value) {w : World} (h : a.heap[B]? = some (.cells #[a0, a1, a2, a3, a4] t (0, 0))) (hb : Below w.heap.size w a) (hB : w.heap.size ≤ B) :
    (((((a.setCell ⟨B, 0, none⟩ u0).setCell ⟨B, 1, none⟩ u1).setCell ⟨B, 2, none⟩ u2).setCell ⟨B, 3, none⟩ u3).setCell ⟨B, 4, none⟩ u4).heap[B]? = some (.cells #[u0, u1, u2, u3, u4] t (0, 0)) ∧
    a.grownBy (((((a.setCell ⟨B, 0, none⟩ u0).setCell ⟨B, 1, none⟩ u1).setCell ⟨B, 2, none⟩ u2).setCell ⟨B, 3, none⟩ u3).setCell ⟨B, 4, none⟩ u4) (some B) ∧
    Below w.heap.size w (((((a.setCell ⟨B, 0, none⟩ u0).setCell ⟨B, 1, none⟩ u1).setCell ⟨B, 2, none⟩ u2).setCell ⟨B, 3, none⟩ u3).setCell ⟨B, 4, none⟩ u4) := by
  obtain ⟨h1, h2, _⟩ := set5g u0 u1 u2 u3 u4 h (gbelow hb none) hB
  exact ⟨h1, h2, hb.grown h2 hb.size (by intro k hk; injection hk with hk; omega)⟩
set_option maxRecDepth 100000 in
set_option maxHeartbeats 4000000 in
theorem read_long {xs : List Nat} (ad : Option Addr) (cap z : Nat) (w : World) (_hB : BytesIn w (.slice ad xs.length cap) xs) (_h8 : ∀ x ∈ xs, x < 256) (_hn : ad = none → xs.length = 0 ∧ cap = 0) (hl : 8192 < xs.length) (hx : xs.length < 1000000) :
    Calls Tryd.prog 18 #[.slice ad xs.length cap, .int .i64 (z : Int)] w fun e w' => ∃ ev, e = .returned (.tuple #[.agg #[.int .i64 0, .bool false, .bool false, .bool false, .slice none 0 0], ev]) ∧ Err.Told w' ev ((cread xs z).2.1 : Int) (cread xs z).2.2 ∧ Below w.heap.size w w' := by
  have HA := Lib.hid (al_any w (.cells #[.int .i64 0, .bool false, .bool false, .bool false, .slice none 0 0] 26))
  have HN := Lib.hid (heap_alloc_new w (.cells #[.int .i64 0, .bool false, .bool false, .bool false, .slice none 0 0] 26))
  have e0 : cread xs z = (noneC, 6, 8192) := by unfold cread; rw [if_pos hl]
  rw [e0]
  have hg : decide ((8192 : Int) < (xs.length : Int)) = true := by simp; omega
  clear e0 hl
  go_enter Tryd.func18, Tryd.ntmps18
  go_upto_region 2 with (fail)
  generalize w.alloc (.cells #[.int .i64 0, .bool false, .bool false, .bool false, .slice none 0 0] 26) = w1 at *
  have l1 : w.heap.size < w1.heap.size := there_lt HN.out
  obtain ⟨d0, d1, d2, d3, d4⟩ := cells5 HN.out
  obtain ⟨f0, f1, f2, f3, f4⟩ := free5 HN.out
  have D1 := Lib.hid d1
  go_wp2_with fail
  clear d0 d1 d2 d3 d4 f0 f1 f2 f3 f4
  have SF := Lib.hid (set5b w1 w.heap.size 26 _ _ _ _ _ (.int .i64 0) (.bool false) (.bool false) (.bool false) (.slice none 0 0) HN.out HA.out (Nat.le_refl _))
  have hs : (((((w1.setCell ⟨w.heap.size, 0, none⟩ (.int .i64 0)).setCell ⟨w.heap.size, 1, none⟩ (.bool false)).setCell ⟨w.heap.size, 2, none⟩ (.bool false)).setCell ⟨w.heap.size, 3, none⟩ (.bool false)).setCell ⟨w.heap.size, 4, none⟩ (.slice none 0 0)).heap.size = w1.heap.size := by simp [World.setCell]
  generalize ((((w1.setCell ⟨w.heap.size, 0, none⟩ (.int .i64 0)).setCell ⟨w.heap.size, 1, none⟩ (.bool false)).setCell ⟨w.heap.size, 2, none⟩ (.bool false)).setCell ⟨w.heap.size, 3, none⟩ (.bool false)).setCell ⟨w.heap.size, 4, none⟩ (.slice none 0 0) = wz at *
  have HS := al_any wz (.cells #[.int .i64 8192, .iface 55 (.int .i64 6)] 64)
  have HL := heap_alloc_new wz (.cells #[.int .i64 8192, .iface 55 (.int .i64 6)] 64)
  rw [hs] at HL
  have HZ := blk SF.out.1 HS
  have HB2 := kept_trans SF.out.2.2 HS
  generalize wz.alloc _ = wy at *
  refine bodyPost_ret (v := .tuple #[.agg #[.int .i64 0, .bool false, .bool false, .bool false, .slice none 0 0], .iface 61 (.pointer (some ⟨w1.heap.size, 0, none⟩))]) (results_cell_row_tmp rfl _ _ _ w.heap.size _ rfl (run_loadVar_row wy w.heap.size 26 26 _ (0, 0) _ HZ Tryd.underlying26 rfl (by kernel_rfl)) (.iface 61 (.pointer (some ⟨w1.heap.size, 0, none⟩))) rfl) rfl ?_
  have c0 := cell_of_row wy w1.heap.size 0 _ _ (0, 0) HL
  have c1 := cell_of_row wy w1.heap.size 1 _ _ (0, 0) HL
  exact ⟨_, rfl, .inr (.inr ⟨0, w1.heap.size, rfl, c0, _, _, _, rfl, c0, c1, rfl⟩), HB2⟩
set_option maxRecDepth 100000 in
set_option maxHeartbeats 8000000 in
theorem read_bad {xs : List Nat} (ad : Option Addr) (cap z : Nat) (w : World) (hB : BytesIn w (.slice ad xs.length cap) xs) (h8 : ∀ x ∈ xs, x < 256) (hn : ad = none → xs.length = 0 ∧ cap = 0) (hl : xs.length ≤ 8192) (hE : (cread xs z).2.1 ≠ 0) :
    Calls Tryd.prog 18 #[.slice ad xs.length cap, .int .i64 (z : Int)] w fun e w' => ∃ ev, e = .returned (.tuple #[.agg #[.int .i64 0, .bool false, .bool false, .bool false, .slice none 0 0], ev]) ∧ Err.Told w' ev ((cread xs z).2.1 : Int) (cread xs z).2.2 ∧ Below w.heap.size w w' := by
  have HA := Lib.hid (al_any w (.cells #[.int .i64 0, .bool false, .bool false, .bool false, .slice none 0 0] 26))
  have HN := Lib.hid (heap_alloc_new w (.cells #[.int .i64 0, .bool false, .bool false, .bool false, .slice none 0 0] 26))
  have hg : decide ((8192 : Int) < (xs.length : Int)) = false := by simp; omega
  have HNEW := Lib.hid (fun W hb => new_any ad xs.length cap xs W (bytes_below hB hb) hn (by omega))
  have HCMD := Lib.hid (fun (W : World) (C g : Nat) (hu : Cur W C g xs 0 .nilIface) => command_any z W hu hl h8)
  have HE := Lib.hid hE
  clear hB h8 hn hE hl
  go_enter Tryd.func18, Tryd.ntmps18
  go_wp2_with fail
  generalize w.alloc (.cells #[.int .i64 0, .bool false, .bool false, .bool false, .slice none 0 0] 26) = w1 at *
  with_reducible refine (HNEW.out _ HA.out).mono ?_
  rintro e w2 ⟨C, g, rfl, hu, hC, hG, hb⟩
  have K2 := kept_hid HA hb
  have N2 := Lib.hid (blk HN.out hb)
  have U2 := Lib.hid hu
  have HRC := Lib.hid (show w.heap.size < C from Nat.lt_of_lt_of_le (there_lt HN.out) hC)
  have HRG := Lib.hid (show w.heap.size < g from Nat.lt_of_lt_of_le (there_lt HN.out) hG)
  clear hu hC hG hb HNEW HA HN
  go_wp2_with fail
  with_reducible refine (HCMD.out w2 C g U2.out).mono ?_
  rintro e w3 ⟨c, a, u, r, oa, n, cp, rfl, hg3, hc⟩
  rcases hc with ⟨h0, _⟩ | ⟨_, ev, at_, wh, hu, hm, hwh⟩
  · exact absurd h0 HE.out
  obtain ⟨b, rfl, hm⟩ := hm
  have M3 := Lib.hid hm
  have HWH := Lib.hid hwh
  have N3 := blk_g N2.out hg3 (by intro e; injection e with e; have := HRC.out; omega)
  have K3 := Lib.hid (K2.out.grown hg3 K2.out.size (by intro k hk; injection hk with hk; have := HRC.out; omega))
  have HS := al_any w3 (.cells #[.int .i64 c, .bool a, .bool u, .bool r, .slice oa n cp] 26)
  have N4 := Lib.hid (blk N3 HS)
  have L4 := Lib.hid (heap_alloc_new w3 (.cells #[.int .i64 c, .bool a, .bool u, .bool r, .slice oa n cp] 26))
  have U4 := Lib.hid (hu.below HS)
  have K4 := kept_hid K3 HS
  have M4 := Lib.hid (M3.out.below HS)
  clear HS N3 K3 hu hg3 M3 hm U2 HCMD N2
  go_wp2_with fail
  generalize w3.heap.size = L at *
  generalize w3.alloc (.cells #[.int .i64 c, .bool a, .bool u, .bool r, .slice oa n cp] 26) = w4 at *
  with_reducible refine (err_any w4 U4.out).mono ?_
  rintro e w' ⟨rfl, rfl⟩
  obtain ⟨c0, c1, c2, c3, c4⟩ := cells5 L4.out
  obtain ⟨d0, d1, d2, d3, d4⟩ := cells5 N4.out
  obtain ⟨f0, f1, f2, f3, f4⟩ := free5 N4.out
  have D1 := Lib.hid d1
  go_wp2_with fail
  clear c0 c1 c2 c3 c4 d0 d1 d2 d3 d4 f0 f1 f2 f3 f4
  have SF := Lib.hid (set5b w4 w.heap.size 26 _ _ _ _ _ (.int .i64 0) (.bool false) (.bool false) (.bool false) (.slice none 0 0) N4.out K4.out (Nat.le_refl _))
  generalize ((((w4.setCell ⟨w.heap.size, 0, none⟩ (.int .i64 0)).setCell ⟨w.heap.size, 1, none⟩ (.bool false)).setCell ⟨w.heap.size, 2, none⟩ (.bool false)).setCell ⟨w.heap.size, 3, none⟩ (.bool false)).setCell ⟨w.heap.size, 4, none⟩ (.slice none 0 0) = wz at *
  refine bodyPost_ret (v := .tuple #[.agg #[.int .i64 0, .bool false, .bool false, .bool false, .slice none 0 0], (.iface 61 (.pointer (some ⟨b, 0, none⟩)))]) (results_cell_row_tmp rfl _ _ _ w.heap.size _ rfl (run_loadVar_row wz w.heap.size 26 26 _ (0, 0) _ SF.out.1 Tryd.underlying26 rfl (by kernel_rfl)) (.iface 61 (.pointer (some ⟨b, 0, none⟩))) rfl) rfl ?_
  refine ⟨_, rfl, ?_, SF.out.2.2⟩
  have := Told.other M4.out SF.out.2.1 (fun t x h => by rw [D1.out] at h; cases h)
  rw [HWH.out] at this
  exact this
set_option maxRecDepth 100000 in
set_option maxHeartbeats 8000000 in
theorem read_ok {xs : List Nat} (ad : Option Addr) (cap z : Nat) (w : World) (hB : BytesIn w (.slice ad xs.length cap) xs) (h8 : ∀ x ∈ xs, x < 256) (hn : ad = none → xs.length = 0 ∧ cap = 0) (hl : xs.length ≤ 8192) (hE : (cread xs z).2.1 = 0) :
    Calls Tryd.prog 18 #[.slice ad xs.length cap, .int .i64 (z : Int)] w fun e w' => ∃ oa k oc, e = .returned (.tuple #[.agg #[.int .i64 (cread xs z).1.cmd, .bool (cread xs z).1.a, .bool (cread xs z).1.u, .bool (cread xs z).1.r, .slice oa k oc], .nilIface]) ∧ OrdsIn w' w.heap.size (.slice oa k oc) (cread xs z).1.os ∧ Below w.heap.size w w' := by
  have HA := Lib.hid (al_any w (.cells #[.int .i64 0, .bool false, .bool false, .bool false, .slice none 0 0] 26))
  have HN := Lib.hid (heap_alloc_new w (.cells #[.int .i64 0, .bool false, .bool false, .bool false, .slice none 0 0] 26))
  have hg : decide ((8192 : Int) < (xs.length : Int)) = false := by simp; omega
  have HNEW := Lib.hid (fun W hb => new_any ad xs.length cap xs W (bytes_below hB hb) hn (by omega))
  have HCMD := Lib.hid (fun (W : World) (C g : Nat) (hu : Cur W C g xs 0 .nilIface) => command_any z W hu hl h8)
  have HE := Lib.hid hE
  clear hB h8 hn hE hl
  generalize (cread xs z).1 = cm at *
  obtain ⟨cc, ca, cu, cr, cos⟩ := cm
  simp only at HCMD ⊢
  go_enter Tryd.func18, Tryd.ntmps18
  go_wp2_with fail
  generalize w.alloc (.cells #[.int .i64 0, .bool false, .bool false, .bool false, .slice none 0 0] 26) = w1 at *
  with_reducible refine (HNEW.out _ HA.out).mono ?_
  rintro e w2 ⟨C, g, rfl, hu, hC, hG, hb⟩
  have K2 := kept_hid HA hb
  have N2 := Lib.hid (blk HN.out hb)
  have U2 := Lib.hid hu
  have HRC := Lib.hid (show w.heap.size < C from Nat.lt_of_lt_of_le (there_lt HN.out) hC)
  have HRG := Lib.hid (show w.heap.size < g from Nat.lt_of_lt_of_le (there_lt HN.out) hG)
  clear hu hC hG hb HNEW HA HN
  go_wp2_with fail
  with_reducible refine (HCMD.out w2 C g U2.out).mono ?_
  rintro e w3 ⟨c, a, u, r, oa, n, cp, rfl, hg3, hc⟩
  rcases hc with ⟨_, rfl, rfl, rfl, rfl, ho, at_, hu⟩ | ⟨h0, _⟩
  rotate_left
  · exact absurd HE.out h0
  have O3 := Lib.hid (ho.mono K2.out.size)
  have OG := Lib.hid ho
  have N3 := blk_g N2.out hg3 (by intro e; injection e with e; have := HRC.out; omega)
  have K3 := Lib.hid (K2.out.grown hg3 K2.out.size (by intro k hk; injection hk with hk; have := HRC.out; omega))
  have HS := al_any w3 (.cells #[.int .i64 c, .bool a, .bool u, .bool r, .slice oa n cp] 26)
  have N4 := Lib.hid (blk N3 HS)
  have L4 := Lib.hid (heap_alloc_new w3 (.cells #[.int .i64 c, .bool a, .bool u, .bool r, .slice oa n cp] 26))
  have U4 := Lib.hid (hu.below HS)
  have K4 := kept_hid K3 HS
  have O4 := Lib.hid (O3.out.below HS)
  have OG4 := Lib.hid (OG.out.below HS)
  have HW2 := Lib.hid (there_lt N2.out)
  clear HS N3 K3 hu hg3 O3 OG ho U2 HCMD N2
  go_wp2_with fail
  generalize w3.heap.size = L at *
  generalize w3.alloc (.cells #[.int .i64 c, .bool a, .bool u, .bool r, .slice oa n cp] 26) = w4 at *
  with_reducible refine (err_any w4 U4.out).mono ?_
  rintro e w' ⟨rfl, rfl⟩
  obtain ⟨c0, c1, c2, c3, c4⟩ := cells5 L4.out
  obtain ⟨d0, d1, d2, d3, d4⟩ := cells5 N4.out
  obtain ⟨f0, f1, f2, f3, f4⟩ := free5 N4.out
  have D1 := Lib.hid d1
  go_wp2_with fail
  clear c0 c1 c2 c3 c4 d0 d1 d2 d3 d4 f0 f1 f2 f3 f4
  have SF := Lib.hid (set5b w4 w.heap.size 26 _ _ _ _ _ (.int .i64 c) (.bool a) (.bool u) (.bool r) (.slice oa n cp) N4.out K4.out (Nat.le_refl _))
  generalize ((((w4.setCell ⟨w.heap.size, 0, none⟩ (.int .i64 c)).setCell ⟨w.heap.size, 1, none⟩ (.bool a)).setCell ⟨w.heap.size, 2, none⟩ (.bool u)).setCell ⟨w.heap.size, 3, none⟩ (.bool r)).setCell ⟨w.heap.size, 4, none⟩ (.slice oa n cp) = wz at *
  refine bodyPost_ret (v := .tuple #[.agg #[.int .i64 c, .bool a, .bool u, .bool r, .slice oa n cp], .nilIface]) (results_cell_row_tmp rfl _ _ _ w.heap.size _ rfl (run_loadVar_row wz w.heap.size 26 26 _ (0, 0) _ SF.out.1 Tryd.underlying26 rfl (by kernel_rfl)) .nilIface rfl) rfl ?_
  exact ⟨_, _, _, rfl, (OG4.out.grown SF.out.2.1 HW2.out).mono (Nat.le_of_lt HW2.out), SF.out.2.2⟩
end Str
end Go.Proofs.YtmllmmamdkjndaaDoor
