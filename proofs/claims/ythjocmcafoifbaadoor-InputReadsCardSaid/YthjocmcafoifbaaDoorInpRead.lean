/- takeInput by the plain function; Read of package input. -/
import Derived.Test.YthjocmcafoifbaaDoorInpInput
import Derived.Test.YthjocmcafoifbaaDoorBunErr
import Derived.Deep.RegionHeld3
namespace Go.Proofs.YthjocmcafoifbaaDoor
open Go.RowKit Sha Cut Err Six Att Byt Apd
namespace Inp
theorem iread_cons (c : Nat) (r : List Nat) (z : Nat) (hl : (c :: r).length ≤ 8192) : iread (c :: r) z =
    if aid c = false then ((noneI, 3, 0) : I × Nat × Int)
    else if bare c = true then if r ≠ [] then (noneI, 1, 1) else (⟨c, 0, []⟩, 0, -1)
    else if (Adr.aspec r z).2.1 ≠ 0 then (noneI, (Adr.aspec r z).2.1, 1)
    else if lets (r.drop 2) ≠ [] then if rest (r.drop 2) ≠ [] then (noneI, 3, 3 + (lets (r.drop 2)).length) else (⟨c, ((Adr.aspec r z).1 : Int), [⟨-1, r.drop 2⟩]⟩, 0, -1)
    else if (flds z r.length 3 (r.drop 2)).2.1 ≠ 0 then (noneI, (flds z r.length 3 (r.drop 2)).2.1, ((flds z r.length 3 (r.drop 2)).2.2 : Int))
    else (⟨c, ((Adr.aspec r z).1 : Int), (flds z r.length 3 (r.drop 2)).1⟩, 0, -1) := by
  unfold iread
  rw [if_neg (by omega)]
theorem input_any {C g : Nat} {xs : List Nat} (z : Nat) (w : World) (h : Cur w C g xs 0 .nilIface) (hx : xs.length ≤ 8192) (h8 : ∀ x ∈ xs, x < 256) (R : I × Nat × Int) (hR : R = iread xs z) :
    Calls Tryd.prog 21 #[.pointer (some ⟨C, 0, none⟩), .int .i64 (z : Int)] w fun e w' => (R.2.1 = 0 ∧ Gives w w' C g xs e R.1) ∨ (R.2.1 ≠ 0 ∧ ∃ wh : Nat, Wrong w w' C g xs e R.2.1 wh ∧ (wh : Int) = R.2.2) := by
  have hx6 : xs.length < 1000000 := by omega
  cases xs with
  | nil =>
    have e : R = (noneI, 2, 0) := by rw [hR]; rfl
    subst e
    refine (input_noaid z w h hx6 2 (fun W hu => takeAid_none W hu (Nat.zero_le _))).mono ?_
    intro e w' hw
    exact .inr ⟨by show (2 : Nat) ≠ 0; decide, 0, hw, rfl⟩
  | cons c r =>
    have hc8 := h8 c (by simp)
    have hcg : (c :: r).getD 0 0 = c := rfl
    have hl0 : 0 < (c :: r).length := by simp
    rw [iread_cons c r z hx] at hR
    cases hk : aid c with
    | false =>
      rw [if_pos hk] at hR
      subst hR
      refine (input_noaid z w h hx6 3 (fun W hu => takeAid_bad W hu hl0 hc8 hk)).mono ?_
      intro e w' hw
      exact .inr ⟨by show (3 : Nat) ≠ 0; decide, 0, hw, rfl⟩
    | true =>
      rw [if_neg (by rw [hk]; decide)] at hR
      cases hb : bare c with
      | true =>
        rw [if_pos hb] at hR
        by_cases hr : r = []
        · subst hr
          rw [if_neg (by simp)] at hR
          subst hR
          refine (input_bare z w h hx6 hl0 hc8 c hcg hk hb rfl).mono ?_
          intro e w' hw
          exact .inl ⟨rfl, hw⟩
        · rw [if_pos hr] at hR
          subst hR
          have hpos : 0 < r.length := List.length_pos_iff.2 hr
          refine (input_more z w h hx6 hl0 hc8 c hcg hk hb (by simp only [List.length_cons]; omega)).mono ?_
          intro e w' hw
          exact .inr ⟨by show (1 : Nat) ≠ 0; decide, 1, hw, rfl⟩
      | false =>
        rw [if_neg (by rw [hb]; decide)] at hR
        by_cases hs : (Adr.aspec r z).2.1 = 0
        · rw [if_neg (by rw [hs]; simp)] at hR
          obtain ⟨a, r2, _, _, hr, hsp⟩ := Adr.put_aspec r z (fun x hx => h8 x (List.mem_cons_of_mem _ hx)) hs
          have hd : (c :: r).drop 3 = r.drop 2 := rfl
          have haa : Adr.aspec ((c :: r).drop 1) z = (a, 0, -1) := hsp
          rw [hsp, ← hd] at hR
          have h3 : 3 ≤ (c :: r).length := by rw [hr]; simp
          have hdl : ((c :: r).drop 3).length = (c :: r).length - 3 := List.length_drop
          have hlr := congrArg List.length (lets_rest ((c :: r).drop 3))
          simp only [List.length_append] at hlr
          by_cases hn : lets ((c :: r).drop 3) = []
          · rw [if_neg (by simpa using hn)] at hR
            obtain ⟨Q, hQ⟩ : ∃ Q, Q = flds z r.length 3 ((c :: r).drop 3) := ⟨_, rfl⟩
            rw [← hQ] at hR
            have hRuns : Runs z (c :: r) Q [] 3 := by rw [hQ]; exact runs_start h3 (by simp only [List.length_cons]; omega)
            refine (input_flds z w h hx6 hl0 hc8 c hcg hk hb h8 a haa Q.2.1 Q.2.2 Q.1 (fun W hu => (takeFields_runs z W hu h8 hx6 hn Q hRuns).mono ?_)).mono ?_
            · rintro e w' ⟨va, vn, vc, he, hg, hcase⟩
              rcases hcase with ⟨h0, ho, hu⟩ | hE
              · exact ⟨va, vn, vc, he, hg, .inl ⟨h0, ho, _, hu⟩⟩
              · exact ⟨va, vn, vc, he, hg, .inr hE⟩
            · rintro e w' (⟨h0, hw⟩ | ⟨h0, hw⟩)
              · rw [if_neg (by rw [h0]; simp)] at hR
                subst hR
                exact .inl ⟨rfl, hw⟩
              · rw [if_pos h0] at hR
                subst hR
                exact .inr ⟨h0, _, hw, rfl⟩
          · rw [if_pos hn] at hR
            have hpos : 0 < (lets ((c :: r).drop 3)).length := List.length_pos_iff.2 hn
            by_cases hrs : rest ((c :: r).drop 3) = []
            · rw [if_neg (by simpa using hrs)] at hR
              have hall := lets_rest ((c :: r).drop 3)
              rw [hrs, List.append_nil] at hall
              rw [hrs, List.length_nil, Nat.add_zero] at hlr
              refine (input_flds z w h hx6 hl0 hc8 c hcg hk hb h8 a haa 0 0 [⟨-1, (c :: r).drop 3⟩] (fun W hu => (takeFields_all z W hu h8 hx6 _ rfl hpos (by omega)).mono ?_)).mono ?_
              · rintro e w' ⟨va, vc, he, hg, ho, hu⟩
                rw [hall] at ho
                exact ⟨va, 1, vc, he, hg, .inl ⟨rfl, ho, _, hu⟩⟩
              · rintro e w' (⟨_, hw⟩ | ⟨h0, _⟩)
                · subst hR
                  exact .inl ⟨rfl, hw⟩
                · exact absurd rfl h0
            · rw [if_pos hrs] at hR
              have hpr : 0 < (rest ((c :: r).drop 3)).length := List.length_pos_iff.2 hrs
              refine (input_flds z w h hx6 hl0 hc8 c hcg hk hb h8 a haa 3 (3 + (lets ((c :: r).drop 3)).length) [] (fun W hu => (takeFields_some z W hu h8 hx6 _ rfl hpos (by omega)).mono ?_)).mono ?_
              · rintro e w' ⟨va, vn, vc, he, hg, ev, at', hu, hm⟩
                exact ⟨va, vn, vc, he, hg, .inr ⟨by decide, ev, at', hu, hm⟩⟩
              · rintro e w' (⟨h0, _⟩ | ⟨h0, hw⟩)
                · cases h0
                · subst hR
                  exact .inr ⟨h0, _, hw, by simp⟩
        · rw [if_pos hs] at hR
          subst hR
          refine (input_addr z w h hx6 hl0 hc8 c hcg hk hb h8 _ rfl hs).mono ?_
          intro e w' hw
          exact .inr ⟨hs, 1, hw, rfl⟩
theorem set3c (a : World) (B : Nat) (t : TypeId) (a0 a1 a2 u0 u1 u2 : Value) {w : World} (h : a.heap[B]? = some (.cells #[a0, a1, a2] t (0, 0))) (hb : Below w.heap.size w a) (hB : w.heap.size ≤ B) :
    (((a.setCell ⟨B, 0, none⟩ u0).setCell ⟨B, 1, none⟩ u1).setCell ⟨B, 2, none⟩ u2).heap[B]? = some (.cells #[u0, u1, u2] t (0, 0)) ∧
    a.grownBy (((a.setCell ⟨B, 0, none⟩ u0).setCell ⟨B, 1, none⟩ u1).setCell ⟨B, 2, none⟩ u2) (some B) ∧
    Below w.heap.size w (((a.setCell ⟨B, 0, none⟩ u0).setCell ⟨B, 1, none⟩ u1).setCell ⟨B, 2, none⟩ u2) := by
  obtain ⟨h1, h2, _⟩ := set3g u0 u1 u2 h (gbelow hb none) hB
  exact ⟨h1, h2, hb.grown h2 hb.size (by intro k hk; injection hk with hk; omega)⟩
set_option maxRecDepth 100000 in
set_option maxHeartbeats 4000000 in
theorem read_long {xs : List Nat} (ad : Option Addr) (cap z : Nat) (w : World) (hl : 8192 < xs.length) (hx : xs.length < 1000000) :
    Calls Tryd.prog 9 #[.slice ad xs.length cap, .int .i64 (z : Int)] w fun e w' => ∃ b, e = .returned (.tuple #[.agg #[.int .u8 0, .int .i64 0, .slice none 0 0], .iface 49 (.pointer (some ⟨b, 0, none⟩))]) ∧ Err.Told w' (.iface 49 (.pointer (some ⟨b, 0, none⟩))) 6 8192 ∧ Below w.heap.size w w' := by
  have HA := Lib.hid (al_any w (.cells #[.int .u8 0, .int .i64 0, .slice none 0 0] 27))
  have HN := Lib.hid (heap_alloc_new w (.cells #[.int .u8 0, .int .i64 0, .slice none 0 0] 27))
  have hg : (8192 : Int) < (xs.length : Int) := by omega
  have HX := Lib.hid hx
  clear hl hx
  go_enter Tryd.func9, Tryd.ntmps9
  go_upto_region 2 with (fail)
  generalize w.alloc (.cells #[.int .u8 0, .int .i64 0, .slice none 0 0] 27) = w1 at *
  have l1 : w.heap.size < w1.heap.size := there_lt HN.out
  obtain ⟨d0, d1, d2⟩ := cells3 HN.out
  obtain ⟨f0, f1, f2⟩ := free3 HN.out
  have D1 := Lib.hid d1
  go_wp2_with fail
  clear d0 d1 d2 f0 f1 f2
  have SF := Lib.hid (set3c w1 w.heap.size 27 _ _ _ (.int .u8 0) (.int .i64 0) (.slice none 0 0) HN.out HA.out (Nat.le_refl _))
  have hs : (((w1.setCell ⟨w.heap.size, 0, none⟩ (.int .u8 0)).setCell ⟨w.heap.size, 1, none⟩ (.int .i64 0)).setCell ⟨w.heap.size, 2, none⟩ (.slice none 0 0)).heap.size = w1.heap.size := by simp [World.setCell]
  generalize ((w1.setCell ⟨w.heap.size, 0, none⟩ (.int .u8 0)).setCell ⟨w.heap.size, 1, none⟩ (.int .i64 0)).setCell ⟨w.heap.size, 2, none⟩ (.slice none 0 0) = wz at *
  have HS := al_any wz (.cells #[.int .i64 8192, .iface 50 (.int .i64 6)] 52)
  have HL := heap_alloc_new wz (.cells #[.int .i64 8192, .iface 50 (.int .i64 6)] 52)
  rw [hs] at HL
  have HZ := blk SF.out.1 HS
  have HB2 := kept_trans SF.out.2.2 HS
  generalize wz.alloc _ = wy at *
  refine bodyPost_ret (v := .tuple #[.agg #[.int .u8 0, .int .i64 0, .slice none 0 0], .iface 49 (.pointer (some ⟨w1.heap.size, 0, none⟩))]) (results_cell_row_tmp rfl _ _ _ w.heap.size _ rfl (run_loadVar_row wy w.heap.size 27 27 _ (0, 0) _ HZ Tryd.underlying27 rfl (by kernel_rfl)) (.iface 49 (.pointer (some ⟨w1.heap.size, 0, none⟩))) rfl) rfl ?_
  have c0 := cell_of_row wy w1.heap.size 0 _ _ (0, 0) HL
  have c1 := cell_of_row wy w1.heap.size 1 _ _ (0, 0) HL
  exact ⟨_, rfl, .inr (.inr ⟨0, w1.heap.size, rfl, c0, _, _, _, rfl, c0, c1, rfl⟩), HB2⟩
set_option maxRecDepth 100000 in
set_option maxHeartbeats 8000000 in
theorem read_ok {xs : List Nat} (ad : Option Addr) (cap z : Nat) (w : World) (hB : BytesIn w (.slice ad xs.length cap) xs) (h8 : ∀ x ∈ xs, x < 256) (hn : ad = none → xs.length = 0 ∧ cap = 0) (hl : xs.length ≤ 8192) (R : I × Nat × Int) (hR : R = iread xs z) (hE : R.2.1 = 0) :
    Calls Tryd.prog 9 #[.slice ad xs.length cap, .int .i64 (z : Int)] w fun e w' => ∃ oa k oc, e = .returned (.tuple #[.agg #[.int .u8 (R.1.aid : Int), .int .i64 R.1.cur, .slice oa k oc], .nilIface]) ∧ FldsIn w' w.heap.size (.slice oa k oc) R.1.fs ∧ Below w.heap.size w w' := by
  have HA := Lib.hid (al_any w (.cells #[.int .u8 0, .int .i64 0, .slice none 0 0] 27))
  have HN := Lib.hid (heap_alloc_new w (.cells #[.int .u8 0, .int .i64 0, .slice none 0 0] 27))
  have hg : ¬ (8192 : Int) < (xs.length : Int) := by omega
  have HNEW := Lib.hid (fun W hb => new_any ad xs.length cap xs W (bytes_below hB hb) hn (by omega))
  have HIN := Lib.hid (fun (W : World) (C g : Nat) (hu : Cur W C g xs 0 .nilIface) => (input_any z W hu hl h8 R hR).mono (fun e w' h => h.elim (fun h => h.2) (fun h => absurd hE h.1)))
  clear hB h8 hn hE hl hR
  obtain ⟨⟨cc, ca, cos⟩, cb, cw⟩ := R
  simp only at HIN ⊢
  go_enter Tryd.func9, Tryd.ntmps9
  go_upto_region 1 with (fail)
  generalize w.alloc (.cells #[.int .u8 0, .int .i64 0, .slice none 0 0] 27) = w1 at *
  go_wp2_with fail
  with_reducible refine (HNEW.out _ HA.out).mono ?_
  rintro e w2 ⟨C, g, rfl, hu, hC, hG, hb⟩
  have K2 := kept_hid HA hb
  have N2 := Lib.hid (blk HN.out hb)
  have U2 := Lib.hid hu
  have HRC := Lib.hid (show w.heap.size < C from Nat.lt_of_lt_of_le (there_lt HN.out) hC)
  have HRG := Lib.hid (show w.heap.size < g from Nat.lt_of_lt_of_le (there_lt HN.out) hG)
  clear hu hC hG hb HNEW HA HN
  go_wp2_with fail
  with_reducible refine (HIN.out w2 C g U2.out).mono ?_
  rintro e w3 ⟨oa, n, cp, rfl, hg3, ho, at_, hu⟩
  have N3 := blk_g N2.out hg3 (by intro e; injection e with e; have := HRC.out; omega)
  have K3 := Lib.hid (K2.out.grown hg3 K2.out.size (by intro k hk; injection hk with hk; have := HRC.out; omega))
  have HS := al_any w3 (.cells #[.int .u8 (cc : Int), .int .i64 ca, .slice oa n cp] 27)
  have N4 := Lib.hid (blk N3 HS)
  have L4 := Lib.hid (heap_alloc_new w3 (.cells #[.int .u8 (cc : Int), .int .i64 ca, .slice oa n cp] 27))
  have U4 := Lib.hid (hu.below HS)
  have K4 := kept_hid K3 HS
  have O4 := Lib.hid (ho.below HS)
  have HOB := Lib.hid (there_lt N2.out)
  clear HS N3 K3 hu hg3 U2 HIN N2 ho
  go_upto_region 5 with (fail)
  generalize w3.alloc (.cells #[.int .u8 (cc : Int), .int .i64 ca, .slice oa n cp] 27) = w4 at *
  have A5 := al_any w4 (.cells #[.pointer none] 49)
  have N5 := Lib.hid (blk N4.out A5)
  have L5 := Lib.hid (blk L4.out A5)
  have U5 := Lib.hid (U4.out.below A5)
  have K5 := kept_hid K4 A5
  have O5 := Lib.hid (O4.out.below A5)
  clear A5 N4 L4 U4 K4 O4
  go_upto_region 6 with (fail)
  generalize w4.alloc (.cells #[.pointer none] 49) = w5 at *
  generalize w4.heap.size = V at *
  generalize w3.heap.size = L at *
  go_wp2_with fail
  with_reducible refine (err_any w5 U5.out).mono ?_
  rintro e w' ⟨rfl, rfl⟩
  go_wp2_with fail
  with_reducible refine (as_nil _ w5).mono ?_
  rintro e w' ⟨rfl, hw⟩
  obtain rfl : w5 = w' := hw.symm
  obtain ⟨c0, c1, c2⟩ := cells3 L5.out
  obtain ⟨d0, d1, d2⟩ := cells3 N5.out
  obtain ⟨f0, f1, f2⟩ := free3 N5.out
  go_wp2_with fail
  clear c0 c1 c2 d0 d1 d2 f0 f1 f2
  have SF := Lib.hid (set3c w5 w.heap.size 27 _ _ _ (.int .u8 (cc : Int)) (.int .i64 ca) (.slice oa n cp) N5.out K5.out (Nat.le_refl _))
  generalize ((w5.setCell ⟨w.heap.size, 0, none⟩ (.int .u8 (cc : Int))).setCell ⟨w.heap.size, 1, none⟩ (.int .i64 ca)).setCell ⟨w.heap.size, 2, none⟩ (.slice oa n cp) = wz at *
  refine bodyPost_ret (v := .tuple #[.agg #[.int .u8 (cc : Int), .int .i64 ca, .slice oa n cp], .nilIface]) (results_cell_row_tmp rfl _ _ _ w.heap.size _ rfl (run_loadVar_row wz w.heap.size 27 27 _ (0, 0) _ SF.out.1 Tryd.underlying27 rfl (by kernel_rfl)) .nilIface rfl) rfl ?_
  exact ⟨_, _, _, rfl, (O5.out.grown SF.out.2.1 HOB.out).mono (Nat.le_of_lt HOB.out), SF.out.2.2⟩
set_option maxRecDepth 100000 in
set_option maxHeartbeats 8000000 in
theorem read_bad {xs : List Nat} (ad : Option Addr) (cap z : Nat) (w : World) (hH : Handle w) (hB : BytesIn w (.slice ad xs.length cap) xs) (h8 : ∀ x ∈ xs, x < 256) (hn : ad = none → xs.length = 0 ∧ cap = 0) (hl : xs.length ≤ 8192) (R : I × Nat × Int) (hR : R = iread xs z) (hE : R.2.1 ≠ 0) :
    Calls Tryd.prog 9 #[.slice ad xs.length cap, .int .i64 (z : Int)] w fun e w' => ∃ b, e = .returned (.tuple #[.agg #[.int .u8 0, .int .i64 0, .slice none 0 0], .iface 49 (.pointer (some ⟨b, 0, none⟩))]) ∧ Err.Told w' (.iface 49 (.pointer (some ⟨b, 0, none⟩))) (R.2.1 : Int) R.2.2 ∧ Below w.heap.size w w' := by
  have HA := Lib.hid (al_any w (.cells #[.int .u8 0, .int .i64 0, .slice none 0 0] 27))
  have HN := Lib.hid (heap_alloc_new w (.cells #[.int .u8 0, .int .i64 0, .slice none 0 0] 27))
  have hg : ¬ (8192 : Int) < (xs.length : Int) := by omega
  have HNEW := Lib.hid (fun W hb => new_any ad xs.length cap xs W (bytes_below hB hb) hn (by omega))
  have HIN := Lib.hid (fun (W : World) (C g : Nat) (hu : Cur W C g xs 0 .nilIface) => (input_any z W hu hl h8 R hR).mono (fun e w' h => h.elim (fun h => absurd h.1 hE) (fun h => h.2)))
  have HH := Lib.hid hH
  clear hB h8 hn hE hl hR hH
  obtain ⟨_, cb, cw⟩ := R
  simp only at HIN ⊢
  go_enter Tryd.func9, Tryd.ntmps9
  go_upto_region 1 with (fail)
  generalize w.alloc (.cells #[.int .u8 0, .int .i64 0, .slice none 0 0] 27) = w1 at *
  go_wp2_with fail
  with_reducible refine (HNEW.out _ HA.out).mono ?_
  rintro e w2 ⟨C, g, rfl, hu, hC, hG, hb⟩
  have K2 := kept_hid HA hb
  have N2 := Lib.hid (blk HN.out hb)
  have U2 := Lib.hid hu
  have HRC := Lib.hid (show w.heap.size < C from Nat.lt_of_lt_of_le (there_lt HN.out) hC)
  clear hu hC hG hb HNEW HA HN
  go_wp2_with fail
  with_reducible refine (HIN.out w2 C g U2.out).mono ?_
  rintro e w3 ⟨wh, ⟨cc, ca, oa, n, cp, rfl, hg3, ev, at_, hu, hm⟩, hwh⟩
  obtain ⟨b, rfl, hm⟩ := hm
  subst hwh
  have N3 := blk_g N2.out hg3 (by intro e; injection e with e; have := HRC.out; omega)
  have K3 := Lib.hid (K2.out.grown hg3 K2.out.size (by intro k hk; injection hk with hk; have := HRC.out; omega))
  have HS := al_any w3 (.cells #[.int .u8 (cc : Int), .int .i64 ca, .slice oa n cp] 27)
  have N4 := Lib.hid (blk N3 HS)
  have U4 := Lib.hid (hu.below HS)
  have K4 := kept_hid K3 HS
  have M4 : Hid (Err.Told (w3.alloc (.cells #[.int .u8 (cc : Int), .int .i64 ca, .slice oa n cp] 27)) _ (cb : Int) (wh : Int)) := Lib.hid (hm.below HS)
  clear HS N3 K3 hu hg3 U2 HIN N2 hm HRC
  go_upto_region 5 with (fail)
  generalize w3.alloc (.cells #[.int .u8 (cc : Int), .int .i64 ca, .slice oa n cp] 27) = w4 at *
  have A5 := al_any w4 (.cells #[.pointer none] 49)
  have V5 := Lib.hid (heap_alloc_new w4 (.cells #[.pointer none] 49))
  have U5 := Lib.hid (U4.out.below A5)
  have K5 := kept_hid K4 A5
  have HAA := Lib.hid A5
  clear A5
  go_upto_region 6 with (fail)
  generalize w4.alloc (.cells #[.pointer none] 49) = w5 at *
  have H5 := Lib.hid (hand_of HH.out K5.out)
  go_wp2_with fail
  with_reducible refine (err_any w5 U5.out).mono ?_
  rintro e w' ⟨rfl, rfl⟩
  go_wp2_with fail
  have hv0 : w5.cell? ⟨w4.heap.size, 0, none⟩ = some (.pointer none) := cell_of_row _ _ 0 _ _ _ V5.out
  have hv1 : w5.frozen? ⟨w4.heap.size, 0, none⟩ = false := by simp [World.frozen?, V5.out]
  have HAS := Lib.hid (as_spot_w b (.pointer none) w4.heap.size w5 H5.out hv0 hv1)
  clear hv0 hv1
  with_reducible refine HAS.out.mono ?_
  rintro e w6 ⟨rfl, hb, hc⟩
  have B6 := Lib.hid (HAA.out.trans hb)
  have N6 := Lib.hid (blk N4.out B6.out)
  have K6 := kept_hid K4 B6.out
  have M6 := Lib.hid (M4.out.below B6.out)
  have HVL := Lib.hid (there_lt N4.out)
  clear hb HAA U5 U4 V5 K5 N4 K4 M4 H5 HAS
  generalize w4.heap.size = V at *
  obtain ⟨d0, d1, d2⟩ := cells3 N6.out
  obtain ⟨f0, f1, f2⟩ := free3 N6.out
  have D1 := Lib.hid d1
  have hne : w.heap.size ≠ V := Nat.ne_of_lt HVL.out
  go_wp2_with fail
  go_region
  go_wp2_with fail
  clear d0 d1 d2 f0 f1 f2
  have SF := Lib.hid (set3c w6 w.heap.size 27 _ _ _ (.int .u8 0) (.int .i64 0) (.slice none 0 0) N6.out K6.out (Nat.le_refl _))
  generalize ((w6.setCell ⟨w.heap.size, 0, none⟩ (.int .u8 0)).setCell ⟨w.heap.size, 1, none⟩ (.int .i64 0)).setCell ⟨w.heap.size, 2, none⟩ (.slice none 0 0) = wz at *
  have HD : Below wz.heap.size wz wz.drew := (Below.refl _ _).drew
  refine bodyPost_ret (v := .tuple #[.agg #[.int .u8 0, .int .i64 0, .slice none 0 0], (.iface 49 (.pointer (some ⟨b, 0, none⟩)))]) (results_cell_row_tmp rfl _ _ _ w.heap.size _ rfl (run_loadVar_row _ w.heap.size 27 27 _ (0, 0) _ (blk SF.out.1 HD) Tryd.underlying27 rfl (by kernel_rfl)) (.iface 49 (.pointer (some ⟨b, 0, none⟩))) rfl) rfl ?_
  exact ⟨_, rfl, (Told.other M6.out SF.out.2.1 (fun t x h => by rw [D1.out] at h; cases h)).below HD, kept_trans SF.out.2.2 HD⟩
theorem iread_right {xs : List Nat} {z : Nat} (h : (iread xs z).2.1 = 0) : (iread xs z).2.2 = -1 := by
  unfold iread at h ⊢
  by_cases hl : 8192 < xs.length
  · rw [if_pos hl] at h; cases h
  rw [if_neg hl] at h ⊢
  cases xs with
  | nil => cases h
  | cons c r =>
    simp only at h ⊢
    by_cases ha : aid c = false
    · rw [if_pos ha] at h; cases h
    rw [if_neg ha] at h ⊢
    by_cases hb : bare c = true
    · rw [if_pos hb] at h ⊢
      by_cases hr : r ≠ []
      · rw [if_pos hr] at h; cases h
      · rw [if_neg hr]
    rw [if_neg hb] at h ⊢
    by_cases hs : (Adr.aspec r z).2.1 ≠ 0
    · rw [if_pos hs] at h; exact absurd h hs
    rw [if_neg hs] at h ⊢
    by_cases h3 : lets (r.drop 2) ≠ []
    · rw [if_pos h3] at h ⊢
      by_cases h5 : rest (r.drop 2) ≠ []
      · rw [if_pos h5] at h; cases h
      · rw [if_neg h5]
    · rw [if_neg h3] at h ⊢
      by_cases h4 : (flds z r.length 3 (r.drop 2)).2.1 ≠ 0
      · rw [if_pos h4] at h; exact absurd h h4
      · rw [if_neg h4]
/-- An error, as Read answers it. -/
def errR (k b : Nat) : Value := if k = 0 then .nilIface else .iface 49 (.pointer (some ⟨b, 0, none⟩))
/-- Read of whatever bytes. -/
theorem read_any {xs : List Nat} (ad : Option Addr) (len cap z : Nat) (w : World) (hH : Handle w) (hB : BytesIn w (.slice ad len cap) xs) (h8 : ∀ x ∈ xs, x < 256) (hn : ad = none → len = 0 ∧ cap = 0) (hx : xs.length < 1000000) (R : I × Nat × Int) (hR : R = iread xs z) :
    Calls Tryd.prog 9 #[.slice ad len cap, .int .i64 (z : Int)] w fun e w' => ∃ oa k oc b, e = .returned (.tuple #[.agg #[.int .u8 (R.1.aid : Int), .int .i64 R.1.cur, .slice oa k oc], errR R.2.1 b]) ∧ FldsIn w' w.heap.size (.slice oa k oc) R.1.fs ∧ Err.Told w' (errR R.2.1 b) (R.2.1 : Int) R.2.2 ∧ Below w.heap.size w w' := by
  have hlen : len = xs.length := by
    obtain ⟨_, _, hv, _⟩ := hB
    injection hv
  subst hlen
  by_cases hl : 8192 < xs.length
  · have e : R = (noneI, 6, 8192) := by rw [hR]; unfold iread; rw [if_pos hl]
    subst e
    refine (read_long ad cap z w hl hx).mono ?_
    rintro e w' ⟨b, rfl, ht, hb⟩
    exact ⟨none, 0, 0, b, rfl, fldsIn_nil _ _, ht, hb⟩
  · by_cases hE : R.2.1 = 0
    · refine (read_ok ad cap z w hB h8 hn (by omega) R hR hE).mono ?_
      rintro e w' ⟨oa, k, oc, rfl, ho, hb⟩
      have hp : R.2.2 = -1 := by rw [hR] at hE ⊢; exact iread_right hE
      refine ⟨oa, k, oc, 0, ?_, ho, ?_, hb⟩
      · unfold errR; rw [if_pos hE]
      · unfold errR; rw [if_pos hE, hE, hp]; exact .inl ⟨rfl, rfl, rfl⟩
    · refine (read_bad ad cap z w hH hB h8 hn (by omega) R hR hE).mono ?_
      rintro e w' ⟨b, rfl, ht, hb⟩
      have hno : R.1 = noneI := by rw [hR] at hE ⊢; exact (iread_fail h8 hE).1
      refine ⟨none, 0, 0, b, ?_, ?_, ?_, hb⟩
      · unfold errR; rw [if_neg hE, hno]; rfl
      · rw [hno]; exact fldsIn_nil _ _
      · unfold errR; rw [if_neg hE]; exact ht
end Inp
end Go.Proofs.YthjocmcafoifbaaDoor
