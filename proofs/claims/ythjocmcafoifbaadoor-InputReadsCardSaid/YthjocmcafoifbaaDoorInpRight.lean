/- checkFields, checkBare and Right of package input. -/
import Derived.Test.YthjocmcafoifbaaDoorInpCheck
namespace Go.Proofs.YthjocmcafoifbaaDoor
open Go.RowKit Sha Cut Err Six Att
namespace Inp
theorem fw_end {z : Nat} {alone : Bool} {i k : Nat} {fs : List F} (hk : fs.length ≤ k) (h : ∀ j, j < k → j < fs.length → fwrong z alone (fs.getD j noneF) = 0) : (fw z alone i fs).1 = 0 := by
  induction fs generalizing i k with
  | nil => rfl
  | cons f fs ih =>
    have h0 := h 0 (by simp at hk; omega) (by simp)
    simp only [List.getD_cons_zero] at h0
    simp only [fw, h0, ne_eq, not_true_eq_false, if_false]
    refine ih (k := fs.length) (Nat.le_refl _) fun j hj hj2 => ?_
    have := h (j + 1) (by simp at hk; omega) (by simp; omega)
    simpa using this
theorem fw_wrong {z : Nat} {alone : Bool} {i k : Nat} {fs : List F} (hk : k < fs.length) (h : ∀ j, j < k → fwrong z alone (fs.getD j noneF) = 0) (hw : fwrong z alone (fs.getD k noneF) ≠ 0) : fw z alone i fs = (fwrong z alone (fs.getD k noneF), i + k) := by
  induction fs generalizing i k with
  | nil => simp at hk
  | cons f fs ih =>
    cases k with
    | zero =>
      simp only [List.getD_cons_zero] at hw ⊢
      simp only [fw, if_pos hw, Nat.add_zero]
    | succ k =>
      have h0 := h 0 (by omega)
      simp only [List.getD_cons_zero] at h0
      simp only [fw, h0, ne_eq, not_true_eq_false, if_false]
      have := ih (i := i + 1) (k := k) (by simpa using hk) (fun j hj => by simpa using h (j + 1) (by omega)) (by simpa using hw)
      rw [this]
      simp only [List.getD_cons_succ]
      rw [Nat.add_right_comm, Nat.add_assoc]
/-- What a check answers: nil, a number, or a Spot. -/
def Said (w : World) (ev : Value) (c : Nat) (p : Int) : Prop :=
  (c = 0 ∧ ev = .nilIface) ∨ (c ≠ 0 ∧ ((p = -1 ∧ ev = .iface 50 (.int .i64 (c : Int))) ∨ ∃ b, ev = .iface 49 (.pointer (some ⟨b, 0, none⟩)) ∧ Err.Told w ev (c : Int) p))
set_option maxRecDepth 100000 in
set_option maxHeartbeats 4000000 in
theorem fields_any (ad : Option Addr) (n cap z : Nat) (os : List F) (w : World) (ho : FldsIn w 0 (.slice ad n cap) os) (hs : Sound os) (hl : os.length < 1000000) (h1 : 1 ≤ z) (h2 : z ≤ 16383) :
    Calls Tryd.prog 36 #[.slice ad n cap, .int .i64 (z : Int)] w fun e w' => ∃ ev, e = .returned ev ∧ Below w.heap.size w w' ∧ (((fw z (os.length == 1) 0 os).1 = 0 ∧ ev = .nilIface) ∨ ((fw z (os.length == 1) 0 os).1 ≠ 0 ∧ ∃ b, ev = .iface 49 (.pointer (some ⟨b, 0, none⟩)) ∧ Err.Told w' ev ((fw z (os.length == 1) 0 os).1 : Int) ((fw z (os.length == 1) 0 os).2 : Int))) := by
  obtain rfl := ho.len
  have HO := Lib.hid ho
  have HS := Lib.hid hs
  have HL := Lib.hid hl
  have HZ1 := Lib.hid h1
  have HZ2 := Lib.hid h2
  have hal : ((os.length : Int) == 1) = (os.length == 1) := by rw [Bool.eq_iff_iff]; simp; omega
  generalize (os.length == 1) = alone at *
  clear ho hs hl h1 h2
  go_enter Tryd.func36, Tryd.ntmps36
  go_wp2_with fail
  go_loopg [10] (os.length + 1) (fun m i wr => ∃ k : Nat, k ≤ os.length ∧ m = os.length + 1 - k ∧ i = .int .i64 k ∧ Hid (Below w.heap.size w wr) ∧ Hid (∀ j, j < k → fwrong z alone (os.getD j noneF) = 0))
  case atStart => exact ⟨0, Nat.zero_le _, rfl, rfl, Lib.hid (Below.refl _ _), Lib.hid nofun⟩
  case round =>
    obtain ⟨k, hk, rfl, rfl, HB, HE⟩ := hrel
    have ew : IntKind.i64.wrap ((k : Int) + 1) = (k : Int) + 1 := by
      have := HL.out
      rw [IntWalk.i64_in] <;> omega
    by_cases hlt : k < os.length
    · obtain ⟨pa, pt, ex⟩ := f_eta (os.getD k noneF)
      obtain ⟨b1, o1, t1, m1, q1, rfl, g0, g1, B1, _⟩ := (HO.out.below HB.out).cells hlt ex
      have lb1 := cell_lt g0
      have hi0 : (0 : Int) ≤ (k : Int) := by omega
      have hi1 : (k : Int) < (os.length : Int) := by omega
      have sx := sound_at HS.out k
      rw [ex] at sx
      have HA := Lib.hid (al_any wr (.cells #[.int .i64 pa, .slice t1 m1 q1] 47))
      have HF := Lib.hid (field_any (a := pa) (t := pt) alone t1 m1 q1 z _ (bytes_below B1 HA.out) sx.1 sx.2 HZ1.out HZ2.out)
      have HK := kept_hid HB HA.out
      have HN := Lib.hid (show fwrong z alone ⟨pa, pt⟩ = 0 → ∀ j, j < k + 1 → fwrong z alone (os.getD j noneF) = 0 from fun h j hj => by
        by_cases hjk : j = k
        · subst hjk; rw [ex]; exact h
        · exact HE.out j (by omega))
      have HW := Lib.hid (show fwrong z alone ⟨pa, pt⟩ ≠ 0 → fw z alone 0 os = (fwrong z alone ⟨pa, pt⟩, k) from fun h => by
        have := fw_wrong (i := 0) hlt HE.out (by rw [ex]; exact h)
        rw [ex, Nat.zero_add] at this
        exact this)
      clear sx B1
      generalize fwrong z alone ⟨pa, pt⟩ = c at *
      go_wp2_with fail
      clear g0 g1 lb1
      by_cases hc : c = 0
      · subst hc
        have HN2 := Lib.hid (HN.out rfl)
        clear HN HW
        rw [errv_0] at HF
        with_reducible refine HF.out.mono ?_
        rintro e w2 ⟨rfl, hb⟩
        have HK2 := kept_hid HK hb
        clear hb HF HK
        go_wp2_with fail
        go_roundg (os.length + 1 - (k + 1))
        case measure => omega
        case rel => exact ⟨k + 1, by omega, rfl, rfl, HK2, HN2⟩
      · have HW2 := Lib.hid (HW.out hc)
        have HC := Lib.hid hc
        rw [show errv c = .iface 50 (.int .i64 (c : Int)) from if_neg hc] at HF
        clear hc HN HW
        with_reducible refine HF.out.mono ?_
        rintro e w2 ⟨rfl, hb⟩
        have HK2 := kept_hid HK hb
        have K4 := kept_alloc HK2 (.cells #[.int .i64 (k : Int), .iface 50 (.int .i64 (c : Int))] 52)
        have L4 := heap_alloc_new w2 (.cells #[.int .i64 (k : Int), .iface 50 (.int .i64 (c : Int))] 52)
        have C0 := Lib.hid (cell_of_row _ w2.heap.size 0 _ _ (0, 0) L4)
        have C1 := Lib.hid (cell_of_row _ w2.heap.size 1 _ _ (0, 0) L4)
        clear hb HF HK HK2 L4
        go_wp2_with fail
        go_ret
        refine ⟨_, rfl, K4.out, .inr ?_⟩
        rw [HW2.out]
        exact ⟨HC.out, _, rfl, .inr (.inr ⟨0, w2.heap.size, rfl, C0.out, _, _, _, rfl, C0.out, C1.out, rfl⟩)⟩
    · obtain rfl : k = os.length := by omega
      have HT := Lib.hid (show (fw z alone 0 os).1 = 0 from fw_end (Nat.le_refl _) fun j hj _ => HE.out j hj)
      clear hlt
      have hn0 : ¬ (os.length : Int) < (os.length : Int) := by omega
      go_wp2_with fail
      go_ret
      exact ⟨_, rfl, HB.out, .inl ⟨HT.out, rfl⟩⟩
theorem bare_yes (aid : Nat) (ad : Option Addr) (n cap : Nat) (w : World) (hn : n = 0) :
    Calls Tryd.prog 34 #[.agg #[.int .u8 (aid : Int), .int .i64 0, .slice ad n cap]] w fun e w' => e = .returned .nilIface ∧ Below w.heap.size w w' := by
  subst hn
  have HA : Hid (Below w.heap.size w (w.alloc (.cells #[.int .u8 (aid : Int), .int .i64 0, .slice ad 0 cap] 27))) := (Below.refl _ _).alloc (Nat.le_refl _) _
  go_enter Tryd.func34, Tryd.ntmps34
  go_wp2_with fail
  go_ret
  exact ⟨rfl, HA.out⟩
theorem bare_no (aid : Nat) (cur : Int) (ad : Option Addr) (n cap : Nat) (w : World) (h : cur ≠ 0 ∨ n ≠ 0) :
    Calls Tryd.prog 34 #[.agg #[.int .u8 (aid : Int), .int .i64 cur, .slice ad n cap]] w fun e w' => e = .returned (.iface 50 (.int .i64 1)) ∧ Below w.heap.size w w' := by
  have HA : Hid (Below w.heap.size w (w.alloc (.cells #[.int .u8 (aid : Int), .int .i64 cur, .slice ad n cap] 27))) := (Below.refl _ _).alloc (Nat.le_refl _) _
  by_cases h0 : cur = 0
  · subst h0
    have hn : 0 < n := by rcases h with h | h; exact absurd rfl h; omega
    have hn2 : (0 : Int) < (n : Int) := by omega
    clear h
    go_enter Tryd.func34, Tryd.ntmps34
    go_wp2_with fail
    go_ret
    exact ⟨rfl, HA.out⟩
  · have e0 : (cur != 0) = true := by simpa using h0
    clear h h0
    go_enter Tryd.func34, Tryd.ntmps34
    go_wp2_with fail
    go_ret
    exact ⟨rfl, HA.out⟩
set_option maxRecDepth 100000 in
set_option maxHeartbeats 4000000 in
theorem right_any (x : I) (ad : Option Addr) (n cap z : Nat) (w : World) (hk : x.aid < 256) (ho : FldsIn w 0 (.slice ad n cap) x.fs) (hs : Sound x.fs) (hl : x.fs.length < 1000000) (h1 : 1 ≤ z) (h2 : z ≤ 16383) (R : Nat × Int) (hR : R = iright x z) :
    Calls Tryd.prog 19 #[.agg #[.int .u8 (x.aid : Int), .int .i64 x.cur, .slice ad n cap], .int .i64 (z : Int)] w fun e w' => ∃ ev, e = .returned ev ∧ Below w.heap.size w w' ∧ Said w' ev R.1 R.2 := by
  obtain rfl := ho.len
  obtain ⟨k, cur, os⟩ := x
  simp only at hk ho hs hl hR ⊢
  have HA := Lib.hid (al_any w (.cells #[.int .u8 (k : Int), .int .i64 cur, .slice ad os.length cap] 27))
  have HG := Lib.hid (heap_alloc_new w (.cells #[.int .u8 (k : Int), .int .i64 cur, .slice ad os.length cap] 27))
  have HAID := Lib.hid fun W => aid_any k W hk
  have HBARE := Lib.hid fun W => bare_any k W hk
  have HF := Lib.hid fun W hb => fields_any ad os.length cap z os W (ho.below hb) hs hl h1 h2
  have HZ := Lib.hid (And.intro h1 h2)
  unfold iright at hR
  simp only at hR
  generalize aid k = ka at *
  generalize bare k = kb at *
  clear hk ho hs hl h1 h2
  cases ka with
  | false =>
    rw [if_pos rfl] at hR
    subst hR
    clear HF HZ HBARE
    go_enter Tryd.func19, Tryd.ntmps19
    go_wp2_with fail
    with_reducible refine (HAID.out _).mono ?_
    rintro e w' ⟨rfl, rfl⟩
    go_wp2_with fail
    go_ret
    exact ⟨_, rfl, HA.out, .inr ⟨by show (3 : Nat) ≠ 0; decide, .inl ⟨rfl, rfl⟩⟩⟩
  | true =>
    rw [if_neg (by decide)] at hR
    cases kb with
    | true =>
      rw [if_pos rfl] at hR
      by_cases hn : cur ≠ 0 ∨ os ≠ []
      · rw [if_pos hn] at hR
        subst hR
        have HB := Lib.hid fun W => bare_no k cur ad os.length cap W (by
          rcases hn with hn | hn
          · exact .inl hn
          · exact .inr (by have := List.length_pos_iff.2 hn; omega))
        clear HF HZ hn
        go_enter Tryd.func19, Tryd.ntmps19
        go_wp2_with fail
        with_reducible refine (HAID.out _).mono ?_
        rintro e w' ⟨rfl, rfl⟩
        go_wp2_with fail
        with_reducible refine (HBARE.out _).mono ?_
        rintro e w' ⟨rfl, rfl⟩
        go_wp2_with fail
        with_reducible refine (HB.out _).mono ?_
        rintro e w' ⟨rfl, hb⟩
        have K2 := kept_hid HA hb
        clear hb
        go_wp2_with fail
        go_ret
        exact ⟨_, rfl, K2.out, .inr ⟨by show (1 : Nat) ≠ 0; decide, .inl ⟨rfl, rfl⟩⟩⟩
      · rw [if_neg hn] at hR
        subst hR
        have h0 : cur = 0 := by by_cases h : cur = 0; exact h; exact absurd (.inl h) hn
        have h1 : os.length = 0 := by by_cases h : os = []; simp [h]; exact absurd (.inr h) hn
        subst h0
        have HB := Lib.hid fun W => bare_yes k ad os.length cap W h1
        clear HF HZ hn h1
        go_enter Tryd.func19, Tryd.ntmps19
        go_wp2_with fail
        with_reducible refine (HAID.out _).mono ?_
        rintro e w' ⟨rfl, rfl⟩
        go_wp2_with fail
        with_reducible refine (HBARE.out _).mono ?_
        rintro e w' ⟨rfl, rfl⟩
        go_wp2_with fail
        with_reducible refine (HB.out _).mono ?_
        rintro e w' ⟨rfl, hb⟩
        have K2 := kept_hid HA hb
        clear hb
        go_wp2_with fail
        go_ret
        exact ⟨_, rfl, K2.out, .inl ⟨rfl, rfl⟩⟩
    | false =>
      rw [if_neg (by decide)] at hR
      by_cases hc : cur < 0 ∨ (z : Int) ≤ cur
      · rw [if_pos hc] at hR
        subst hR
        have HP := Lib.hid fun W => Adr.put_none cur z W HZ.out.1 HZ.out.2 hc
        clear HF HZ hc
        go_enter Tryd.func19, Tryd.ntmps19
        go_wp2_with fail
        with_reducible refine (HAID.out _).mono ?_
        rintro e w' ⟨rfl, rfl⟩
        go_wp2_with fail
        with_reducible refine (HBARE.out _).mono ?_
        rintro e w' ⟨rfl, rfl⟩
        go_wp2_with fail
        with_reducible refine (HP.out _).mono ?_
        rintro e w2 ⟨rfl, hb⟩
        have K2 := kept_alloc (kept_hid HA hb) (.cells #[.int .u8 0, .int .u8 0] 69)
        clear hb
        go_wp2_with fail
        go_ret
        exact ⟨_, rfl, K2.out, .inr ⟨by show (4 : Nat) ≠ 0; decide, .inl ⟨rfl, rfl⟩⟩⟩
      · rw [if_neg hc] at hR
        obtain ⟨c, rfl⟩ := Int.eq_ofNat_of_zero_le (show 0 ≤ cur by omega)
        have HP := Lib.hid fun W => Adr.put_all c z W (by omega) HZ.out.2
        generalize Adr.first c z = q1 at *
        generalize Adr.second c z = q2 at *
        have HR := Lib.hid hR
        clear hc hR
        go_enter Tryd.func19, Tryd.ntmps19
        go_wp2_with fail
        with_reducible refine (HAID.out _).mono ?_
        rintro e w' ⟨rfl, rfl⟩
        go_wp2_with fail
        with_reducible refine (HBARE.out _).mono ?_
        rintro e w' ⟨rfl, rfl⟩
        go_wp2_with fail
        with_reducible refine (HP.out _).mono ?_
        rintro e w2 ⟨rfl, hb⟩
        have K1 := kept_hid HA hb
        have K2 := kept_alloc K1 (.cells #[.int .u8 (q1 : Nat), .int .u8 (q2 : Nat)] 69)
        have G2 := blk (blk HG.out hb) (al_any w2 (.cells #[.int .u8 (q1 : Nat), .int .u8 (q2 : Nat)] 69))
        have G1 := there_lt (blk HG.out hb)
        obtain ⟨c0, c1, c2⟩ := cells3 G2
        clear hb HP HA G2
        go_wp2_with fail
        with_reducible refine (HF.out _ K2.out).mono ?_
        rintro e w3 ⟨ev, rfl, hb, hE⟩
        have K3 := kept_hid K2 hb
        have HE := Lib.hid hE
        clear hb hE HF K1 K2
        have hS : Hid (Said w3 ev R.1 R.2) := by
          have hR := HR.out
          rcases HE.out with ⟨h0, h1⟩ | ⟨h0, b, h1, h2⟩
          · rw [if_neg (by rw [h0]; simp)] at hR
            subst hR
            exact .inl ⟨rfl, h1⟩
          · rw [if_pos h0] at hR
            subst hR
            exact .inr ⟨h0, .inr ⟨b, h1, h2⟩⟩
        clear HE
        rcases hS.out with ⟨_, rfl⟩ | ⟨_, ⟨_, rfl⟩ | ⟨b, rfl, _⟩⟩
        all_goals
          go_wp2_with fail
          go_ret
          exact ⟨_, rfl, K3.out, hS.out⟩
end Inp
end Go.Proofs.YthjocmcafoifbaaDoor
