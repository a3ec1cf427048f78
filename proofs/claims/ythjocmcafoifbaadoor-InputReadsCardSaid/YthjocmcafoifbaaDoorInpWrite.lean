/- Write of package input returns what the plain function says. -/
import Derived.Test.YthjocmcafoifbaaDoorInpPut
import Derived.Test.YthjocmcafoifbaaDoorInpRight
namespace Go.Proofs.YthjocmcafoifbaaDoor
open Go.RowKit Sha Cut Err Six Att Apd
namespace Inp
theorem fw_all {z : Nat} {alone : Bool} : ∀ (fs : List F) (i : Nat), (fw z alone i fs).1 = 0 → ∀ j, j < fs.length → fwrong z alone (fs.getD j noneF) = 0 := by
  intro fs
  induction fs with
  | nil => intro i _ j hj; simp at hj
  | cons f fs ih =>
    intro i h j hj
    have hw : fwrong z alone f = 0 := by
      by_cases hw : fwrong z alone f = 0
      · exact hw
      · simp [fw, hw] at h
    simp only [fw, hw, ne_eq, not_true_eq_false, if_false] at h
    cases j with
    | zero => simpa using hw
    | succ j => simpa using ih (i + 1) h j (by simpa using hj)
theorem fwrong_cases {z : Nat} {alone : Bool} {f : F} (h : fwrong z alone f = 0) : f.a = -1 ∨ (0 ≤ f.a ∧ f.a < z) := by
  by_cases hn : (alone && f.a == -1) = true
  · simp only [Bool.and_eq_true, beq_iff_eq] at hn
    exact .inl hn.2
  · right
    by_cases hr : f.a < 0 ∨ (z : Int) ≤ f.a
    · unfold fwrong at h
      rw [if_pos ⟨by simpa using hn, hr⟩] at h
      cases h
    · omega
theorem putField_any {f : F} (alone : Bool) (ta : Option Addr) (tn tc z : Nat) (w : World) (hB : BytesIn w (.slice ta tn tc) f.t) (hn : ta = none → tn = 0 ∧ tc = 0) (hl : f.t.length < 1000000) (hw : fwrong z alone f = 0) (h2 : z ≤ 16383) :
    Calls Tryd.prog 30 #[.agg #[.int .i64 f.a, .slice ta tn tc], .int .i64 (z : Int)] w fun e w' => ∃ v, e = .returned v ∧ w'.ownsRow w.heap.size 5 1 v (fb z f).length (u8s (fb z f)) ∧ Below w.heap.size w w' := by
  have hlen : tn = f.t.length := by
    obtain ⟨_, _, hv, _⟩ := hB
    injection hv
  subst hlen
  obtain ⟨a, t⟩ := f
  simp only at hB hn hl ⊢
  rcases fwrong_cases hw with h | ⟨h0, h1⟩
  · simp only at h
    subst h
    have e : fb z ⟨-1, t⟩ = t := by unfold fb; rw [if_neg (show ¬ (0 : Int) ≤ -1 by decide)]
    rw [e]
    exact putField_free ta tc z w hB hn hl
  · simp only at h0 h1
    obtain ⟨k, rfl⟩ := Int.eq_ofNat_of_zero_le h0
    have e : fb z ⟨(k : Int), t⟩ = 17 :: Adr.first k z :: Adr.second k z :: t := by unfold fb; rw [if_pos h0, Int.toNat_natCast]
    rw [e]
    have := putField_at k ta tc z w hB hn hl (by omega) h2
    rw [show 3 + t.length = (17 :: Adr.first k z :: Adr.second k z :: t).length by simp only [List.length_cons]; omega] at this
    exact this
theorem take_f {os : List F} {k : Nat} (h : k < os.length) : os.take (k + 1) = os.take k ++ [os.getD k noneF] := by
  rw [List.take_succ_eq_append_getElem h, List.getD_eq_getElem?_getD, List.getElem?_eq_getElem h]; rfl
theorem fbs_append (z : Nat) (a b : List F) : fbs z (a ++ b) = fbs z a ++ fbs z b := by
  induction a with
  | nil => rfl
  | cons f a ih => simp only [List.cons_append, fbs, ih, List.append_assoc]
theorem fbs_take {z : Nat} {os : List F} {k : Nat} (h : k < os.length) : fbs z (os.take (k + 1)) = fbs z (os.take k) ++ fb z (os.getD k noneF) := by
  rw [take_f h, fbs_append]; simp [fbs]
theorem fbs_take_le (z : Nat) (os : List F) (k : Nat) : (fbs z (os.take k)).length ≤ (fbs z os).length := by
  conv => rhs; rw [← List.take_append_drop k os]
  rw [fbs_append, List.length_append]; omega
theorem said_0 (w : World) : Said w .nilIface 0 (-1) := .inl ⟨rfl, rfl⟩
theorem Said.none {w : World} {ev : Value} {c : Nat} {p : Int} (h : Said w ev c p) (hc : c = 0) : ev = .nilIface := by
  rcases h with ⟨_, h⟩ | ⟨h, _⟩
  · exact h
  · exact absurd hc h
theorem Said.told {w : World} {ev : Value} {c : Nat} {p : Int} (h : Said w ev c p) (hp : c = 0 → p = -1) : Err.Told w ev (c : Int) p := by
  rcases h with ⟨h0, rfl⟩ | ⟨_, ⟨rfl, rfl⟩ | ⟨_, _, h⟩⟩
  · subst h0
    rw [hp rfl]
    exact .inl ⟨rfl, rfl, rfl⟩
  · exact .inr (.inl ⟨rfl, rfl⟩)
  · exact h
set_option maxRecDepth 100000 in
set_option maxHeartbeats 4000000 in
/-- What isn't right isn't written. -/
theorem write_wrong (x : I) (ad : Option Addr) (n cap z : Nat) (w : World) (hk : x.aid < 256) (ho : FldsIn w 0 (.slice ad n cap) x.fs) (hs : Sound x.fs) (hl : x.fs.length < 1000000) (h1 : 1 ≤ z) (h2 : z ≤ 16383) (R : Nat × Int) (hR : R = iright x z) (h0 : R.1 ≠ 0) :
    Calls Tryd.prog 16 #[.agg #[.int .u8 (x.aid : Int), .int .i64 x.cur, .slice ad n cap], .int .i64 (z : Int)] w fun e w' => ∃ ev, e = .returned (.tuple #[.slice none 0 0, ev]) ∧ Below w.heap.size w w' ∧ Said w' ev R.1 R.2 := by
  have HA := Lib.hid (al_any w (.cells #[.int .u8 (x.aid : Int), .int .i64 x.cur, .slice ad n cap] 27))
  have HG := Lib.hid (heap_alloc_new w (.cells #[.int .u8 (x.aid : Int), .int .i64 x.cur, .slice ad n cap] 27))
  have HR := Lib.hid fun W hb => right_any x ad n cap z W hk (ho.below hb) hs hl h1 h2 R hR
  obtain ⟨k, cur, os⟩ := x
  simp only at HA HG HR ⊢
  have H0 := Lib.hid h0
  clear hk ho hs hl h1 h2 hR h0
  go_enter Tryd.func16, Tryd.ntmps16
  go_wp2_with fail
  with_reducible refine (HR.out _ HA.out).mono ?_
  rintro e w2 ⟨ev, rfl, hb, hE⟩
  have K2 := kept_hid HA hb
  have HE := Lib.hid hE
  clear hb hE HR HG
  rcases HE.out with ⟨h, _⟩ | ⟨_, ⟨_, rfl⟩ | ⟨b, rfl, _⟩⟩
  · exact absurd h H0.out
  all_goals
    go_wp2_with fail
    go_ret2
    exact ⟨_, rfl, K2.out, HE.out⟩
set_option maxRecDepth 100000 in
set_option maxHeartbeats 4000000 in
theorem write_bare (x : I) (ad : Option Addr) (n cap z : Nat) (w : World) (hk : x.aid < 256) (ho : FldsIn w 0 (.slice ad n cap) x.fs) (hs : Sound x.fs) (hl : x.fs.length < 1000000) (h1 : 1 ≤ z) (h2 : z ≤ 16383) (h0 : (iright x z).1 = 0) (hb : bare x.aid = true) :
    Calls Tryd.prog 16 #[.agg #[.int .u8 (x.aid : Int), .int .i64 x.cur, .slice ad n cap], .int .i64 (z : Int)] w fun e w' => ∃ va cp, e = .returned (.tuple #[.slice va 1 cp, .nilIface]) ∧ Below w.heap.size w w' ∧ w'.ownsRow w.heap.size 5 1 (.slice va 1 cp) 1 (u8s [x.aid]) := by
  have HA := Lib.hid (al_any w (.cells #[.int .u8 (x.aid : Int), .int .i64 x.cur, .slice ad n cap] 27))
  have HG := Lib.hid (heap_alloc_new w (.cells #[.int .u8 (x.aid : Int), .int .i64 x.cur, .slice ad n cap] 27))
  have HR := Lib.hid fun W hb => right_any x ad n cap z W hk (ho.below hb) hs hl h1 h2 _ rfl
  have HBARE := Lib.hid fun W => bare_any x.aid W hk
  rw [hb] at HBARE
  obtain ⟨k, cur, os⟩ := x
  simp only at HA HG HR HBARE ⊢
  have H0 := Lib.hid h0
  generalize iright _ z = R at *
  clear hk ho hs hl h1 h2 h0 hb
  go_enter Tryd.func16, Tryd.ntmps16
  go_upto_region 1 with (fail)
  generalize w.alloc (.cells #[.int .u8 (k : Int), .int .i64 cur, .slice ad n cap] 27) = w1 at *
  obtain ⟨c0, c1, c2⟩ := cells3 HG.out
  go_wp2_with fail
  with_reducible refine (HR.out _ HA.out).mono ?_
  rintro e w2 ⟨ev, rfl, hb, hE⟩
  obtain rfl := hE.none H0.out
  have K2 := kept_hid HA hb
  have G2 := Lib.hid (blk HG.out hb)
  have hlt := there_lt G2.out
  clear hb hE HR HG c0 c1 c2
  obtain ⟨c0, c1, c2⟩ := cells3 G2.out
  have HO := Lib.hid (own_lit w2 w.heap.size [k] (Nat.le_of_lt hlt) (by show 1 < 1000000; decide))
  have K3 := kept_alloc K2 (.cells (u8s [k]).toArray 5)
  go_wp2_with fail
  with_reducible refine (HBARE.out _).mono ?_
  rintro e w' ⟨rfl, rfl⟩
  go_wp2_with fail
  go_ret2
  exact ⟨_, _, rfl, K3.out, HO.out⟩
set_option maxRecDepth 100000 in
set_option maxHeartbeats 8000000 in
theorem write_flds (x : I) (ad : Option Addr) (n cap z : Nat) (w : World) (hk : x.aid < 256) (ho : FldsIn w 0 (.slice ad n cap) x.fs) (hs : Sound x.fs) (hl : x.fs.length < 1000000) (h1 : 1 ≤ z) (h2 : z ≤ 16383) (h0 : (iright x z).1 = 0) (hb : bare x.aid = false) (c : Nat) (hc : x.cur = (c : Int)) (hcz : c < z) (hfw : (fw z (x.fs.length == 1) 0 x.fs).1 = 0) :
    Calls Tryd.prog 16 #[.agg #[.int .u8 (x.aid : Int), .int .i64 x.cur, .slice ad n cap], .int .i64 (z : Int)] w fun e w' => ∃ va m cp ev, e = .returned (.tuple #[.slice va m cp, ev]) ∧ Below w.heap.size w w' ∧
      (((fbs z x.fs).length + 3 ≤ 8192 ∧ ev = .nilIface ∧ m = (fbs z x.fs).length + 3 ∧ w'.ownsRow w.heap.size 5 1 (.slice va m cp) m (u8s (x.aid :: Adr.first c z :: Adr.second c z :: fbs z x.fs))) ∨
       (8192 < (fbs z x.fs).length + 3 ∧ ev = .iface 50 (.int .i64 6) ∧ va = none ∧ m = 0 ∧ cp = 0)) := by
  obtain rfl := ho.len
  have HA := Lib.hid (al_any w (.cells #[.int .u8 (x.aid : Int), .int .i64 x.cur, .slice ad x.fs.length cap] 27))
  have HG := Lib.hid (heap_alloc_new w (.cells #[.int .u8 (x.aid : Int), .int .i64 x.cur, .slice ad x.fs.length cap] 27))
  have HR := Lib.hid fun W hb => right_any x ad x.fs.length cap z W hk (ho.below hb) hs hl h1 h2 _ rfl
  have HBARE := Lib.hid fun W => bare_any x.aid W hk
  rw [hb] at HBARE
  have HP := Lib.hid fun W => putAddr_any c z W hcz h2
  have HF := Lib.hid (fw_all x.fs 0 hfw)
  obtain ⟨k, cur, os⟩ := x
  simp only at HA HG HR HBARE HF hc ho hs hl ⊢
  subst hc
  have HO := Lib.hid ho
  have HS := Lib.hid hs
  have HL := Lib.hid hl
  have HZ2 := Lib.hid h2
  have H0 := Lib.hid h0
  generalize iright _ z = R at *
  generalize (os.length == 1) = alone at *
  generalize Adr.first c z = q1 at *
  generalize Adr.second c z = q2 at *
  clear hk ho hs hl h1 h2 h0 hb hcz hfw
  go_enter Tryd.func16, Tryd.ntmps16
  go_upto_region 1 with (fail)
  generalize w.alloc (.cells #[.int .u8 (k : Int), .int .i64 (c : Int), .slice ad os.length cap] 27) = w1 at *
  obtain ⟨c0, c1, c2⟩ := cells3 HG.out
  go_wp2_with fail
  with_reducible refine (HR.out _ HA.out).mono ?_
  rintro e w2 ⟨ev, rfl, hb, hE⟩
  obtain rfl := hE.none H0.out
  have K2 := kept_hid HA hb
  have G2 := Lib.hid (blk HG.out hb)
  clear hb hE HR HG c0 c1 c2
  obtain ⟨c0, c1, c2⟩ := cells3 G2.out
  have hlt := there_lt G2.out
  have HO2 := Lib.hid (own_lit w2 w2.heap.size [k] (Nat.le_refl _) (by show 1 < 1000000; decide))
  have A3 := al_any w2 (.cells (u8s [k]).toArray 5)
  have K3 := kept_hid K2 A3
  have G3 := Lib.hid (blk G2.out A3)
  have B3 := Lib.hid A3.size
  have HLT := Lib.hid hlt
  clear A3 G2
  go_wp2_with fail
  clear hlt c0 c1 c2
  have HO3 : Hid ((w2.alloc (.cells #[.int .u8 (k : Int)] 5)).ownsRow w2.heap.size 5 1 (.slice (some ⟨w2.heap.size, 0, none⟩) 1 1) 1 (u8s [k])) := HO2
  have K3 : Hid (Below w.heap.size w (w2.alloc (.cells #[.int .u8 (k : Int)] 5))) := K3
  have G3 : Hid ((w2.alloc (.cells #[.int .u8 (k : Int)] 5)).heap[w.heap.size]? = some (.cells #[.int .u8 (k : Int), .int .i64 (c : Int), .slice ad os.length cap] 27 (0, 0))) := G3
  have B3 : Hid (w2.heap.size ≤ (w2.alloc (.cells #[.int .u8 (k : Int)] 5)).heap.size) := B3
  have HB2 := Lib.hid K2.out.size
  clear HO2 K2
  generalize w2.alloc (.cells #[.int .u8 (k : Int)] 5) = w3 at *
  generalize w2.heap.size = L at *
  with_reducible refine (HBARE.out _).mono ?_
  rintro e w' ⟨rfl, rfl⟩
  obtain ⟨c0, c1, c2⟩ := cells3 G3.out
  go_wp2_with fail
  with_reducible refine (HP.out _).mono ?_
  rintro e w4 ⟨g, rfl, hB4, hb⟩
  have HO4 := Lib.hid (own_below HO3.out hb)
  have K4 := kept_hid K3 hb
  have G4 := Lib.hid (blk G3.out hb)
  have B4 := Lib.hid (Nat.le_trans B3.out hb.size)
  have HS4 := Lib.hid (bytes_src hB4)
  clear hb hB4 HP HBARE c0 c1 c2 HO3 K3 G3 B3
  go_wp2_with (at_builtin; refine wpList_mark ?_)
  refine Lib.hid ?_
  refine append_own rfl (.tmp 23) (.tmp 27) rfl L _ 1 _ rfl HO4.out (some ⟨g, 0, none⟩) 2 2 [q1, q2] rfl rfl nofun HS4.out (by decide) B4.out ?_
  intro v5 w5 hown hgr _
  have HO5 := Lib.hid (show w5.ownsRow L 5 1 v5 3 (u8s [k, q1, q2]) from hown)
  have K5 := Lib.hid (below_own K4.out hgr (own_mono HO4.out HB2.out))
  have G5 := Lib.hid (blk_g G4.out hgr (by intro e; injection e with e; have h9 := HLT.out; simp only at e; omega))
  have B5 := Lib.hid (Nat.le_trans B4.out hgr.size)
  obtain ⟨va5, vc5, rfl⟩ := own_form HO5.out
  clear hown hgr HO4 K4 G4 B4 HS4
  obtain ⟨c0, c1, c2⟩ := cells3 G5.out
  go_wp2_with fail
  clear c0 c1 c2 G5
  go_loopg [7, 32] (os.length + 1) (fun m vb i wr => ∃ k' : Nat, k' ≤ os.length ∧ m = os.length + 1 - k' ∧ i = .int .i64 k' ∧ (∃ ba bc, vb = .slice ba ((fbs z (os.take k')).length + 3) bc ∧ Hid (wr.ownsRow L 5 1 (.slice ba ((fbs z (os.take k')).length + 3) bc) ((fbs z (os.take k')).length + 3) (u8s (k :: q1 :: q2 :: fbs z (os.take k'))))) ∧ Hid (Below w.heap.size w wr) ∧ Hid (L ≤ wr.heap.size) ∧ Hid ((fbs z (os.take k')).length + 3 ≤ 8192))
  case atStart => exact ⟨0, Nat.zero_le _, rfl, rfl, ⟨_, _, rfl, HO5⟩, K5, B5, Lib.hid (by show 3 ≤ 8192; decide)⟩
  case round =>
    clear HO5 K5 B5
    obtain ⟨j, hj, rfl, rfl, ⟨ba, bc, rfl, HO8⟩, HB, HBL, H8192⟩ := hrel
    have ew : IntKind.i64.wrap ((j : Int) + 1) = (j : Int) + 1 := by
      have := HL.out
      rw [IntWalk.i64_in] <;> omega
    by_cases hlt : j < os.length
    · obtain ⟨pa, pt, ex⟩ := f_eta (os.getD j noneF)
      obtain ⟨b1, o1, ta, tn, tc, rfl, g0, g1, B1, N1⟩ := (HO.out.below HB.out).cells hlt ex
      have lb1 := cell_lt g0
      have hi0 : (0 : Int) ≤ (j : Int) := by omega
      have hi1 : (j : Int) < (os.length : Int) := by omega
      have sx := sound_at HS.out j
      rw [ex] at sx
      have hfj := HF.out j hlt
      rw [ex] at hfj
      have HAL := Lib.hid (al_any wr (.cells #[.int .i64 pa, .slice ta tn tc] 47))
      have HPF := Lib.hid (putField_any (f := ⟨pa, pt⟩) alone ta tn tc z _ (bytes_below B1 HAL.out) N1 sx.2 hfj HZ2.out)
      have HTK := Lib.hid (show fbs z (os.take (j + 1)) = fbs z (os.take j) ++ fb z ⟨pa, pt⟩ by rw [fbs_take hlt, ex])
      have HFL := Lib.hid (show (fb z ⟨pa, pt⟩).length ≤ 1000003 by
        have h := sx.2
        unfold fb
        split
        · simp only [List.length_cons] at h ⊢; omega
        · simp only at h ⊢; omega)
      have HTL := Lib.hid (fbs_take_le z os (j + 1))
      clear B1 N1 sx hfj
      simp only at HPF
      generalize fb z ⟨pa, pt⟩ = bs at *
      go_wp2_with fail
      clear g0 g1 lb1
      with_reducible refine HPF.out.mono ?_
      rintro e w3 ⟨v, rfl, hown, hb⟩
      have K3 := kept_hid (kept_hid HB HAL.out) hb
      have HO3 := Lib.hid (own_below (own_below HO8.out HAL.out) hb)
      have B3 := Lib.hid (Nat.le_trans (Nat.le_trans HBL.out HAL.out.size) hb.size)
      obtain ⟨va, vc, rfl⟩ := own_form hown
      have HNN := Lib.hid (own_nil hown)
      have HSV := Lib.hid (bytes_src (own_bytes hown))
      clear hown hb HPF HAL HO8 HB HBL
      go_wp2_with (at_builtin; refine wpList_mark ?_)
      refine Lib.hid ?_
      refine append_own rfl (.tmp 36) (.tmp 39) rfl L _ _ _ rfl HO3.out va _ vc _ rfl rfl HNN.out HSV.out (by have h1 := H8192.out; have h2 := HFL.out; omega) B3.out ?_
      intro v2 w4 hown hgr _
      have K4 := Lib.hid (below_own K3.out hgr (own_mono HO3.out HB2.out))
      have B4 := Lib.hid (Nat.le_trans B3.out hgr.size)
      have HO4 := Lib.hid (show w4.ownsRow L 5 1 v2 ((fbs z (os.take (j + 1))).length + 3) (u8s (k :: q1 :: q2 :: fbs z (os.take (j + 1)))) by
        rw [HTK.out]
        have e1 : (fbs z (os.take j) ++ bs).length + 3 = (fbs z (os.take j)).length + 3 + bs.length := by rw [List.length_append]; omega
        rw [e1]
        have e2 : u8s (k :: q1 :: q2 :: (fbs z (os.take j) ++ bs)) = u8s (k :: q1 :: q2 :: fbs z (os.take j)) ++ u8s bs := by simp [u8s]
        rw [e2]; exact hown)
      have HLL := Lib.hid (show (fbs z (os.take j)).length + 3 + bs.length = (fbs z (os.take (j + 1))).length + 3 by rw [HTK.out, List.length_append]; omega)
      obtain ⟨va2, vc2, rfl⟩ := own_form HO4.out
      clear hown hgr K3 HO3 B3 HNN HSV HTK HFL H8192
      obtain ⟨T, hT⟩ : ∃ T, T = fbs z (os.take (j + 1)) := ⟨_, rfl⟩
      rw [← hT] at HO4 HLL HTL ⊢
      have HT := Lib.hid hT
      clear hT
      obtain ⟨M, hM⟩ : ∃ M, M = T.length + 3 := ⟨_, rfl⟩
      have HM := Lib.hid hM
      rw [← hM] at HO4 ⊢
      clear hM
      by_cases hbig : 8192 < M
      · have hb : (8192 : Int) < (M : Int) := by omega
        have HBG := Lib.hid hbig
        clear hbig
        go_wp2_with fail
        go_ret2
        exact ⟨_, _, _, _, rfl, K4.out, .inr ⟨by have := HTL.out; have := HBG.out; have := HM.out; omega, rfl, rfl, rfl, rfl⟩⟩
      · have hb : ¬ (8192 : Int) < (M : Int) := by omega
        have HBG := Lib.hid hbig
        clear hbig
        go_wp2_with fail
        go_roundg (os.length + 1 - (j + 1))
        case measure => omega
        case rel => exact ⟨j + 1, by omega, rfl, rfl, ⟨va2, vc2, by rw [← HT.out, HM.out], by rw [← HT.out, ← HM.out]; exact HO4⟩, K4, B4, Lib.hid (by rw [← HT.out, ← HM.out]; exact Nat.le_of_not_lt HBG.out)⟩
    · have hkl : j = os.length := by omega
      have HE := Lib.hid (show os.take j = os by rw [hkl]; exact List.take_length)
      rw [HE.out] at HO8 H8192 ⊢
      have hn0 : ¬ (j : Int) < (os.length : Int) := by omega
      clear hlt hkl hj
      obtain ⟨M, hM⟩ : ∃ M, M = (fbs z os).length + 3 := ⟨_, rfl⟩
      have HM := Lib.hid hM
      rw [← hM] at HO8 H8192 ⊢
      clear hM
      go_wp2_with fail
      go_ret2
      exact ⟨_, _, _, _, rfl, HB.out, .inl ⟨by have := H8192.out; have := HM.out; omega, rfl, HM.out, own_mono HO8.out HB2.out⟩⟩
/-- Write of whatever submission. -/
theorem write_any (x : I) (ad : Option Addr) (n cap z : Nat) (w : World) (hk : x.aid < 256) (ho : FldsIn w 0 (.slice ad n cap) x.fs) (hs : Sound x.fs) (hl : x.fs.length < 1000000) (h1 : 1 ≤ z) (h2 : z ≤ 16383) (R : List Nat × Nat × Int) (hR : R = iwrite x z) :
    Calls Tryd.prog 16 #[.agg #[.int .u8 (x.aid : Int), .int .i64 x.cur, .slice ad n cap], .int .i64 (z : Int)] w fun e w' => ∃ va cp ev, e = .returned (.tuple #[.slice va R.1.length cp, ev]) ∧ Below w.heap.size w w' ∧ Said w' ev R.2.1 R.2.2 ∧ w'.ownsRow w.heap.size 5 1 (.slice va R.1.length cp) R.1.length (u8s R.1) := by
  have hnil : ∀ W : World, W.ownsRow w.heap.size 5 1 (.slice none 0 0) 0 (u8s []) := fun W => by simpa [u8s] using World.ownsRow_nil W w.heap.size 5 1
  by_cases h0 : (iright x z).1 = 0
  · cases hb : bare x.aid with
    | true =>
      have e : R = ([x.aid], 0, -1) := by
        rw [hR]; unfold iwrite ibytes
        rw [if_neg (by rw [h0]; simp), if_pos hb, if_neg (by simp)]
      subst e
      refine (write_bare x ad n cap z w hk ho hs hl h1 h2 h0 hb).mono ?_
      rintro e w' ⟨va, cp, rfl, hb, hown⟩
      exact ⟨_, _, _, rfl, hb, said_0 _, hown⟩
    | false =>
      have h0' := h0
      unfold iright at h0'
      by_cases ha : aid x.aid = false
      · rw [if_pos ha] at h0'; cases h0'
      rw [if_neg ha, if_neg (by rw [hb]; decide)] at h0'
      by_cases hc : x.cur < 0 ∨ (z : Int) ≤ x.cur
      · rw [if_pos hc] at h0'; cases h0'
      rw [if_neg hc] at h0'
      by_cases hf : (fw z (x.fs.length == 1) 0 x.fs).1 ≠ 0
      · rw [if_pos hf] at h0'; exact absurd h0' hf
      have hf : (fw z (x.fs.length == 1) 0 x.fs).1 = 0 := Classical.not_not.1 hf
      have hcc : x.cur = ((x.cur.toNat : Nat) : Int) := (Int.toNat_of_nonneg (by omega)).symm
      have hib : ibytes x z = x.aid :: Adr.first x.cur.toNat z :: Adr.second x.cur.toNat z :: fbs z x.fs := by unfold ibytes; rw [if_neg (by rw [hb]; decide)]
      have e : R = if 8192 < (fbs z x.fs).length + 3 then ([], 6, -1) else (x.aid :: Adr.first x.cur.toNat z :: Adr.second x.cur.toNat z :: fbs z x.fs, 0, -1) := by
        rw [hR]; unfold iwrite
        rw [if_neg (by rw [h0]; simp), hib]
        simp only [List.length_cons]
      refine (write_flds x ad n cap z w hk ho hs hl h1 h2 h0 hb x.cur.toNat hcc (by omega) hf).mono ?_
      rintro e' w' ⟨va, m, cp, ev, rfl, hb, ⟨h3, rfl, rfl, hown⟩ | ⟨h3, rfl, rfl, rfl, rfl⟩⟩
      · rw [if_neg (by omega)] at e
        subst e
        exact ⟨_, _, _, rfl, hb, said_0 _, hown⟩
      · rw [if_pos h3] at e
        subst e
        exact ⟨_, _, _, rfl, hb, .inr ⟨by show (6 : Nat) ≠ 0; decide, .inl ⟨rfl, rfl⟩⟩, hnil _⟩
  · have e : R = ([], iright x z) := by
      rw [hR]; unfold iwrite; rw [if_pos h0]
    subst e
    refine (write_wrong x ad n cap z w hk ho hs hl h1 h2 _ rfl h0).mono ?_
    rintro e w' ⟨ev, rfl, hb, hS⟩
    exact ⟨_, _, _, rfl, hb, hS, hnil _⟩
end Inp
end Go.Proofs.YthjocmcafoifbaaDoor
