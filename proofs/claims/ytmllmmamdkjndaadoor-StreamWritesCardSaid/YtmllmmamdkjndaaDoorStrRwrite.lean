/- The document's Write of commands returns what the plain function says. Written by tools/gen_str_rwrite.py. -/
import Derived.Test.YtmllmmamdkjndaaDoorStrWrite
import Derived.Test.YtmllmmamdkjndaaDoorBunRop
namespace Go.Proofs.YtmllmmamdkjndaaDoor
open Go.RowKit Sha Cut Err Six Att Apd
namespace Str
open Go.Proofs.YtmllmmamdkjndaaDoor.Ord
set_option maxRecDepth 100000 in
set_option maxHeartbeats 4000000 in
theorem rwrite_unknown (c : Int) (a u r : Bool) (os : List O) (ad : Option Addr) (n cap z : Nat) (w : World) (hk : known c = false) :
    Calls Tryd.prog 12 #[.agg #[.int .i64 c, .bool a, .bool u, .bool r, .slice ad n cap], .int .i64 (z : Int)] w fun e w' => ∃ v, e = .returned (.tuple #[v, .int .i64 ((cwrite ⟨c, a, u, r, os⟩ z).2.1 : Nat), .int .i64 (cwrite ⟨c, a, u, r, os⟩ z).2.2]) ∧ BytesIn w' v (cwrite ⟨c, a, u, r, os⟩ z).1 ∧ Below w.heap.size w w' := by
  rw [cwrite_unknown (x := ⟨c, a, u, r, os⟩) (z := z) hk]
  have HK := Lib.hid fun W => rknown_any c W
  rw [hk] at HK
  clear hk
  go_enter Tryd.func12, Tryd.ntmps12
  go_wp2_with fail
  with_reducible refine (HK.out _).mono ?_
  rintro e w' ⟨rfl, rfl⟩
  go_wp2_with fail
  go_ret3
  exact ⟨_, rfl, bytes_nil _, al_any _ _⟩
set_option maxRecDepth 100000 in
set_option maxHeartbeats 4000000 in
theorem rwrite_more (c : Int) (a u r : Bool) (os : List O) (ad : Option Addr) (n cap z : Nat) (w : World) (hk : known c = true) (hw : writes c = false) (hn : n = os.length) (hm : (a || u || r || !os.isEmpty) = true) :
    Calls Tryd.prog 12 #[.agg #[.int .i64 c, .bool a, .bool u, .bool r, .slice ad n cap], .int .i64 (z : Int)] w fun e w' => ∃ v, e = .returned (.tuple #[v, .int .i64 ((cwrite ⟨c, a, u, r, os⟩ z).2.1 : Nat), .int .i64 (cwrite ⟨c, a, u, r, os⟩ z).2.2]) ∧ BytesIn w' v (cwrite ⟨c, a, u, r, os⟩ z).1 ∧ Below w.heap.size w w' := by
  rw [cwrite_more (x := ⟨c, a, u, r, os⟩) (z := z) hk hw hm]
  have HK := Lib.hid fun W => rknown_any c W
  have HW := Lib.hid fun W => rwrites_any c W
  rw [hk] at HK
  rw [hw] at HW
  clear hk hw
  have HB : ∀ W : World, W.heap.size = w.heap.size + 1 → Below w.heap.size w W → ∀ x, Below w.heap.size w (W.alloc x) := fun W _ hb x => hb.alloc hb.size x
  have hcase : a = true ∨ (a = false ∧ u = true) ∨ (a = false ∧ u = false ∧ r = true) ∨ (a = false ∧ u = false ∧ r = false ∧ os ≠ []) := by
    cases a <;> cases u <;> cases r <;> simp_all
  rcases hcase with rfl | ⟨rfl, rfl⟩ | ⟨rfl, rfl, rfl⟩ | ⟨rfl, rfl, rfl, hos⟩
  · clear hm hn
    go_enter Tryd.func12, Tryd.ntmps12
    go_wp2_with fail
    with_reducible refine (HK.out _).mono ?_
    rintro e w' ⟨rfl, rfl⟩
    go_wp2_with fail
    with_reducible refine (HW.out _).mono ?_
    rintro e w' ⟨rfl, rfl⟩
    go_wp2_with fail
    go_ret3
    exact ⟨_, rfl, bytes_nil _, (Below.refl _ _).alloc (Nat.le_refl _) _ |>.alloc (by simp) _⟩
  · clear hm hn
    go_enter Tryd.func12, Tryd.ntmps12
    go_wp2_with fail
    with_reducible refine (HK.out _).mono ?_
    rintro e w' ⟨rfl, rfl⟩
    go_wp2_with fail
    with_reducible refine (HW.out _).mono ?_
    rintro e w' ⟨rfl, rfl⟩
    go_wp2_with fail
    go_ret3
    exact ⟨_, rfl, bytes_nil _, (Below.refl _ _).alloc (Nat.le_refl _) _ |>.alloc (by simp) _⟩
  · clear hm hn
    go_enter Tryd.func12, Tryd.ntmps12
    go_wp2_with fail
    with_reducible refine (HK.out _).mono ?_
    rintro e w' ⟨rfl, rfl⟩
    go_wp2_with fail
    with_reducible refine (HW.out _).mono ?_
    rintro e w' ⟨rfl, rfl⟩
    go_wp2_with fail
    go_ret3
    exact ⟨_, rfl, bytes_nil _, (Below.refl _ _).alloc (Nat.le_refl _) _ |>.alloc (by simp) _⟩
  · have hpos : (0 : Int) < (n : Int) := by
      have := List.length_pos_iff.2 hos
      omega
    clear hm hn hos
    go_enter Tryd.func12, Tryd.ntmps12
    go_wp2_with fail
    with_reducible refine (HK.out _).mono ?_
    rintro e w' ⟨rfl, rfl⟩
    go_wp2_with fail
    with_reducible refine (HW.out _).mono ?_
    rintro e w' ⟨rfl, rfl⟩
    go_wp2_with fail
    go_ret3
    exact ⟨_, rfl, bytes_nil _, (Below.refl _ _).alloc (Nat.le_refl _) _ |>.alloc (by simp) _⟩
set_option maxRecDepth 100000 in
set_option maxHeartbeats 4000000 in
theorem rwrite_bare (cmd : Nat) (ad : Option Addr) (cap z : Nat) (w : World) (hk : known (cmd : Int) = true) (hw : writes (cmd : Int) = false) :
    Calls Tryd.prog 12 #[.agg #[.int .i64 (cmd : Int), .bool false, .bool false, .bool false, .slice ad 0 cap], .int .i64 (z : Int)] w fun e w' => ∃ v, e = .returned (.tuple #[v, .int .i64 ((cwrite ⟨(cmd : Int), false, false, false, []⟩ z).2.1 : Nat), .int .i64 (cwrite ⟨(cmd : Int), false, false, false, []⟩ z).2.2]) ∧ BytesIn w' v (cwrite ⟨(cmd : Int), false, false, false, []⟩ z).1 ∧ Below w.heap.size w w' := by
  rw [cwrite_bare (x := ⟨(cmd : Int), false, false, false, []⟩) (z := z) hk hw (by rfl)]
  have hlt : cmd < 256 := by
    simp [known, writes] at hk
    omega
  have ec : IntKind.u8.wrap (cmd : Int) = (cmd : Int) := by rw [show IntKind.u8.wrap (cmd : Int) = (cmd : Int) % 256 from rfl]; omega
  have HK := Lib.hid fun W => rknown_any (cmd : Int) W
  have HW := Lib.hid fun W => rwrites_any (cmd : Int) W
  rw [hk] at HK
  rw [hw] at HW
  have HA := Lib.hid (al_any w (.cells #[.int .i64 (cmd : Int), .bool false, .bool false, .bool false, .slice ad 0 cap] 26))
  have HN := Lib.hid (heap_alloc_new w (.cells #[.int .i64 (cmd : Int), .bool false, .bool false, .bool false, .slice ad 0 cap] 26))
  clear hk hw hlt
  go_enter Tryd.func12, Tryd.ntmps12
  go_upto_region 1 with (fail)
  generalize w.alloc (.cells #[.int .i64 (cmd : Int), .bool false, .bool false, .bool false, .slice ad 0 cap] 26) = w1 at *
  obtain ⟨c0, c1, c2, c3, c4⟩ := cells5w HN.out
  have l1 := there_lt HN.out
  go_wp2_with fail
  with_reducible refine (HK.out _).mono ?_
  rintro e w' ⟨rfl, rfl⟩
  go_wp2_with fail
  with_reducible refine (HW.out _).mono ?_
  rintro e w' ⟨rfl, rfl⟩
  go_wp2_with fail
  go_ret3
  refine ⟨_, rfl, ?_, kept_alloc HA _⟩
  simp only [Int.toNat_natCast]
  exact lit_in w1 [cmd]
set_option maxRecDepth 100000 in
set_option maxHeartbeats 8000000 in
theorem rwrite_writes (cmd : Nat) (hcm : cmd = 241 ∨ cmd = 245) (a u r : Bool) (ad : Option Addr) (n cap z : Nat) (os : List O) (w : World) (ho : OrdsIn w 0 (.slice ad n cap) os) (hs : Sound os) (hos : os.length ≤ 10000) (h2 : z ≤ 16383) :
    Calls Tryd.prog 12 #[.agg #[.int .i64 (cmd : Int), .bool a, .bool u, .bool r, .slice ad n cap], .int .i64 (z : Int)] w fun e w' => ∃ v, e = .returned (.tuple #[v, .int .i64 ((cwrite ⟨(cmd : Int), a, u, r, os⟩ z).2.1 : Nat), .int .i64 (cwrite ⟨(cmd : Int), a, u, r, os⟩ z).2.2]) ∧ BytesIn w' v (cwrite ⟨(cmd : Int), a, u, r, os⟩ z).1 ∧ Below w.heap.size w w' := by
  obtain rfl := ho.len
  have hk : known (cmd : Int) = true := by rcases hcm with rfl | rfl <;> decide
  have hw : writes (cmd : Int) = true := by rcases hcm with rfl | rfl <;> decide
  have HR := cwrite_writes (x := ⟨(cmd : Int), a, u, r, os⟩) (z := z) hk hw
  simp only [Int.toNat_natCast] at HR
  generalize cwrite ⟨(cmd : Int), a, u, r, os⟩ z = R at HR ⊢
  have HK := Lib.hid fun W => rknown_any (cmd : Int) W
  have HW := Lib.hid fun W => rwrites_any (cmd : Int) W
  rw [hk] at HK
  rw [hw] at HW
  have ec : IntKind.u8.wrap (cmd : Int) = (cmd : Int) := by rw [show IntKind.u8.wrap (cmd : Int) = (cmd : Int) % 256 from rfl]; omega
  have HO := Lib.hid ho
  have HS := Lib.hid hs
  have HZ2 := Lib.hid h2
  have HA := Lib.hid (al_any w (.cells #[.int .i64 (cmd : Int), .bool a, .bool u, .bool r, .slice ad os.length cap] 26))
  have HN := Lib.hid (heap_alloc_new w (.cells #[.int .i64 (cmd : Int), .bool a, .bool u, .bool r, .slice ad os.length cap] 26))
  have HPW := Lib.hid fun W => rputWcc a u r W
  generalize put (wnum a u r) = pw at *
  replace HR := Lib.hid HR
  clear ho hs h2 hk hw hcm
  go_enter Tryd.func12, Tryd.ntmps12
  go_upto_region 1 with (fail)
  generalize w.alloc (.cells #[.int .i64 (cmd : Int), .bool a, .bool u, .bool r, .slice ad os.length cap] 26) = w1 at *
  obtain ⟨c0, c1, c2, c3, c4⟩ := cells5w HN.out
  have l1 := there_lt HN.out
  go_wp2_with fail
  with_reducible refine (HK.out _).mono ?_
  rintro e w' ⟨rfl, rfl⟩
  go_wp2_with fail
  clear c0 c1 c2 c3 c4 l1
  have L1 := Lib.hid (show (w1.alloc (.cells #[.int .u8 (cmd : Int)] 5)).ownsRow (w.heap.size + 1) 5 1 (.slice (some ⟨w1.heap.size, 0, none⟩) 1 1) 1 (u8s [cmd]) from own_lit w1 (w.heap.size + 1) [cmd] (there_lt HN.out) (by show 1 < 1000000; decide))
  have K2 := kept_alloc HA (.cells #[.int .u8 (cmd : Int)] 5)
  have N2 := Lib.hid (blk HN.out (al_any w1 (.cells #[.int .u8 (cmd : Int)] 5)))
  have HG := Lib.hid (there_lt HN.out)
  generalize w1.heap.size = g1 at *
  generalize w1.alloc (.cells #[.int .u8 (cmd : Int)] 5) = w2 at *
  with_reducible refine (HW.out _).mono ?_
  rintro e w' ⟨rfl, rfl⟩
  obtain ⟨c0, c1, c2, c3, c4⟩ := cells5w N2.out
  go_wp2_with fail
  clear c0 c1 c2 c3 c4 HA HN HK HW
  with_reducible refine (HPW.out w2).mono ?_
  rintro e w3 ⟨rfl, hb⟩
  have hb4 := kept_trans hb (al_any w3 (.cells #[.int .u8 (pw : Int)] 5))
  have K4 := kept_hid K2 hb4
  have N4 := Lib.hid (blk N2.out hb4)
  have L4 := Lib.hid (own_below L1.out hb4)
  have P4 := Lib.hid (show BytesIn (w3.alloc (.cells #[.int .u8 (pw : Int)] 5)) (.slice (some ⟨w3.heap.size, 0, none⟩) 1 1) [pw] from lit_in w3 [pw])
  have HB4 := Lib.hid (own_blocks L1.out)
  clear hb hb4 K2 N2 L1 HPW
  go_wp2_with (at_builtin; refine wpList_mark ?_)
  refine Lib.hid ?_
  refine append_own rfl (.tmp 33) (.tmp 37) rfl (w.heap.size + 1) _ _ _ rfl L4.out (some ⟨w3.heap.size, 0, none⟩) 1 1 [pw] rfl rfl nofun (bytes_src P4.out) (by decide) (there_lt N4.out) ?_
  intro v5 w5 hown hgr _
  have K5 := Lib.hid (below_own K4.out hgr (own_mono L4.out (Nat.le_succ _)))
  have N5 := Lib.hid (blk_g N4.out hgr (by intro e; injection e with e; simp only at e; have := HG.out; omega))
  have OW := Lib.hid (show w5.ownsRow (w.heap.size + 1) 5 1 v5 ((obs z (os.take 0)).length + 2) (u8s (cmd :: pw :: obs z (os.take 0))) from hown)
  obtain ⟨va5, vc5, rfl⟩ := own_form OW.out
  clear hown hgr K4 N4 L4 P4 HB4
  go_wp2_with fail
  go_loopg [7, 8] (os.length + 1) (fun m vb i wr => ∃ k : Nat, k ≤ os.length ∧ m = os.length + 1 - k ∧ i = .int .i64 k ∧ (∃ ba bc, vb = .slice ba ((obs z (os.take k)).length + 2) bc ∧ Hid (wr.ownsRow (w.heap.size + 1) 5 1 (.slice ba ((obs z (os.take k)).length + 2) bc) ((obs z (os.take k)).length + 2) (u8s (cmd :: pw :: obs z (os.take k))))) ∧ Hid (Below w.heap.size w wr) ∧ Hid (wr.heap[w.heap.size]? = some (.cells #[.int .i64 (cmd : Int), .bool a, .bool u, .bool r, .slice ad os.length cap] 26 (0, 0))) ∧ Hid (Fine z os k))
  case atStart => exact ⟨0, Nat.zero_le _, rfl, rfl, ⟨_, _, rfl, OW⟩, K5, N5, Lib.hid (fine_0 z os)⟩
  case round =>
    clear OW K5 N5 HG
    obtain ⟨k, hk, rfl, rfl, ⟨ba, bc, rfl, HO8⟩, HB, HN, HF⟩ := hrel
    have ew : IntKind.i64.wrap ((k : Int) + 1) = (k : Int) + 1 := by
      rw [IntWalk.i64_in] <;> omega
    obtain ⟨c0, c1, c2, c3, c4⟩ := cells5w HN.out
    by_cases hlt : k < os.length
    · obtain ⟨ok, ot, op, on, os_, om, oa, oc, ex⟩ := o_eta (os.getD k none_)
      obtain ⟨b1, o1, ta, tn, tc, rfl, g0, g1, g2, g3, g4, g5, g6, g7, B1, N1⟩ := (HO.out.below HB.out).cells hlt ex
      have hi0 : (0 : Int) ≤ (k : Int) := by omega
      have hi1 : (k : Int) < (os.length : Int) := by omega
      have sx := sound_at HS.out k
      rw [ex] at sx
      simp only at sx
      have HWR := Lib.hid (rwrong_any ⟨ok, ot, op, on, os_, om, oa, oc⟩ ta tn tc z wr B1 sx.1 sx.2.1 sx.2.2)
      by_cases hw : wrong ⟨ok, ot, op, on, os_, om, oa, oc⟩ z ≠ 0
      · have HFI := Lib.hid (show ow z false 0 os = (wrong ⟨ok, ot, op, on, os_, om, oa, oc⟩ z, k) by rw [← ex]; exact fine_wrong HF.out hlt (by rw [ex]; exact hw))
        have HWW := Lib.hid hw
        clear B1 N1 sx
        generalize wrong ⟨ok, ot, op, on, os_, om, oa, oc⟩ z = why at *
        have e1 : ((why : Int) == 0) = false := by simp; exact hw
        have e2 : ((why : Int) != 0) = true := by simp; exact hw
        clear hw
        go_wp2_with fail
        clear g0 g1 g2 g3 g4 g5 g6 g7 c0 c1 c2 c3 c4
        with_reducible refine HWR.out.mono ?_
        rintro e w3 ⟨rfl, hb⟩
        have K3 := kept_hid HB hb
        clear hb HWR
        go_wp2_with fail
        go_ret3
        have hR := HR.out
        rw [HFI.out, if_pos HWW.out] at hR
        subst hR
        exact ⟨.slice none 0 0, rfl, bytes_nil _, K3.out⟩
      · have hw : wrong ⟨ok, ot, op, on, os_, om, oa, oc⟩ z = 0 := Classical.not_not.1 hw
        rw [hw] at HWR
        have HFW := Lib.hid hw
        have HBL := Lib.hid (show (obytes ⟨ok, ot, op, on, os_, om, oa, oc⟩ z).length ≤ 1000000 by have := (obytes_len hw).1; have := sx.2.1; simp only at *; omega)
        have HTK := Lib.hid (show obs z (os.take (k + 1)) = obs z (os.take k) ++ obytes ⟨ok, ot, op, on, os_, om, oa, oc⟩ z by rw [take_o hlt, obs_append, ex]; simp [obs])
        have HLT := Lib.hid (obs_take_le HF.out.2 HS.out)
        have HPT0 := Lib.hid fun W hb => rput_right ⟨ok, ot, op, on, os_, om, oa, oc⟩ ta tn tc z W (bytes_below B1 hb) sx.2.1 N1 hw HZ2.out
        clear B1 N1 sx hw
        generalize obytes ⟨ok, ot, op, on, os_, om, oa, oc⟩ z = bs at *
        have HKD := Lib.hid fun j hj => (HO.out.below HB.out).kind (i := j) hj
        go_wp2_with fail
        with_reducible refine HWR.out.mono ?_
        rintro e w3 ⟨rfl, hb⟩
        have K3 := kept_hid HB hb
        have N3 := Lib.hid (blk HN.out hb)
        have HBW := Lib.hid hb
        have HPT := Lib.hid (HPT0.out w3 hb)
        have UP := Lib.hid fun (o : Nat) (v : Value) (h : wr.cell? ⟨b1, o, none⟩ = some v) => (hb.cell (p := ⟨b1, o, none⟩) (cell_lt h)).trans h
        replace g0 := UP.out _ _ g0
        replace g1 := UP.out _ _ g1
        replace g2 := UP.out _ _ g2
        replace g3 := UP.out _ _ g3
        replace g4 := UP.out _ _ g4
        replace g5 := UP.out _ _ g5
        replace g6 := UP.out _ _ g6
        replace g7 := UP.out _ _ g7
        clear c0 c1 c2 c3 c4
        obtain ⟨c0, c1, c2, c3, c4⟩ := cells5w N3.out
        clear hb HPT0
        by_cases h0 : k = 0
        · have HFS := Lib.hid (fine_step HF.out hlt (by rw [ex]; exact HFW.out) (by rw [ex]; subst h0; simp [bk]))
          have hq : ¬ (0 : Int) < (k : Int) := by omega
          clear h0
          clear HWR
          go_wp2_with fail
          clear g0 g1 g2 g3 g4 g5 g6 g7 c0 c1 c2 c3 c4
          with_reducible refine HPT.out.mono ?_
          rintro e w4 ⟨v, rfl, hown, hb⟩
          have K4 := kept_hid K3 hb
          have N4 := blk N3.out hb
          have HO4 := Lib.hid (own_below (own_below HO8.out HBW.out) hb)
          obtain ⟨va, vc, rfl⟩ := own_form hown
          have HNN := Lib.hid (own_nil hown)
          have HSV := Lib.hid (bytes_src (own_bytes hown))
          have HBO := Lib.hid (own_blocks HO8.out)
          clear hown hb HPT HO8 HBW N3 HN HB
          go_wp2_with (at_builtin; refine wpList_mark ?_)
          refine Lib.hid ?_
          refine append_own rfl (.tmp 82) (.tmp 89) rfl (w.heap.size + 1) _ _ _ rfl HO4.out va _ vc _ rfl rfl HNN.out HSV.out ?_ (there_lt N4) ?_
          · have h1 := HLT.out; have h2 := HBL.out; have h3 : k * 1000000 ≤ 10000 * 1000000 := Nat.mul_le_mul_right _ (by omega); omega
          intro v2 w5 hown hgr _
          have K5 := Lib.hid (below_own K4.out hgr (own_mono HO4.out (Nat.le_succ _)))
          have N5 := Lib.hid (blk_g N4 hgr (by
            intro e
            cases ba with
            | none => cases e
            | some x => injection e with e; have := (HBO.out x rfl).1; omega))
          have HO5 := Lib.hid (show w5.ownsRow (w.heap.size + 1) 5 1 v2 ((obs z (os.take (k + 1))).length + 2) (u8s (cmd :: pw :: obs z (os.take (k + 1)))) by
            rw [HTK.out]
            have e1 : (obs z (os.take k) ++ bs).length + 2 = (obs z (os.take k)).length + 2 + bs.length := by rw [List.length_append]; omega
            rw [e1]
            have e2 : u8s (cmd :: pw :: (obs z (os.take k) ++ bs)) = u8s (cmd :: pw :: obs z (os.take k)) ++ u8s bs := by simp [u8s]
            rw [e2]; exact hown)
          obtain ⟨va2, vc2, rfl⟩ := own_form HO5.out
          clear hown hgr K4 N4 HO4 HNN HSV HBO HLT HTK HBL
          go_wp2_with fail
          go_roundg (os.length + 1 - (k + 1))
          case measure => omega
          case rel => exact ⟨k + 1, by omega, rfl, rfl, ⟨_, _, rfl, HO5⟩, K5, N5, HFS⟩
        · have hq : (0 : Int) < (k : Int) := by omega
          have HK0 := Lib.hid h0
          clear h0
          by_cases hok : ok = 1
          · have hok1 : (ok == 1) = true := by simp [hok]
            have HOK := Lib.hid hok
            clear hok
            have p0 := UP.out _ _ (HKD.out (k - 1) (by omega))
            have HBK := Lib.hid (show bk os k = (os.getD (k - 1) none_).k from by unfold bk; rw [if_neg HK0.out])
            generalize (os.getD (k - 1) none_).k = pk at *
            have ew3 : IntKind.i64.wrap ((k : Int) - 1) = (k : Int) - 1 := by
              rw [IntWalk.i64_in] <;> omega
            have hj0 : (0 : Int) ≤ (k : Int) - 1 := by omega
            have hj1 : (k : Int) - 1 < (os.length : Int) := by omega
            have hj2 : ((k : Int) - 1).toNat = k - 1 := by omega
            by_cases hpk : pk = 1
            · have HFI := Lib.hid (show ow z false 0 os = (1, k) from fine_text HF.out hlt (by rw [ex]; exact HFW.out) (by rw [HBK.out]; exact hpk) (by rw [ex]; exact HOK.out))
              have hpk1 : (pk == 1) = true := by simp [hpk]
              clear hpk HWR
              go_wp2_with fail
              go_ret3
              have hR := HR.out
              rw [HFI.out, if_pos (show (1 : Nat) ≠ 0 by decide)] at hR
              subst hR
              exact ⟨.slice none 0 0, rfl, bytes_nil _, K3.out⟩
            · have HFS := Lib.hid (fine_step HF.out hlt (by rw [ex]; exact HFW.out) (by rw [HBK.out]; exact fun h => hpk h.1))
              have hpk1 : (pk == 1) = false := by simp [hpk]
              clear hpk
              clear HWR
              go_wp2_with fail
              clear p0 g0 g1 g2 g3 g4 g5 g6 g7 c0 c1 c2 c3 c4
              with_reducible refine HPT.out.mono ?_
              rintro e w4 ⟨v, rfl, hown, hb⟩
              have K4 := kept_hid K3 hb
              have N4 := blk N3.out hb
              have HO4 := Lib.hid (own_below (own_below HO8.out HBW.out) hb)
              obtain ⟨va, vc, rfl⟩ := own_form hown
              have HNN := Lib.hid (own_nil hown)
              have HSV := Lib.hid (bytes_src (own_bytes hown))
              have HBO := Lib.hid (own_blocks HO8.out)
              clear hown hb HPT HO8 HBW N3 HN HB
              go_wp2_with (at_builtin; refine wpList_mark ?_)
              refine Lib.hid ?_
              refine append_own rfl (.tmp 82) (.tmp 89) rfl (w.heap.size + 1) _ _ _ rfl HO4.out va _ vc _ rfl rfl HNN.out HSV.out ?_ (there_lt N4) ?_
              · have h1 := HLT.out; have h2 := HBL.out; have h3 : k * 1000000 ≤ 10000 * 1000000 := Nat.mul_le_mul_right _ (by omega); omega
              intro v2 w5 hown hgr _
              have K5 := Lib.hid (below_own K4.out hgr (own_mono HO4.out (Nat.le_succ _)))
              have N5 := Lib.hid (blk_g N4 hgr (by
                intro e
                cases ba with
                | none => cases e
                | some x => injection e with e; have := (HBO.out x rfl).1; omega))
              have HO5 := Lib.hid (show w5.ownsRow (w.heap.size + 1) 5 1 v2 ((obs z (os.take (k + 1))).length + 2) (u8s (cmd :: pw :: obs z (os.take (k + 1)))) by
                rw [HTK.out]
                have e1 : (obs z (os.take k) ++ bs).length + 2 = (obs z (os.take k)).length + 2 + bs.length := by rw [List.length_append]; omega
                rw [e1]
                have e2 : u8s (cmd :: pw :: (obs z (os.take k) ++ bs)) = u8s (cmd :: pw :: obs z (os.take k)) ++ u8s bs := by simp [u8s]
                rw [e2]; exact hown)
              obtain ⟨va2, vc2, rfl⟩ := own_form HO5.out
              clear hown hgr K4 N4 HO4 HNN HSV HBO HLT HTK HBL
              go_wp2_with fail
              go_roundg (os.length + 1 - (k + 1))
              case measure => omega
              case rel => exact ⟨k + 1, by omega, rfl, rfl, ⟨_, _, rfl, HO5⟩, K5, N5, HFS⟩
          · have HFS := Lib.hid (fine_step HF.out hlt (by rw [ex]; exact HFW.out) (by rw [ex]; exact fun h => hok h.2))
            have hok1 : (ok == 1) = false := by simp [hok]
            clear hok
            clear HWR
            go_wp2_with fail
            clear g0 g1 g2 g3 g4 g5 g6 g7 c0 c1 c2 c3 c4
            with_reducible refine HPT.out.mono ?_
            rintro e w4 ⟨v, rfl, hown, hb⟩
            have K4 := kept_hid K3 hb
            have N4 := blk N3.out hb
            have HO4 := Lib.hid (own_below (own_below HO8.out HBW.out) hb)
            obtain ⟨va, vc, rfl⟩ := own_form hown
            have HNN := Lib.hid (own_nil hown)
            have HSV := Lib.hid (bytes_src (own_bytes hown))
            have HBO := Lib.hid (own_blocks HO8.out)
            clear hown hb HPT HO8 HBW N3 HN HB
            go_wp2_with (at_builtin; refine wpList_mark ?_)
            refine Lib.hid ?_
            refine append_own rfl (.tmp 82) (.tmp 89) rfl (w.heap.size + 1) _ _ _ rfl HO4.out va _ vc _ rfl rfl HNN.out HSV.out ?_ (there_lt N4) ?_
            · have h1 := HLT.out; have h2 := HBL.out; have h3 : k * 1000000 ≤ 10000 * 1000000 := Nat.mul_le_mul_right _ (by omega); omega
            intro v2 w5 hown hgr _
            have K5 := Lib.hid (below_own K4.out hgr (own_mono HO4.out (Nat.le_succ _)))
            have N5 := Lib.hid (blk_g N4 hgr (by
              intro e
              cases ba with
              | none => cases e
              | some x => injection e with e; have := (HBO.out x rfl).1; omega))
            have HO5 := Lib.hid (show w5.ownsRow (w.heap.size + 1) 5 1 v2 ((obs z (os.take (k + 1))).length + 2) (u8s (cmd :: pw :: obs z (os.take (k + 1)))) by
              rw [HTK.out]
              have e1 : (obs z (os.take k) ++ bs).length + 2 = (obs z (os.take k)).length + 2 + bs.length := by rw [List.length_append]; omega
              rw [e1]
              have e2 : u8s (cmd :: pw :: (obs z (os.take k) ++ bs)) = u8s (cmd :: pw :: obs z (os.take k)) ++ u8s bs := by simp [u8s]
              rw [e2]; exact hown)
            obtain ⟨va2, vc2, rfl⟩ := own_form HO5.out
            clear hown hgr K4 N4 HO4 HNN HSV HBO HLT HTK HBL
            go_wp2_with fail
            go_roundg (os.length + 1 - (k + 1))
            case measure => omega
            case rel => exact ⟨k + 1, by omega, rfl, rfl, ⟨_, _, rfl, HO5⟩, K5, N5, HFS⟩
    · have hkl : k = os.length := by omega
      have HE := Lib.hid (show os.take k = os by rw [hkl]; exact List.take_length)
      have HW0 := Lib.hid (show (ow z false 0 os).1 = 0 by rw [hkl] at HF; exact fine_end HF.out)
      rw [HE.out] at HO8 ⊢
      obtain ⟨L, hL⟩ : ∃ L, L = (obs z os).length + 2 := ⟨_, rfl⟩
      have HLL := Lib.hid hL
      rw [← hL] at HO8 ⊢
      clear hL
      have hn0 : ¬ (k : Int) < (os.length : Int) := by omega
      clear hlt hk hkl
      by_cases hbig : 8192 < L
      · have hb : (8192 : Int) < (L : Int) := by omega
        have HBG := Lib.hid hbig
        clear hbig
        go_wp2_with fail
        go_ret3
        have hg : 8192 < (obs z os).length + 2 := by rw [← HLL.out]; exact HBG.out
        have hR := HR.out
        rw [if_neg (by rw [HW0.out]; simp), if_pos hg] at hR
        subst hR
        exact ⟨.slice none 0 0, rfl, bytes_nil _, HB.out⟩
      · have hb : ¬ (8192 : Int) < (L : Int) := by omega
        have HBG := Lib.hid hbig
        clear hbig
        go_wp2_with fail
        go_ret3
        have hg : ¬ 8192 < (obs z os).length + 2 := by rw [← HLL.out]; exact HBG.out
        have hR := HR.out
        rw [if_neg (by rw [HW0.out]; simp), if_neg hg] at hR
        subst hR
        exact ⟨.slice ba L bc, rfl, own_bytes HO8.out, HB.out⟩
/-- The document's Write of whatever command. -/
theorem rwrite_any (x : Cm) (ad : Option Addr) (n cap z : Nat) (w : World) (ho : OrdsIn w 0 (.slice ad n cap) x.os) (hs : Sound x.os) (hos : x.os.length ≤ 10000) (h2 : z ≤ 16383) :
    Calls Tryd.prog 12 #[.agg #[.int .i64 x.cmd, .bool x.a, .bool x.u, .bool x.r, .slice ad n cap], .int .i64 (z : Int)] w fun e w' => ∃ v, e = .returned (.tuple #[v, .int .i64 ((cwrite x z).2.1 : Nat), .int .i64 (cwrite x z).2.2]) ∧ BytesIn w' v (cwrite x z).1 ∧ Below w.heap.size w w' := by
  obtain ⟨c, a, u, r, os⟩ := x
  simp only at ho hs hos ⊢
  cases hk : known c with
  | false => exact rwrite_unknown c a u r os ad n cap z w hk
  | true =>
    cases hw : writes c with
    | true =>
      have hc : c = 241 ∨ c = 245 := by simp [writes] at hw; omega
      obtain ⟨m, rfl⟩ := Int.eq_ofNat_of_zero_le (a := c) (by omega)
      exact rwrite_writes m (by omega) a u r ad n cap z os w ho hs hos h2
    | false =>
      cases hm : (a || u || r || !os.isEmpty) with
      | true => exact rwrite_more c a u r os ad n cap z w hk hw ho.len hm
      | false =>
        simp only [Bool.or_eq_false_iff, Bool.not_eq_false', List.isEmpty_iff] at hm
        obtain ⟨⟨⟨rfl, rfl⟩, rfl⟩, rfl⟩ := hm
        obtain rfl := ho.len
        have hc : 0 ≤ c := by simp [known, writes] at hk; omega
        obtain ⟨m, rfl⟩ := Int.eq_ofNat_of_zero_le hc
        exact rwrite_bare m ad cap z w hk hw
end Str
end Go.Proofs.YtmllmmamdkjndaaDoor
