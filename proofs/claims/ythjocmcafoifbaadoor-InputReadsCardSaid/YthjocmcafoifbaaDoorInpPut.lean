/- putAddr and putField of package input. -/
import Derived.Test.YthjocmcafoifbaaDoorInpCheck
import Derived.Deep.Cut
namespace Go.Proofs.YthjocmcafoifbaaDoor
open Go.RowKit Sha Cut Err Six Att Apd
namespace Inp
theorem putAddr_any (a z : Nat) (w : World) (ha : a < z) (h2 : z ≤ 16383) :
    Calls Tryd.prog 29 #[.int .i64 (a : Int), .int .i64 (z : Int)] w fun e w' => ∃ g, e = .returned (.slice (some ⟨g, 0, none⟩) 2 2) ∧ BytesIn w' (.slice (some ⟨g, 0, none⟩) 2 2) [Adr.first a z, Adr.second a z] ∧ Below w.heap.size w w' := by
  have HP := Lib.hid fun W => Adr.put_all a z W ha h2
  generalize Adr.first a z = q1 at *
  generalize Adr.second a z = q2 at *
  clear ha h2
  go_enter Tryd.func29, Tryd.ntmps29
  go_wp2_with fail
  with_reducible refine (HP.out _).mono ?_
  rintro e w2 ⟨rfl, hb⟩
  have K2 := kept_alloc (Lib.hid hb) (.cells #[.int .u8 (q1 : Nat), .int .u8 (q2 : Nat)] 69)
  have G2 := Lib.hid (heap_alloc_new w2 (.cells #[.int .u8 (q1 : Nat), .int .u8 (q2 : Nat)] 69))
  clear hb HP
  go_wp2_with fail
  go_ret
  exact ⟨_, rfl, two_in G2.out, K2.out⟩
set_option maxRecDepth 100000 in
set_option maxHeartbeats 2000000 in
theorem putField_free {t : List Nat} (ta : Option Addr) (tc z : Nat) (w : World) (hB : BytesIn w (.slice ta t.length tc) t) (hn : ta = none → t.length = 0 ∧ tc = 0) (hl : t.length < 1000000) :
    Calls Tryd.prog 30 #[.agg #[.int .i64 (-1), .slice ta t.length tc], .int .i64 (z : Int)] w fun e w' => ∃ v, e = .returned v ∧ w'.ownsRow w.heap.size 5 1 v t.length (u8s t) ∧ Below w.heap.size w w' := by
  have HA := Lib.hid (al_any w (.cells #[.int .i64 (-1), .slice ta t.length tc] 47))
  have HS := Lib.hid (bytes_src (bytes_below hB HA.out))
  have HN := Lib.hid hn
  have HL := Lib.hid hl
  clear hB hn hl
  go_enter Tryd.func30, Tryd.ntmps30
  go_wp2_with (at_builtin; refine wpList_mark ?_)
  refine Lib.hid ?_
  refine append_own rfl (.tmp 18) (.tmp 20) rfl w.heap.size (.slice none 0 0) 0 [] rfl (World.ownsRow_nil _ _ _ _) ta t.length tc t rfl rfl HN.out HS.out (by have := HL.out; omega) HA.out.size ?_
  intro v' w' hown hgr _
  have HO := Lib.hid (show w'.ownsRow w.heap.size 5 1 v' t.length (u8s t) from by simpa using hown)
  have K := Lib.hid (below_own HA.out hgr (World.ownsRow_nil _ w.heap.size 5 1))
  obtain ⟨va, vc, rfl⟩ := own_form HO.out
  clear hown hgr HS HN HL
  go_wp2_with fail
  go_ret
  exact ⟨_, rfl, HO.out, K.out⟩
set_option maxRecDepth 100000 in
set_option maxHeartbeats 4000000 in
theorem putField_at {t : List Nat} (a : Nat) (ta : Option Addr) (tc z : Nat) (w : World) (hB : BytesIn w (.slice ta t.length tc) t) (hn : ta = none → t.length = 0 ∧ tc = 0) (hl : t.length < 1000000) (ha : a < z) (h2 : z ≤ 16383) :
    Calls Tryd.prog 30 #[.agg #[.int .i64 (a : Int), .slice ta t.length tc], .int .i64 (z : Int)] w fun e w' => ∃ v, e = .returned v ∧ w'.ownsRow w.heap.size 5 1 v (3 + t.length) (u8s (17 :: Adr.first a z :: Adr.second a z :: t)) ∧ Below w.heap.size w w' := by
  have HA := Lib.hid (al_any w (.cells #[.int .i64 (a : Int), .slice ta t.length tc] 47))
  have HG := Lib.hid (heap_alloc_new w (.cells #[.int .i64 (a : Int), .slice ta t.length tc] 47))
  have HS := Lib.hid fun W hb => bytes_src (bytes_below hB (w1 := W) hb)
  have HN := Lib.hid hn
  have HL := Lib.hid hl
  have HP := Lib.hid fun W => putAddr_any a z W ha h2
  have e0 : ((a : Int) != -1) = true := by simp
  clear hB hn hl ha h2
  generalize Adr.first a z = q1 at *
  generalize Adr.second a z = q2 at *
  go_enter Tryd.func30, Tryd.ntmps30
  go_upto_region 1 with (fail)
  generalize w.alloc (.cells #[.int .i64 (a : Int), .slice ta t.length tc] 47) = w1 at *
  have HLT := Lib.hid (there_lt HG.out)
  have c0 := cell_of_row w1 w.heap.size 0 _ _ (0, 0) HG.out
  go_wp2_with (at_builtin; refine wpList_mark ?_)
  clear c0
  refine Lib.hid ?_
  have A1 := al_any w1 (.cells (u8s [17]).toArray 5)
  refine append_own rfl (.tmp 9) (.tmp 10) rfl w1.heap.size (.slice none 0 0) 0 [] rfl (World.ownsRow_nil _ _ _ _) (some ⟨w1.heap.size, 0, none⟩) 1 1 [17] rfl rfl nofun (bytes_src (lit_in w1 [17])) (by decide) A1.size ?_
  intro v2 w2 hown hgr _
  have HO2 := Lib.hid (show w2.ownsRow w1.heap.size 5 1 v2 1 (u8s [17]) from by simpa using hown)
  have K2 := Lib.hid (below_own (kept_trans HA.out A1) hgr (World.ownsRow_nil _ w.heap.size 5 1))
  have G2 := Lib.hid (blk_g (blk HG.out A1) hgr nofun)
  have B2 := Lib.hid (Nat.le_trans A1.size hgr.size)
  obtain ⟨va2, vc2, rfl⟩ := own_form HO2.out
  have OB2 := Lib.hid (own_blocks HO2.out)
  clear hown hgr A1
  have c0 := cell_of_row _ w.heap.size 0 _ _ (0, 0) G2.out
  have c1 := cell_of_row _ w.heap.size 1 _ _ (0, 0) G2.out
  go_wp2_with fail
  with_reducible refine (HP.out _).mono ?_
  rintro e w3 ⟨g, rfl, hB3, hb⟩
  have HO3 := Lib.hid (own_below HO2.out hb)
  have K3 := kept_hid K2 hb
  have B3 := Lib.hid (Nat.le_trans B2.out hb.size)
  have G3 := Lib.hid (blk G2.out hb)
  have HS3 := Lib.hid (bytes_src hB3)
  clear hb hB3 HP c0 c1
  go_wp2_with (at_builtin; refine wpList_mark ?_)
  refine Lib.hid ?_
  refine append_own rfl (.tmp 12) (.tmp 16) rfl w1.heap.size _ 1 _ rfl HO3.out (some ⟨g, 0, none⟩) 2 2 [q1, q2] rfl rfl nofun HS3.out (by decide) B3.out ?_
  intro v4 w4 hown hgr _
  have HO4 := Lib.hid (show w4.ownsRow w1.heap.size 5 1 v4 3 (u8s [17, q1, q2]) from hown)
  have K4 := Lib.hid (below_own K3.out hgr (own_mono HO3.out HA.out.size))
  have G4 := Lib.hid (blk_g G3.out hgr (by
    intro e
    cases va2 with
    | none => cases e
    | some x => injection e with e; have := (OB2.out x rfl).1; have := HLT.out; omega))
  have B4 := Lib.hid (Nat.le_trans B3.out hgr.size)
  obtain ⟨va4, vc4, rfl⟩ := own_form HO4.out
  clear hown hgr HO3 K3 G3 HS3 OB2 HO2 K2 G2
  have c0 := cell_of_row w4 w.heap.size 0 _ _ (0, 0) G4.out
  have c1 := cell_of_row w4 w.heap.size 1 _ _ (0, 0) G4.out
  have HS4 := Lib.hid (HS.out w4 K4.out)
  go_wp2_with (at_builtin; refine wpList_mark ?_)
  clear c0 c1
  refine Lib.hid ?_
  refine append_own rfl (.tmp 18) (.tmp 20) rfl w1.heap.size _ 3 _ rfl HO4.out ta t.length tc t rfl rfl HN.out HS4.out (by have := HL.out; omega) B4.out ?_
  intro v5 w5 hown hgr _
  have HO5 := Lib.hid (show w5.ownsRow w1.heap.size 5 1 v5 (3 + t.length) (u8s (17 :: q1 :: q2 :: t)) from hown)
  have K5 := Lib.hid (below_own K4.out hgr (own_mono HO4.out HA.out.size))
  obtain ⟨va5, vc5, rfl⟩ := own_form HO5.out
  clear hown hgr HS4 HN HL HS HO4 K4
  go_wp2_with fail
  go_ret
  exact ⟨_, rfl, own_mono HO5.out HA.out.size, K5.out⟩
end Inp
end Go.Proofs.YthjocmcafoifbaaDoor
