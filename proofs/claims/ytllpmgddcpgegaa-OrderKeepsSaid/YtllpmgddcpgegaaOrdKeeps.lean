/- OrderKeeps returns true. Written by tools/gen_ord_keeps.py. -/
import Derived.Test.YtllpmgddcpgegaaOrdAwake
import Derived.Test.YtllpmgddcpgegaaFlip
import Derived.Deep.RegionHeld3
namespace Go.Proofs.Ytllpmgddcpgegaa
open Go.RowKit Sha Cut Err Six Att Byt Apd
namespace Ord
set_option maxHeartbeats 1000000 in
theorem keeps_long (ad : Option Addr) (len cap : Nat) (w : World) (h : 200 < len) :
    Calls Try.prog 4 #[.slice ad len cap] w fun e w' => e = .returned (.bool true) ∧ Below w.heap.size w w' := by
  have hg : decide ((200 : Int) < (len : Int)) = true := by simp; omega
  go_enter Try.func4, Try.ntmps4
  go_wp2_with fail
  with_reducible refine (awake_any _).mono ?_
  rintro e w1 ⟨rfl, hb1⟩
  have H1 := Lib.hid hb1
  clear hb1
  go_wp2_with fail
  with_reducible refine (awake_any _).mono ?_
  rintro e w2 ⟨rfl, hb2⟩
  have H2 := kept_hid H1 hb2
  clear hb2 H1
  go_wp2_with fail
  go_ret
  exact ⟨rfl, H2.out⟩
theorem own_at2 {w : World} {base n i : Nat} {va : Option Addr} {vc : Nat} {m : List Nat} (h : w.ownsRow base 5 1 (.slice va n vc) n (u8s m)) (hi : i < n) : ∃ g, va = some ⟨g, 0, none⟩ ∧ g < w.heap.size ∧ w.cell? ⟨g, i, none⟩ = some (.int .u8 ((m.getD i 0 : Nat) : Int)) := by
  have hl := own_len h
  obtain ⟨ad, c, hv, hnn, hs⟩ := own_spot h
  injection hv with e1 e2 e3
  subst e1 e3
  obtain ⟨ad', c', hv, hlc, hr⟩ := own_bytes h
  injection hv with e1 e2 e3
  subst e1
  rcases hr with h0 | ⟨g, off, rfl, hc⟩
  · rw [h0] at hl; simp at hl; omega
  · obtain ⟨h1, _, h3⟩ := hs _ rfl
    injection h1 with _ e2
    subst e2
    have := hc i (by omega)
    rw [Nat.zero_add] at this
    exact ⟨g, rfl, h3, this⟩
set_option maxRecDepth 100000 in
set_option maxHeartbeats 4000000 in
theorem keeps_ok (ad : Option Addr) (len cap : Nat) (xs : List Nat) (w : World) (hl : len ≤ 200) (hx : xs.length = len) (h8 : ∀ x ∈ xs, x < 256) (hB : BytesIn w (.slice ad len cap) xs) (hn : ad = none → len = 0 ∧ cap = 0) (h0 : wrong ⟨1, xs, false, false, 0, false, 0, 0⟩ 80 = 0) :
    Calls Try.prog 4 #[.slice ad len cap] w fun e w' => e = .returned (.bool true) ∧ Below w.heap.size w w' := by
  have hg : decide ((200 : Int) < (len : Int)) = false := by simp; omega
  have HX := Lib.hid (show xs.length < 1000000 by omega)
  have H8 := Lib.hid h8
  have HB := Lib.hid hB
  have HN := Lib.hid hn
  have HP := Lib.hid fun oa oc W hb ho => put_right ⟨1, xs, false, false, 0, false, 0, 0⟩ oa xs.length oc 80 W hb h8 HX.out ho (by show (0 : Nat) < 256; decide) h0 (by decide) (by decide)
  simp only [show obytes ⟨1, xs, false, false, 0, false, 0, 0⟩ 80 = xs from rfl, show ((0 : Nat) : Int) = 0 from rfl, show ((80 : Nat) : Int) = 80 from rfl] at HP
  subst hx
  clear hl h8 hB hn h0
  go_enter Try.func4, Try.ntmps4
  go_wp2_with fail
  with_reducible refine (awake_any _).mono ?_
  rintro e w1 ⟨rfl, hb1⟩
  have H1 := Lib.hid hb1
  have HO := Lib.hid (own_lit w1 w1.heap.size [] (Nat.le_refl _) (by decide))
  have HA := Lib.hid (al_any w1 (.cells #[] 5))
  have HS := Lib.hid (bytes_src (bytes_below (bytes_below HB.out H1.out) HA.out))
  clear hb1
  go_wp2_with (at_builtin; refine wpList_mark ?_)
  refine Lib.hid ?_
  refine append_own rfl (.tmp 18) (.tmp 19) rfl w1.heap.size (.slice (some ⟨w1.heap.size, 0, none⟩) 0 0) 0 [] rfl HO.out ad xs.length cap xs rfl rfl HN.out HS.out (by have := HX.out; omega) HA.out.size ?_
  intro v2 w2 hown hgr _
  have HO2 := Lib.hid (show w2.ownsRow w1.heap.size 5 1 v2 xs.length (u8s xs) from by simpa using hown)
  have H2 := kept_hid H1 (HA.out.grown hgr HA.out.size (by intro k hk; simp [Value.ownBlock] at hk; omega))
  clear hown hgr HO HA HS H1
  obtain ⟨oa, oc, rfl⟩ := own_form HO2.out
  have HO3 := Lib.hid (own_below HO2.out (al_any w2 (.cells #[.int .i64 1, .slice oa xs.length oc, .bool false, .bool false, .int .i64 0, .bool false, .int .i64 0, .int .u8 0] 26)))
  have H3 := kept_alloc H2 (.cells #[.int .i64 1, .slice oa xs.length oc, .bool false, .bool false, .int .i64 0, .bool false, .int .i64 0, .int .u8 0] 26)
  have L3 := Lib.hid (heap_alloc_new w2 (.cells #[.int .i64 1, .slice oa xs.length oc, .bool false, .bool false, .int .i64 0, .bool false, .int .i64 0, .int .u8 0] 26))
  have HLT := Lib.hid (own_nil HO2.out)
  clear HO2 H2
  go_wp2_with fail
  generalize w2.heap.size = L at *
  generalize w2.alloc (.cells #[.int .i64 1, .slice oa xs.length oc, .bool false, .bool false, .int .i64 0, .bool false, .int .i64 0, .int .u8 0] 26) = w3 at *
  with_reducible refine (HP.out oa oc w3 (own_bytes HO3.out) HLT.out).mono ?_
  rintro e w4 ⟨v, rfl, ho, hb⟩
  have K4 := Lib.hid hb
  have HV := Lib.hid (show w4.ownsRow w3.heap.size 5 1 v xs.length (u8s (flipTo xs 0)) from ho)
  obtain ⟨va, vc, rfl⟩ := own_form ho
  clear ho hb
  go_wp2_with fail
  go_loopg [7] (xs.length + 1) (fun n i wr => ∃ k : Nat, k ≤ xs.length ∧ n = xs.length + 1 - k ∧ i = .int .i64 k ∧ Hid (wr.ownsRow w3.heap.size 5 1 (.slice va xs.length vc) xs.length (u8s (flipTo xs k))) ∧ Hid (Below w3.heap.size w3 wr))
  case atStart => exact ⟨0, Nat.zero_le _, rfl, rfl, HV, K4⟩
  case round =>
    obtain ⟨k, hk, rfl, rfl, HV, K⟩ := hrel
    clear K4
    by_cases hlt : k < xs.length
    · obtain ⟨g, rfl, hgl, c0⟩ := own_at2 HV.out hlt
      have f0 := own_free (i := k) HV.out
      have HF := flip_at hlt
      rw [HF.1] at c0
      have HF := Lib.hid HF.2
      have hz := byte_lt H8.out (by decide) k
      have HQ := Lib.hid (own_put (i := k) (v := xs.getD k 0 ^^^ 255) HV.out)
      rw [HF.out] at HQ
      have HGE := Lib.hid ((own_blocks HV.out _ rfl).1)
      have e9 := u8_flip (xs.getD k 0) hz
      generalize xs.getD k 0 = z at c0 hz HQ e9
      have hi0 : (0 : Int) ≤ (k : Int) := by omega
      have hi1 : (k : Int) < (xs.length : Int) := by omega
      have ew : IntKind.i64.wrap ((k : Int) + 1) = (k : Int) + 1 := by
        have := HX.out
        rw [IntWalk.i64_in] <;> omega
      have KK := Lib.hid (K.out.setCell (p := ⟨g, k, none⟩) HGE.out (.int .u8 ((z ^^^ 255 : Nat) : Int)))
      clear HF HV K hlt
      go_wp2_with fail
      go_roundg (xs.length + 1 - (k + 1))
      case measure => omega
      case rel => exact ⟨k + 1, by omega, rfl, by go_num, HQ, KK⟩
    · obtain rfl : k = xs.length := by omega
      clear hlt HV
      have H4 := kept_hid H3 K.out
      go_wp2_with fail
      with_reducible refine (Sam.same_b _ _ xs _ (own_bytes (own_below HO3.out K.out)) (bytes_below HB.out H4.out) H8.out HX.out).mono ?_
      rintro e w5 ⟨rfl, hb⟩
      have H5 := kept_hid H4 hb
      have K5 := kept_hid K hb
      have HO5 := Lib.hid (own_below HO3.out K5.out)
      obtain ⟨c0, c1, c2, c3, c4, c5, c6, c7⟩ := cells8 (blk L3.out K5.out)
      clear hb K H4
      go_wp2_with fail
      with_reducible refine (HP.out oa oc w5 (own_bytes HO5.out) HLT.out).mono ?_
      rintro e w6 ⟨d, rfl, ho, hb⟩
      have H6 := kept_hid H5 hb
      have HD := Lib.hid (own_bytes ho)
      obtain ⟨da, dc, rfl⟩ := own_form ho
      clear ho hb c0 c1 c2 c3 c4 c5 c6 c7
      go_wp2_with fail
      go_region_held3 (fun w' => Below w6.heap.size w6 w')
        (first | exact (Below.refl _ _).drew | exact Below.refl _ _ | exact kept_trans (by assumption) hb)
        (first | (go_at_call 9; with_reducible refine (Sam.same_b _ _ xs _ (bytes_below HD.out (by assumption)) (bytes_below (bytes_below HB.out H6.out) (by assumption)) H8.out HX.out).mono ?_; rintro e w7 ⟨rfl, hb⟩))
      have hS := (by assumption : Below w6.heap.size w6 _)
      have H7 := kept_hid H6 hS
      go_wp2_with fail
      go_ret
      exact ⟨rfl, H7.out⟩
set_option maxRecDepth 100000 in
set_option maxHeartbeats 4000000 in
theorem keeps_bad (ad : Option Addr) (len cap : Nat) (xs : List Nat) (w : World) (hl : len ≤ 200) (hx : xs.length = len) (h8 : ∀ x ∈ xs, x < 256) (hB : BytesIn w (.slice ad len cap) xs) (hn : ad = none → len = 0 ∧ cap = 0) (h0 : wrong ⟨1, xs, false, false, 0, false, 0, 0⟩ 80 ≠ 0) :
    Calls Try.prog 4 #[.slice ad len cap] w fun e w' => e = .returned (.bool true) ∧ Below w.heap.size w w' := by
  have hg : decide ((200 : Int) < (len : Int)) = false := by simp; omega
  have HX := Lib.hid (show xs.length < 1000000 by omega)
  have H8 := Lib.hid h8
  have HB := Lib.hid hB
  have HN := Lib.hid hn
  have HP := Lib.hid fun oa oc W hb => put_wrong ⟨1, xs, false, false, 0, false, 0, 0⟩ oa xs.length oc 80 W hb h8 HX.out (by show (0 : Nat) < 256; decide) h0 (by decide) (by decide)
  simp only [show ((0 : Nat) : Int) = 0 from rfl, show ((80 : Nat) : Int) = 80 from rfl] at HP
  subst hx
  clear hl h8 hB hn h0
  generalize wrong ⟨1, xs, false, false, 0, false, 0, 0⟩ 80 = u at HP
  go_enter Try.func4, Try.ntmps4
  go_wp2_with fail
  with_reducible refine (awake_any _).mono ?_
  rintro e w1 ⟨rfl, hb1⟩
  have H1 := Lib.hid hb1
  have HO := Lib.hid (own_lit w1 w1.heap.size [] (Nat.le_refl _) (by decide))
  have HA := Lib.hid (al_any w1 (.cells #[] 5))
  have HS := Lib.hid (bytes_src (bytes_below (bytes_below HB.out H1.out) HA.out))
  clear hb1
  go_wp2_with (at_builtin; refine wpList_mark ?_)
  refine Lib.hid ?_
  refine append_own rfl (.tmp 18) (.tmp 19) rfl w1.heap.size (.slice (some ⟨w1.heap.size, 0, none⟩) 0 0) 0 [] rfl HO.out ad xs.length cap xs rfl rfl HN.out HS.out (by have := HX.out; omega) HA.out.size ?_
  intro v2 w2 hown hgr _
  have HO2 := Lib.hid (show w2.ownsRow w1.heap.size 5 1 v2 xs.length (u8s xs) from by simpa using hown)
  have H2 := kept_hid H1 (HA.out.grown hgr HA.out.size (by intro k hk; simp [Value.ownBlock] at hk; omega))
  clear hown hgr HO HA HS H1
  obtain ⟨oa, oc, rfl⟩ := own_form HO2.out
  have HO3 := Lib.hid (own_below HO2.out (al_any w2 (.cells #[.int .i64 1, .slice oa xs.length oc, .bool false, .bool false, .int .i64 0, .bool false, .int .i64 0, .int .u8 0] 26)))
  have H3 := kept_alloc H2 (.cells #[.int .i64 1, .slice oa xs.length oc, .bool false, .bool false, .int .i64 0, .bool false, .int .i64 0, .int .u8 0] 26)
  have L3 := Lib.hid (heap_alloc_new w2 (.cells #[.int .i64 1, .slice oa xs.length oc, .bool false, .bool false, .int .i64 0, .bool false, .int .i64 0, .int .u8 0] 26))
  have HLT := Lib.hid (own_nil HO2.out)
  clear HO2 H2
  go_wp2_with fail
  generalize w2.heap.size = L at *
  generalize w2.alloc (.cells #[.int .i64 1, .slice oa xs.length oc, .bool false, .bool false, .int .i64 0, .bool false, .int .i64 0, .int .u8 0] 26) = w3 at *
  with_reducible refine (HP.out oa oc w3 (own_bytes HO3.out)).mono ?_
  rintro e w4 ⟨rfl, hb⟩
  have K4 := Lib.hid hb
  clear hb
  go_wp2_with fail
  go_loopg [7] 1 (fun n i wr => n = 1 ∧ i = .int .i64 0 ∧ Hid (Below w3.heap.size w3 wr))
  case atStart => exact ⟨rfl, rfl, K4⟩
  case round =>
    obtain ⟨rfl, rfl, K⟩ := hrel
    clear K4
    · skip
      have H4 := kept_hid H3 K.out
      go_wp2_with fail
      with_reducible refine (Sam.same_b _ _ xs _ (own_bytes (own_below HO3.out K.out)) (bytes_below HB.out H4.out) H8.out HX.out).mono ?_
      rintro e w5 ⟨rfl, hb⟩
      have H5 := kept_hid H4 hb
      have K5 := kept_hid K hb
      have HO5 := Lib.hid (own_below HO3.out K5.out)
      obtain ⟨c0, c1, c2, c3, c4, c5, c6, c7⟩ := cells8 (blk L3.out K5.out)
      clear hb K H4
      go_wp2_with fail
      with_reducible refine (HP.out oa oc w5 (own_bytes HO5.out)).mono ?_
      rintro e w6 ⟨rfl, hb⟩
      have H6 := kept_hid H5 hb
      clear hb c0 c1 c2 c3 c4 c5 c6 c7
      go_wp2_with fail
      go_quiet (fail)
      have H7 := kept_draw H6 nq
      go_wp2_with fail
      go_ret
      exact ⟨rfl, H7.out⟩
/-- OrderKeeps returns true. -/
theorem keeps_any (ad : Option Addr) (len cap : Nat) (zs : List Int) (w : World) (hr : IsRow .u8 w ad len cap zs) :
    Calls Try.prog 4 #[.slice ad len cap] w fun e w' => e = .returned (.bool true) ∧ Below w.heap.size w w' := by
  by_cases hl : 200 < len
  · exact keeps_long ad len cap w hl
  obtain ⟨xs, hx, h8, hB⟩ := isRow_bytes hr
  have hn := isRow_nil hr
  by_cases h0 : wrong ⟨1, xs, false, false, 0, false, 0, 0⟩ 80 = 0
  · exact keeps_ok ad len cap xs w (by omega) hx h8 hB hn h0
  · exact keeps_bad ad len cap xs w (by omega) hx h8 hB hn h0
end Ord
end Go.Proofs.Ytllpmgddcpgegaa
