/- InputKeeps returns true. Written by tools/gen_inp_keeps.py. -/
import Derived.Test.YthjocmcafoifbaaDoorInpTells
import Derived.Test.YthjocmcafoifbaaDoorInpRsame
import Derived.Deep.RegionHeld3
import Derived.Deep.LoopGhost
namespace Go.Proofs.YthjocmcafoifbaaDoor
open Go.RowKit Sha Cut Err Six Att Byt Apd
namespace Inp
theorem own_cell {w : World} {base n i : Nat} {v : Value} {m : List Nat} (h : w.ownsRow base 5 1 v n (u8s m)) (hi : i < n) : ∃ g c, v = .slice (some ⟨g, 0, none⟩) n c ∧ w.cell? ⟨g, i, none⟩ = some (.int .u8 ((m.getD i 0 : Nat) : Int)) := by
  have hl := own_len h
  obtain ⟨ad, cap, hv, _, hc⟩ := own_bytes h
  rcases h.2 with ⟨_, h0⟩ | ⟨g, cap2, cur, hv', _⟩
  · omega
  · rw [hv'] at hv
    injection hv with e4 _ _
    rcases hc with h0 | ⟨g', off, hg', hc⟩
    · rw [h0] at hl; simp at hl; omega
    · rw [← e4] at hg'
      injection hg' with hg'
      injection hg' with e5 e6
      subst e5 e6
      refine ⟨g, cap2, hv', ?_⟩
      have := hc i (by omega)
      rwa [Nat.zero_add] at this
theorem lit_row {w : World} {base : Nat} {v : Value} {ts ys : List Nat} (hys : ys = 125 :: 64 :: 64 :: ts) (h : w.ownsRow base 5 1 v (3 + ts.length) (u8s [125, 64, 64] ++ u8s ts)) : w.ownsRow base 5 1 v ys.length (u8s ys) := by
  subst hys
  have e : (125 :: 64 :: 64 :: ts).length = 3 + ts.length := by simp only [List.length_cons]; omega
  rw [e]
  exact h
theorem below_set {w a b : World} {C : Nat} (h : Below w.heap.size w a) (hg : a.grownBy b (some C)) (hC : w.heap.size ≤ C) : Below w.heap.size w b :=
  h.grown hg h.size (by intro k hk; injection hk with hk; omega)
set_option maxRecDepth 100000 in
set_option maxHeartbeats 4000000 in
theorem keeps_out (ad : Option Addr) (len cap : Nat) (w : World) (h : 200 < len) (hgl : Handle w) :
    Calls Tryd.prog 6 #[.slice ad len cap] w fun e w' => e = .returned (.bool true) ∧ Below w.heap.size w w' := by
  have HH := Lib.hid hgl
  have hg : (200 : Int) < (len : Int) := by omega
  clear h hgl
  go_enter Tryd.func6, Tryd.ntmps6
  go_wp2_with fail
  with_reducible refine (awake_any _ HH.out).mono ?_
  rintro e w1 ⟨rfl, hb⟩
  have K1 := Lib.hid hb
  clear hb
  go_wp2_with fail
  with_reducible refine (awake_any _ (hand_of HH.out K1.out)).mono ?_
  rintro e w2 ⟨rfl, hb⟩
  have K2 := kept_hid K1 hb
  clear hb K1
  go_wp2_with fail
  go_ret
  exact ⟨rfl, K2.out⟩
set_option maxRecDepth 100000 in
set_option maxHeartbeats 16000000 in
theorem keeps_main {ts : List Nat} (ad : Option Addr) (cap : Nat) (w : World) (hB : BytesIn w (.slice ad ts.length cap) ts) (h8 : ∀ x ∈ ts, x < 256) (hn : ad = none → ts.length = 0 ∧ cap = 0) (hl : ts.length ≤ 200) (hgl : Handle w) :
    Calls Tryd.prog 6 #[.slice ad ts.length cap] w fun e w' => e = .returned (.bool true) ∧ Below w.heap.size w w' := by
  have hg : ¬ (200 : Int) < (ts.length : Int) := by omega
  have hy8 : ∀ x ∈ 125 :: 64 :: 64 :: ts, x < 256 := fun x hx => by
    rcases List.mem_cons.1 hx with rfl | hx
    · decide
    rcases List.mem_cons.1 hx with rfl | hx
    · decide
    rcases List.mem_cons.1 hx with rfl | hx
    · decide
    · exact h8 x hx
  have hyl : (125 :: 64 :: 64 :: ts).length = ts.length + 3 := rfl
  have HR := fun W hh va vc hw hv => read_any (xs := 125 :: 64 :: 64 :: ts) va (125 :: 64 :: 64 :: ts).length vc 80 W hh hw hy8 hv (by omega) _ rfl
  obtain ⟨qk8, qsl, qs⟩ := iread_sound (z := 80) hy8
  have qsd : Sound (iread (125 :: 64 :: 64 :: ts) 80).1.fs := fun o ho => ⟨(qs o ho).2.2, by have := (qs o ho).2.1; omega⟩
  have HWR := fun W oa kk oc hw => write_any (iread (125 :: 64 :: 64 :: ts) 80).1 oa kk oc 80 W qk8 hw qsd (by omega) (by decide) (by decide) _ rfl
  have HB8 := Lib.hid (iwrite_bytes (x := (iread (125 :: 64 :: 64 :: ts) 80).1) (z := 80) (by decide) qk8 qsd)
  have HQS := Lib.hid qsd
  have HQL := Lib.hid (show (iread (125 :: 64 :: 64 :: ts) 80).1.fs.length < 1000000 by omega)
  have HY8 := Lib.hid hy8
  have HT := Lib.hid hl
  have HBT := Lib.hid hB
  have HN := Lib.hid hn
  have HH := Lib.hid hgl
  obtain ⟨ys, hys⟩ : ∃ ys, ys = 125 :: 64 :: 64 :: ts := ⟨_, rfl⟩
  have HYS := Lib.hid hys
  have HYL := Lib.hid (show ys.length = ts.length + 3 by rw [hys]; rfl)
  rw [← hys] at HR HWR HB8 HQS HQL HY8
  generalize iread ys 80 = Q at *
  obtain ⟨⟨qk, qc, qo⟩, qw, qat⟩ := Q
  simp only [show ((80 : Nat) : Int) = 80 from rfl] at HR HWR HB8 HQS HQL
  replace HR := Lib.hid HR
  replace HWR := Lib.hid HWR
  clear hB h8 hn hl hgl hy8 hyl qk8 qsl qs qsd hys
  go_enter Tryd.func6, Tryd.ntmps6
  go_wp2_with fail
  with_reducible refine (awake_any _ HH.out).mono ?_
  rintro e w1 ⟨rfl, hb⟩
  have K1 := Lib.hid hb
  clear hb
  have HA2 := Lib.hid (al_any w1 (.cells #[.int .u8 125, .int .u8 64, .int .u8 64] 5))
  have HL2 := Lib.hid (show (w1.alloc (.cells #[.int .u8 125, .int .u8 64, .int .u8 64] 5)).ownsRow w1.heap.size 5 1 (.slice (some ⟨w1.heap.size, 0, none⟩) 3 3) 3 (u8s [125, 64, 64]) from own_lit w1 w1.heap.size [125, 64, 64] (Nat.le_refl _) (by show 3 < 1000000; decide))
  have HS2 := Lib.hid (bytes_src (bytes_below HBT.out (kept_trans K1.out HA2.out)))
  go_wp2_with (at_builtin; refine wpList_mark ?_)
  refine Lib.hid ?_
  refine append_own rfl (.tmp 20) (.tmp 21) rfl w1.heap.size _ 3 _ rfl HL2.out ad ts.length cap ts rfl rfl HN.out HS2.out (by have := HT.out; omega) HA2.out.size ?_
  intro v2 w2 hown hgr _
  have HO2 := Lib.hid (lit_row HYS.out hown)
  have K2 := Lib.hid (kept_trans K1.out (HA2.out.grown hgr HA2.out.size (by intro k hk; have : w1.heap.size = k := Option.some.inj hk; omega)))
  clear hown hgr HA2 HL2 HS2 hg
  obtain ⟨va, vc, rfl⟩ := own_form HO2.out
  have HW1 := Lib.hid K1.out.size
  have HOB := Lib.hid (own_blocks HO2.out)
  clear K1
  go_wp2_with fail
  with_reducible refine (HR.out w2 (hand_of HH.out K2.out) va vc (own_bytes HO2.out) (own_nil HO2.out)).mono ?_
  rintro e w3 ⟨oa, kk, oc, b3, rfl, ho, _, hb⟩
  have HAL := al_any w3 (.cells #[.int .u8 (qk : Int), .int .i64 qc, .slice oa kk oc] 27)
  have hb4 := kept_trans hb HAL
  have K4 := kept_hid K2 hb4
  have HO4 := Lib.hid (own_below HO2.out hb4)
  have Q4 := Lib.hid (ho.below HAL)
  have L4 := Lib.hid (heap_alloc_new w3 (.cells #[.int .u8 (qk : Int), .int .i64 qc, .slice oa kk oc] 27))
  have HB3 := Lib.hid (show w2.heap.size ≤ w3.heap.size from hb.size)
  clear ho hb HAL hb4 K2 HO2
  go_wp2_with fail
  generalize w3.heap.size = LO at *
  generalize w3.alloc (.cells #[.int .u8 (qk : Int), .int .i64 qc, .slice oa kk oc] 27) = w4 at *
  obtain ⟨B2, hB2⟩ : ∃ B, B = w2.heap.size := ⟨_, rfl⟩
  rw [← hB2] at HB3 Q4 HOB
  clear hB2
  go_loopg [6] (ys.length + 1) (fun n i wr => ∃ k : Nat, k ≤ ys.length ∧ n = ys.length + 1 - k ∧ i = .int .i64 k ∧ Hid (wr.ownsRow w1.heap.size 5 1 (.slice va ys.length vc) ys.length (u8s (flipTo ys k))) ∧ Hid (FldsIn wr B2 (.slice oa kk oc) qo) ∧ Hid (wr.heap[LO]? = some (.cells #[.int .u8 (qk : Int), .int .i64 qc, .slice oa kk oc] 27 (0, 0))) ∧ Hid (Below w.heap.size w wr))
  case atStart => exact ⟨0, Nat.zero_le _, rfl, rfl, HO4, Q4, L4, K4⟩
  case round =>
    clear HO4 Q4 L4 K4
    obtain ⟨k, hk, rfl, rfl, HO, HQ, HL, HK⟩ := hrel
    by_cases hlt : k < ys.length
    · have hOB := HOB.out
      obtain ⟨go, c', hv, c0⟩ := own_cell HO.out hlt
      injection hv with e1 _ e3
      subst e1 e3
      have f0 := own_free (i := k) HO.out
      have HF := flip_at hlt
      rw [HF.1] at c0
      have HF := Lib.hid HF.2
      have hz := byte_lt HY8.out (by decide) k
      have HP := Lib.hid (own_put (i := k) (v := ys.getD k 0 ^^^ 255) HO.out)
      rw [HF.out] at HP
      have e9 := u8_flip (ys.getD k 0) hz
      generalize ys.getD k 0 = yb at c0 hz HP e9
      have hi0 : (0 : Int) ≤ (k : Int) := by omega
      have hi1 : (k : Int) < (ys.length : Int) := by omega
      have ew : IntKind.i64.wrap ((k : Int) + 1) = (k : Int) + 1 := by
        have := HYL.out
        rw [IntWalk.i64_in] <;> omega
      have hgo : w1.heap.size ≤ go ∧ go < B2 := hOB _ rfl
      have HG := Lib.hid hgo
      have QQ := Lib.hid (HQ.out.grown (gsetCell wr go k (.int .u8 ((yb ^^^ 255 : Nat) : Int))) hgo.2)
      have LL := Lib.hid (blk_g HL.out (gsetCell wr go k (.int .u8 ((yb ^^^ 255 : Nat) : Int))) (by intro e; injection e with e; have := HB3.out; omega))
      have KK := Lib.hid (below_set HK.out (gsetCell wr go k (.int .u8 ((yb ^^^ 255 : Nat) : Int))) (by have := HW1.out; omega))
      clear HF HO HQ HL HK hlt hOB hgo
      go_wp2_with fail
      go_roundg (ys.length + 1 - (k + 1))
      case measure => omega
      case rel => exact ⟨k + 1, by omega, rfl, by go_num, HP, QQ, LL, KK⟩
    · have hkl : k = ys.length := by omega
      have hn0 : ¬ (k : Int) < (ys.length : Int) := by omega
      clear hlt hk hkl HO
      obtain ⟨wx, hwx⟩ : ∃ wx, wx = wr := ⟨_, rfl⟩
      subst hwx
      have HA5 := Lib.hid (al_any wx (.cells #[.int .u8 125, .int .u8 64, .int .u8 64] 5))
      have HL5 := Lib.hid (show (wx.alloc (.cells #[.int .u8 125, .int .u8 64, .int .u8 64] 5)).ownsRow wx.heap.size 5 1 (.slice (some ⟨wx.heap.size, 0, none⟩) 3 3) 3 (u8s [125, 64, 64]) from own_lit wx wx.heap.size [125, 64, 64] (Nat.le_refl _) (by show 3 < 1000000; decide))
      have HS5 := Lib.hid (bytes_src (bytes_below HBT.out (kept_trans HK.out HA5.out)))
      go_wp2_with (at_builtin; refine wpList_mark ?_)
      refine Lib.hid ?_
      refine append_own rfl (.tmp 43) (.tmp 44) rfl wx.heap.size _ 3 _ rfl HL5.out ad ts.length cap ts rfl rfl HN.out HS5.out (by have := HT.out; omega) HA5.out.size ?_
      intro v5 w5 hown hgr _
      have HO5 := Lib.hid (lit_row HYS.out hown)
      have hx5 := HA5.out.grown hgr HA5.out.size (by intro k hk; have : wx.heap.size = k := Option.some.inj hk; omega)
      have K5 := Lib.hid (kept_trans HK.out hx5)
      have Q5 := Lib.hid (HQ.out.below hx5)
      have L5 := Lib.hid (blk HL.out hx5)
      clear hown hgr HA5 HL5 HS5 hx5 HQ HL HK
      obtain ⟨xa, xc, rfl⟩ := own_form HO5.out
      go_wp2_with fail
      with_reducible refine (HR.out w5 (hand_of HH.out K5.out) xa xc (own_bytes HO5.out) (own_nil HO5.out)).mono ?_
      rintro e w6 ⟨pa, pk, pc, b6, rfl, ho, _, hb⟩
      have HAL := al_any w6 (.cells #[.int .u8 (qk : Int), .int .i64 qc, .slice pa pk pc] 27)
      have hb7 := kept_trans hb HAL
      have K7 := kept_hid K5 hb7
      have Q7 := Lib.hid ((Q5.out.mono (Nat.zero_le _)).below hb7)
      have P7 := Lib.hid ((ho.mono (Nat.zero_le _)).below HAL)
      have L7 := Lib.hid (blk L5.out hb7)
      have M7 := Lib.hid (heap_alloc_new w6 (.cells #[.int .u8 (qk : Int), .int .i64 qc, .slice pa pk pc] 27))
      clear ho hb HAL hb7 K5 HO5 Q5 L5
      by_cases h0 : qw = 0
      · subst h0
        simp only [errR, if_true]
        go_wp2_with fail
        generalize w6.heap.size = LP at *
        generalize w6.alloc (.cells #[.int .u8 (qk : Int), .int .i64 qc, .slice pa pk pc] 27) = w7 at *
        have KEEP := Lib.hid (fun (W : World) (hb : Below w7.heap.size w7 W) => (show Below w7.heap.size w7 W ∧ W.cell? ⟨LO, 0, none⟩ = some (.int .u8 (qk : Int)) ∧ W.cell? ⟨LO, 1, none⟩ = some (.int .i64 qc) ∧ W.cell? ⟨LO, 2, none⟩ = some (.slice oa kk oc) ∧ W.cell? ⟨LP, 0, none⟩ = some (.int .u8 (qk : Int)) ∧ W.cell? ⟨LP, 1, none⟩ = some (.int .i64 qc) ∧ W.cell? ⟨LP, 2, none⟩ = some (.slice pa pk pc) from by
          obtain ⟨a0, a1, a2⟩ := cells3 (blk L7.out hb)
          obtain ⟨e0, e1, e2⟩ := cells3 (blk M7.out hb)
          exact ⟨hb, a0, a1, a2, e0, e1, e2⟩))
        have HSM := Lib.hid fun (W : World) (hb : Below w7.heap.size w7 W) => (show Calls Tryd.prog 12 #[.agg #[.int .u8 (qk : Int), .int .i64 qc, .slice oa kk oc], .agg #[.int .u8 (qk : Int), .int .i64 qc, .slice pa pk pc]] W fun e w' => e = .returned (.bool true) ∧ Below W.heap.size W w' from by
          have h := risame_any ⟨qk, qc, qo⟩ ⟨qk, qc, qo⟩ oa kk oc pa pk pc W (Q7.out.below hb) (P7.out.below hb) HQS.out HQS.out HQL.out
          rw [isame_self] at h
          exact h)
        go_region_held3 (fun W => Below w7.heap.size w7 W ∧ W.cell? ⟨LO, 0, none⟩ = some (.int .u8 (qk : Int)) ∧ W.cell? ⟨LO, 1, none⟩ = some (.int .i64 qc) ∧ W.cell? ⟨LO, 2, none⟩ = some (.slice oa kk oc) ∧ W.cell? ⟨LP, 0, none⟩ = some (.int .u8 (qk : Int)) ∧ W.cell? ⟨LP, 1, none⟩ = some (.int .i64 qc) ∧ W.cell? ⟨LP, 2, none⟩ = some (.slice pa pk pc))
          (first | with_reducible assumption | exact KEEP.out _ (Below.refl _ _) | exact KEEP.out _ (Below.refl _ _).drew | exact KEEP.out _ (kept_trans (And.left (by assumption)) hb))
          (first
            | (go_at_call 12; with_reducible refine (HSM.out _ (And.left (by assumption))).mono ?_; rintro e w8 ⟨rfl, hb⟩))
        have hS := And.left (by assumption : Below w7.heap.size w7 w8 ∧ _)
        have K8 := kept_hid K7 hS
        have Q8 := Lib.hid (Q7.out.below hS)
        have H8S := Lib.hid hS
        obtain ⟨a0, a1, a2⟩ := cells3 (blk L7.out hS)
        clear hb hS
        go_wp2_with fail
        clear a0 a1 a2
        with_reducible refine (HWR.out w8 oa kk oc Q8.out).mono ?_
        rintro e w9 ⟨ga, gc, ev9, rfl, hb, hS9, hown9⟩
        have HX9 := Lib.hid hown9
        have K9 := Lib.hid hb
        obtain ⟨b8, bl⟩ := HB8.out
        have HB9 := Lib.hid b8
        have HBL := Lib.hid bl
        clear b8 bl hb hown9
        generalize (iwrite ⟨qk, qc, qo⟩ 80).1 = bs at *
        clear hS9
        go_wp2_with fail
        go_loopg [11] (bs.length + 1) (fun n i wr => ∃ k : Nat, k ≤ bs.length ∧ n = bs.length + 1 - k ∧ i = .int .i64 k ∧ Hid (wr.ownsRow w8.heap.size 5 1 (.slice ga bs.length gc) bs.length (u8s (flipTo bs k))) ∧ Hid (Below w8.heap.size w8 wr))
        case atStart => exact ⟨0, Nat.zero_le _, rfl, rfl, HX9, K9⟩
        case round =>
          clear HX9 K9
          obtain ⟨k, hk, rfl, rfl, HO, HK⟩ := hrel
          by_cases hlt : k < bs.length
          · obtain ⟨gx, c', hv, c0⟩ := own_cell HO.out hlt
            injection hv with e1 _ e3
            subst e1 e3
            have f0 := own_free (i := k) HO.out
            have HF := flip_at hlt
            rw [HF.1] at c0
            have HF := Lib.hid HF.2
            have hz := byte_lt HB9.out (by decide) k
            have HP := Lib.hid (own_put (i := k) (v := bs.getD k 0 ^^^ 255) HO.out)
            rw [HF.out] at HP
            have e9 := u8_flip (bs.getD k 0) hz
            generalize bs.getD k 0 = yb at c0 hz HP e9
            have hi0 : (0 : Int) ≤ (k : Int) := by omega
            have hi1 : (k : Int) < (bs.length : Int) := by omega
            have ew : IntKind.i64.wrap ((k : Int) + 1) = (k : Int) + 1 := by
              have := HBL.out
              rw [IntWalk.i64_in] <;> omega
            have hgo := (own_blocks HO.out _ rfl).1
            have KK := Lib.hid (below_set HK.out (gsetCell wr gx k (.int .u8 ((yb ^^^ 255 : Nat) : Int))) hgo)
            clear HF HO HK hlt hgo
            go_wp2_with fail
            go_roundg (bs.length + 1 - (k + 1))
            case measure => omega
            case rel => exact ⟨k + 1, by omega, rfl, by go_num, HP, KK⟩
          · have hkl : k = bs.length := by omega
            have hn0 : ¬ (k : Int) < (bs.length : Int) := by omega
            clear hlt hk hkl HO
            have hS := kept_trans H8S.out HK.out
            obtain ⟨a0, a1, a2⟩ := cells3 (blk L7.out hS)
            obtain ⟨e0, e1, e2⟩ := cells3 (blk M7.out hS)
            have KZ := kept_hid K7 hS
            have HSZ := Lib.hid (HSM.out _ hS)
            clear hS
            go_wp2_with fail
            with_reducible refine HSZ.out.mono ?_
            rintro e wz ⟨rfl, hb⟩
            have KE := kept_hid KZ hb
            clear hb a0 a1 a2 e0 e1 e2
            go_wp2_with fail
            go_ret
            exact ⟨rfl, KE.out⟩
      · rw [show errR qw b3 = .iface 49 (.pointer (some ⟨b3, 0, none⟩)) from if_neg h0, show errR qw b6 = .iface 49 (.pointer (some ⟨b6, 0, none⟩)) from if_neg h0]
        clear h0
        go_wp2_with fail
        generalize w6.heap.size = LP at *
        generalize w6.alloc (.cells #[.int .u8 (qk : Int), .int .i64 qc, .slice pa pk pc] 27) = w7 at *
        have KEEP := Lib.hid (fun (W : World) (hb : Below w7.heap.size w7 W) => (show Below w7.heap.size w7 W ∧ W.cell? ⟨LO, 0, none⟩ = some (.int .u8 (qk : Int)) ∧ W.cell? ⟨LO, 1, none⟩ = some (.int .i64 qc) ∧ W.cell? ⟨LO, 2, none⟩ = some (.slice oa kk oc) ∧ W.cell? ⟨LP, 0, none⟩ = some (.int .u8 (qk : Int)) ∧ W.cell? ⟨LP, 1, none⟩ = some (.int .i64 qc) ∧ W.cell? ⟨LP, 2, none⟩ = some (.slice pa pk pc) from by
          obtain ⟨a0, a1, a2⟩ := cells3 (blk L7.out hb)
          obtain ⟨e0, e1, e2⟩ := cells3 (blk M7.out hb)
          exact ⟨hb, a0, a1, a2, e0, e1, e2⟩))
        have HSM := Lib.hid fun (W : World) (hb : Below w7.heap.size w7 W) => (show Calls Tryd.prog 12 #[.agg #[.int .u8 (qk : Int), .int .i64 qc, .slice oa kk oc], .agg #[.int .u8 (qk : Int), .int .i64 qc, .slice pa pk pc]] W fun e w' => e = .returned (.bool true) ∧ Below W.heap.size W w' from by
          have h := risame_any ⟨qk, qc, qo⟩ ⟨qk, qc, qo⟩ oa kk oc pa pk pc W (Q7.out.below hb) (P7.out.below hb) HQS.out HQS.out HQL.out
          rw [isame_self] at h
          exact h)
        go_region_held3 (fun W => Below w7.heap.size w7 W ∧ W.cell? ⟨LO, 0, none⟩ = some (.int .u8 (qk : Int)) ∧ W.cell? ⟨LO, 1, none⟩ = some (.int .i64 qc) ∧ W.cell? ⟨LO, 2, none⟩ = some (.slice oa kk oc) ∧ W.cell? ⟨LP, 0, none⟩ = some (.int .u8 (qk : Int)) ∧ W.cell? ⟨LP, 1, none⟩ = some (.int .i64 qc) ∧ W.cell? ⟨LP, 2, none⟩ = some (.slice pa pk pc))
          (first | with_reducible assumption | exact KEEP.out _ (Below.refl _ _) | exact KEEP.out _ (Below.refl _ _).drew | exact KEEP.out _ (kept_trans (And.left (by assumption)) hb))
          (first
            | (go_at_call 12; with_reducible refine (HSM.out _ (And.left (by assumption))).mono ?_; rintro e w8 ⟨rfl, hb⟩))
        have hS := And.left (by assumption : Below w7.heap.size w7 w8 ∧ _)
        have K8 := kept_hid K7 hS
        have Q8 := Lib.hid (Q7.out.below hS)
        have H8S := Lib.hid hS
        obtain ⟨a0, a1, a2⟩ := cells3 (blk L7.out hS)
        clear hb hS
        go_wp2_with fail
        clear a0 a1 a2
        with_reducible refine (HWR.out w8 oa kk oc Q8.out).mono ?_
        rintro e w9 ⟨ga, gc, ev9, rfl, hb, hS9, hown9⟩
        have HX9 := Lib.hid hown9
        have K9 := Lib.hid hb
        obtain ⟨b8, bl⟩ := HB8.out
        have HB9 := Lib.hid b8
        have HBL := Lib.hid bl
        clear b8 bl hb hown9
        generalize (iwrite ⟨qk, qc, qo⟩ 80).1 = bs at *
        clear hS9
        go_wp2_with fail
        go_loopg [11] (bs.length + 1) (fun n i wr => ∃ k : Nat, k ≤ bs.length ∧ n = bs.length + 1 - k ∧ i = .int .i64 k ∧ Hid (wr.ownsRow w8.heap.size 5 1 (.slice ga bs.length gc) bs.length (u8s (flipTo bs k))) ∧ Hid (Below w8.heap.size w8 wr))
        case atStart => exact ⟨0, Nat.zero_le _, rfl, rfl, HX9, K9⟩
        case round =>
          clear HX9 K9
          obtain ⟨k, hk, rfl, rfl, HO, HK⟩ := hrel
          by_cases hlt : k < bs.length
          · obtain ⟨gx, c', hv, c0⟩ := own_cell HO.out hlt
            injection hv with e1 _ e3
            subst e1 e3
            have f0 := own_free (i := k) HO.out
            have HF := flip_at hlt
            rw [HF.1] at c0
            have HF := Lib.hid HF.2
            have hz := byte_lt HB9.out (by decide) k
            have HP := Lib.hid (own_put (i := k) (v := bs.getD k 0 ^^^ 255) HO.out)
            rw [HF.out] at HP
            have e9 := u8_flip (bs.getD k 0) hz
            generalize bs.getD k 0 = yb at c0 hz HP e9
            have hi0 : (0 : Int) ≤ (k : Int) := by omega
            have hi1 : (k : Int) < (bs.length : Int) := by omega
            have ew : IntKind.i64.wrap ((k : Int) + 1) = (k : Int) + 1 := by
              have := HBL.out
              rw [IntWalk.i64_in] <;> omega
            have hgo := (own_blocks HO.out _ rfl).1
            have KK := Lib.hid (below_set HK.out (gsetCell wr gx k (.int .u8 ((yb ^^^ 255 : Nat) : Int))) hgo)
            clear HF HO HK hlt hgo
            go_wp2_with fail
            go_roundg (bs.length + 1 - (k + 1))
            case measure => omega
            case rel => exact ⟨k + 1, by omega, rfl, by go_num, HP, KK⟩
          · have hkl : k = bs.length := by omega
            have hn0 : ¬ (k : Int) < (bs.length : Int) := by omega
            clear hlt hk hkl HO
            have hS := kept_trans H8S.out HK.out
            obtain ⟨a0, a1, a2⟩ := cells3 (blk L7.out hS)
            obtain ⟨e0, e1, e2⟩ := cells3 (blk M7.out hS)
            have KZ := kept_hid K7 hS
            have HSZ := Lib.hid (HSM.out _ hS)
            clear hS
            go_wp2_with fail
            with_reducible refine HSZ.out.mono ?_
            rintro e wz ⟨rfl, hb⟩
            have KE := kept_hid KZ hb
            clear hb a0 a1 a2 e0 e1 e2
            go_wp2_with fail
            go_ret
            exact ⟨rfl, KE.out⟩
/-- InputKeeps returns true. -/
theorem keeps_all (ad : Option Addr) (len cap : Nat) (zs : List Int) (w : World) (hr : IsRow .u8 w ad len cap zs) (hgl : Handle w) :
    Calls Tryd.prog 6 #[.slice ad len cap] w fun e w' => e = .returned (.bool true) ∧ Below w.heap.size w w' := by
  by_cases hl : 200 < len
  · exact keeps_out ad len cap w hl hgl
  obtain ⟨xs, hx, h8, hB⟩ := isRow_bytes hr
  have hnone := isRow_nil hr
  subst hx
  exact keeps_main ad cap w hB h8 hnone (by omega) hgl
end Inp
end Go.Proofs.YthjocmcafoifbaaDoor
