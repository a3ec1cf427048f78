/- putWrite of package stream. -/
import Derived.Test.YtmllmmamdkjndaaDoorStrBehind
import Derived.Test.YtmllmmamdkjndaaDoorStrMore
import Derived.Deep.RegionHeld3
import Derived.Deep.LoopGhost
import Derived.Deep.Cut
namespace Go.Proofs.YtmllmmamdkjndaaDoor
open Go.RowKit Sha Cut Err Six Att Apd
namespace Str
open Go.Proofs.YtmllmmamdkjndaaDoor.Ord
/-- The kind of the order ahead of order k (0: there is none). -/
def bk (os : List O) (k : Nat) : Int := if k = 0 then 0 else (os.getD (k - 1) none_).k
/-- Nothing is wrong with the first k orders. -/
def Fine (z : Nat) (os : List O) (k : Nat) : Prop := ow z false 0 os = ow z (decide (bk os k = 1)) k (os.drop k) ∧ ∀ o ∈ os.take k, wrong o z = 0
theorem fine_0 (z : Nat) (os : List O) : Fine z os 0 := ⟨by simp [bk], by simp⟩
theorem drop_o {os : List O} {k : Nat} (h : k < os.length) : os.drop k = os.getD k none_ :: os.drop (k + 1) := by
  rw [List.drop_eq_getElem_cons h, List.getD_eq_getElem?_getD, List.getElem?_eq_getElem h]; rfl
theorem take_o {os : List O} {k : Nat} (h : k < os.length) : os.take (k + 1) = os.take k ++ [os.getD k none_] := by
  rw [List.take_succ_eq_append_getElem h, List.getD_eq_getElem?_getD, List.getElem?_eq_getElem h]; rfl
theorem fine_wrong {z : Nat} {os : List O} {k : Nat} (h : Fine z os k) (hk : k < os.length) (hw : wrong (os.getD k none_) z ≠ 0) : ow z false 0 os = (wrong (os.getD k none_) z, k) := by
  rw [h.1, drop_o hk, ow, if_pos hw]
theorem fine_text {z : Nat} {os : List O} {k : Nat} (h : Fine z os k) (hk : k < os.length) (hw : wrong (os.getD k none_) z = 0) (hb : bk os k = 1) (ht : (os.getD k none_).k = 1) : ow z false 0 os = (1, k) := by
  rw [h.1, drop_o hk, ow, if_neg (by rw [hw]; simp), if_pos ⟨by simp [hb], ht⟩]
theorem fine_step {z : Nat} {os : List O} {k : Nat} (h : Fine z os k) (hk : k < os.length) (hw : wrong (os.getD k none_) z = 0) (hn : ¬ (bk os k = 1 ∧ (os.getD k none_).k = 1)) : Fine z os (k + 1) := by
  refine ⟨?_, fun o ho => ?_⟩
  · rw [h.1, drop_o hk, ow, if_neg (by rw [hw]; simp), if_neg (fun h => hn ⟨by simpa using h.1, h.2⟩)]
    simp [bk]
  · rw [take_o hk] at ho
    rcases List.mem_append.1 ho with ho | ho
    · exact h.2 o ho
    · simp only [List.mem_singleton] at ho
      rw [ho]; exact hw
theorem fine_end {z : Nat} {os : List O} (h : Fine z os os.length) : (ow z false 0 os).1 = 0 := by
  rw [h.1]; simp [ow]
theorem obs_take_le {z : Nat} {os : List O} {k : Nat} (h : ∀ o ∈ os.take k, wrong o z = 0) (hs : Sound os) : (obs z (os.take k)).length ≤ k * 1000000 := by
  induction k with
  | zero => simp [obs]
  | succ k ih =>
    by_cases hk : k < os.length
    · rw [take_o hk] at h ⊢
      rw [obs_append, List.length_append]
      have h1 := ih (fun o ho => h o (List.mem_append_left _ ho))
      have h2 := obytes_len (h (os.getD k none_) (by simp))
      have h3 := (sound_at hs k).2.1
      simp only [obs, List.append_nil]
      have h4 : max (os.getD k none_).t.length 4 ≤ 1000000 := by omega
      rw [Nat.add_mul, Nat.one_mul]
      exact Nat.add_le_add h1 (Nat.le_trans h2.1 h4)
    · have e : os.take (k + 1) = os.take k := by rw [List.take_of_length_le (by omega), List.take_of_length_le (by omega)]
      rw [e] at h ⊢
      exact Nat.le_trans (ih h) (Nat.mul_le_mul_right _ (Nat.le_succ k))
theorem cells5w {w : World} {B : Nat} {t : TypeId} {a0 a1 a2 a3 a4 : Value} (h : w.heap[B]? = some (.cells #[a0, a1, a2, a3, a4] t (0, 0))) :
    w.cell? ⟨B, 0, none⟩ = some a0 ∧ w.cell? ⟨B, 1, none⟩ = some a1 ∧ w.cell? ⟨B, 2, none⟩ = some a2 ∧ w.cell? ⟨B, 3, none⟩ = some a3 ∧ w.cell? ⟨B, 4, none⟩ = some a4 :=
  ⟨cell_of_row _ _ 0 _ _ _ h, cell_of_row _ _ 1 _ _ _ h, cell_of_row _ _ 2 _ _ _ h, cell_of_row _ _ 3 _ _ _ h, cell_of_row _ _ 4 _ _ _ h⟩
theorem held5 {w1 w' : World} {B : Nat} {t : TypeId} {a0 a1 a2 a3 a4 : Value} (k : w1.heap[B]? = some (.cells #[a0, a1, a2, a3, a4] t (0, 0))) (h : Below w1.heap.size w1 w') :
    Below w1.heap.size w1 w' ∧ w'.cell? ⟨B, 0, none⟩ = some a0 ∧ w'.cell? ⟨B, 1, none⟩ = some a1 ∧ w'.cell? ⟨B, 2, none⟩ = some a2 ∧ w'.cell? ⟨B, 3, none⟩ = some a3 ∧ w'.cell? ⟨B, 4, none⟩ = some a4 :=
  ⟨h, cells5w (blk k h)⟩
set_option maxRecDepth 100000 in
set_option maxHeartbeats 8000000 in
theorem putWrite_any (cmd : Nat) (hcm : cmd < 256) (a u r : Bool) (ad : Option Addr) (n cap z : Nat) (os : List O) (w : World) (ho : OrdsIn w 0 (.slice ad n cap) os) (hs : Sound os) (hos : os.length ≤ 10000) (h1 : 1 ≤ z) (h2 : z ≤ 16383) :
    Calls Tryd.prog 22 #[.agg #[.int .i64 (cmd : Int), .bool a, .bool u, .bool r, .slice ad n cap], .int .i64 (z : Int)] w fun e w' => ∃ v ev, e = .returned (.tuple #[v, ev]) ∧ Below w.heap.size w w' ∧
      (((ow z false 0 os).1 = 0 ∧ (obs z os).length + 2 ≤ 8192 ∧ ev = .nilIface ∧ w'.ownsRow w.heap.size 5 1 v ((obs z os).length + 2) (u8s (cmd :: put (wnum a u r) :: obs z os))) ∨
       ((ow z false 0 os).1 = 0 ∧ 8192 < (obs z os).length + 2 ∧ v = .slice none 0 0 ∧ ev = .iface 55 (.int .i64 6)) ∨
       ((ow z false 0 os).1 ≠ 0 ∧ v = .slice none 0 0 ∧ (∃ b, ev = .iface 61 (.pointer (some ⟨b, 0, none⟩))) ∧ Err.Told w' ev ((ow z false 0 os).1 : Int) ((ow z false 0 os).2 : Int))) := by
  obtain rfl := ho.len
  have ec : IntKind.u8.wrap (cmd : Int) = (cmd : Int) := by rw [show IntKind.u8.wrap (cmd : Int) = (cmd : Int) % 256 from rfl]; omega
  have HO := Lib.hid ho
  have HS := Lib.hid hs
  have HZ1 := Lib.hid h1
  have HZ2 := Lib.hid h2
  have HA := Lib.hid (al_any w (.cells #[.int .i64 (cmd : Int), .bool a, .bool u, .bool r, .slice ad os.length cap] 26))
  have HN := Lib.hid (heap_alloc_new w (.cells #[.int .i64 (cmd : Int), .bool a, .bool u, .bool r, .slice ad os.length cap] 26))
  have HW := Lib.hid fun W => putWcc_any a u r W
  have HP := Lib.hid (show put (wnum a u r) < 256 from put_lt _ (by have := wnum_lt a u r; omega))
  generalize put (wnum a u r) = pw at *
  clear ho hs h1 h2
  go_enter Tryd.func22, Tryd.ntmps22
  go_upto_region 1 with (fail)
  generalize w.alloc (.cells #[.int .i64 (cmd : Int), .bool a, .bool u, .bool r, .slice ad os.length cap] 26) = w1 at *
  go_region_held3 (fun W => Below w1.heap.size w1 W ∧ W.cell? ⟨w.heap.size, 0, none⟩ = some (.int .i64 (cmd : Int)) ∧ W.cell? ⟨w.heap.size, 1, none⟩ = some (.bool a) ∧ W.cell? ⟨w.heap.size, 2, none⟩ = some (.bool u) ∧ W.cell? ⟨w.heap.size, 3, none⟩ = some (.bool r) ∧ W.cell? ⟨w.heap.size, 4, none⟩ = some (.slice ad os.length cap))
    (first | exact held5 HN.out (Below.refl _ _).drew | exact held5 HN.out (Below.refl _ _) | exact held5 HN.out (kept_trans (And.left (by assumption)) hb) | exact held5 HN.out (kept_trans (And.left (by assumption)) (al_any _ _)))
    (first
      | (go_at_call 34; with_reducible refine (HW.out _).mono ?_; rintro e wb ⟨rfl, hb⟩))
  have hS := And.left (by assumption : Below w1.heap.size w1 (wb.alloc (.cells #[.int .u8 (cmd : Int), .int .u8 (pw : Int)] 5)) ∧ _)
  have K2 := kept_hid HA hS
  have N2 := Lib.hid (blk HN.out hS)
  have HWB : w.heap.size ≤ wb.heap.size := by
    have h1 := hS.size
    have h2 : (wb.alloc (.cells #[.int .u8 (cmd : Int), .int .u8 (pw : Int)] 5)).heap.size = wb.heap.size + 1 := by show (wb.heap.push _).size = _; simp
    have h3 := there_lt HN.out
    omega
  have OW := Lib.hid (own_lit wb w.heap.size [cmd, pw] HWB (by show 2 < 1000000; decide))
  have OW : Hid ((wb.alloc (.cells #[.int .u8 (cmd : Int), .int .u8 (pw : Int)] 5)).ownsRow w.heap.size 5 1 (.slice (some ⟨wb.heap.size, 0, none⟩) 2 2) 2 (u8s [cmd, pw])) := OW
  clear hS hb HWB HA HN HW
  generalize wb.heap.size = g2 at *
  generalize wb.alloc (.cells #[.int .u8 (cmd : Int), .int .u8 (pw : Int)] 5) = w2 at *
  obtain ⟨c0, c1, c2, c3, c4⟩ := cells5w N2.out
  go_wp2_with fail
  clear c0 c1 c2 c3 c4 N2
  go_loopg [6, 7, 22] (os.length + 1) (fun m vb vk i wr => ∃ k : Nat, k ≤ os.length ∧ m = os.length + 1 - k ∧ i = .int .i64 k ∧ vk = .int .i64 (bk os k) ∧ (∃ ba bc, vb = .slice ba ((obs z (os.take k)).length + 2) bc ∧ Hid (wr.ownsRow w.heap.size 5 1 (.slice ba ((obs z (os.take k)).length + 2) bc) ((obs z (os.take k)).length + 2) (u8s (cmd :: pw :: obs z (os.take k))))) ∧ Hid (Below w.heap.size w wr) ∧ Hid (Fine z os k))
  case atStart => exact ⟨0, Nat.zero_le _, rfl, rfl, rfl, ⟨_, _, rfl, OW⟩, K2, Lib.hid (fine_0 z os)⟩
  case round =>
    clear OW K2
    obtain ⟨k, hk, rfl, rfl, rfl, ⟨ba, bc, rfl, HO8⟩, HB, HF⟩ := hrel
    have ew : IntKind.i64.wrap ((k : Int) + 1) = (k : Int) + 1 := by
      rw [IntWalk.i64_in] <;> omega
    by_cases hlt : k < os.length
    · obtain ⟨ok, ot, op, on, os_, om, oa, oc, ex⟩ := o_eta (os.getD k none_)
      obtain ⟨b1, o1, ta, tn, tc, rfl, g0, g1, g2, g3, g4, g5, g6, g7, B1, N1⟩ := (HO.out.below HB.out).cells hlt ex
      have lb1 := cell_lt g0
      have hi0 : (0 : Int) ≤ (k : Int) := by omega
      have hi1 : (k : Int) < (os.length : Int) := by omega
      have sx := sound_at HS.out k
      rw [ex] at sx
      simp only at sx
      have HAL := Lib.hid (al_any wr (.cells #[.int .i64 ok, .slice ta tn tc, .bool op, .bool on, .int .i64 os_, .bool om, .int .i64 oa, .int .u8 (oc : Int)] 51))
      have HNL := Lib.hid (heap_alloc_new wr (.cells #[.int .i64 ok, .slice ta tn tc, .bool op, .bool on, .int .i64 os_, .bool om, .int .i64 oa, .int .u8 (oc : Int)] 51))
      by_cases hw : wrong ⟨ok, ot, op, on, os_, om, oa, oc⟩ z ≠ 0
      · skip
        have HBD := Lib.hid (behind_bad (bk os k) ⟨ok, ot, op, on, os_, om, oa, oc⟩ ta tn tc z _ (bytes_below B1 HAL.out) sx.1 sx.2.1 sx.2.2 hw HZ1.out HZ2.out)
        have HFI := Lib.hid (show ow z false 0 os = (wrong ⟨ok, ot, op, on, os_, om, oa, oc⟩ z, k) by rw [← ex]; exact fine_wrong HF.out hlt (by rw [ex]; exact hw))
        clear B1 N1
        go_wp2_with fail
        clear g0 g1 g2 g3 g4 g5 g6 g7 lb1
        with_reducible refine HBD.out.mono ?_
        rintro e w3 ⟨rfl, hb⟩
        have K3 := kept_hid (kept_hid HB HAL.out) hb
        have K4 := kept_alloc K3 (.cells #[.int .i64 (k : Int), .iface 55 (.int .i64 (wrong ⟨ok, ot, op, on, os_, om, oa, oc⟩ z : Nat))] 64)
        have L4 := heap_alloc_new w3 (.cells #[.int .i64 (k : Int), .iface 55 (.int .i64 (wrong ⟨ok, ot, op, on, os_, om, oa, oc⟩ z : Nat))] 64)
        have C0 := Lib.hid (cell_of_row _ w3.heap.size 0 _ _ (0, 0) L4)
        have C1 := Lib.hid (cell_of_row _ w3.heap.size 1 _ _ (0, 0) L4)
        clear hb HBD L4
        go_wp2_with fail
        go_ret2
        refine ⟨_, _, rfl, K4.out, .inr (.inr ⟨?_, rfl, ⟨_, rfl⟩, ?_⟩)⟩
        · rw [HFI.out]; exact hw
        · rw [HFI.out]
          exact .inr (.inr ⟨0, w3.heap.size, rfl, C0.out, _, _, _, rfl, C0.out, C1.out, rfl⟩)
      · have hw : wrong ⟨ok, ot, op, on, os_, om, oa, oc⟩ z = 0 := Classical.not_not.1 hw
        by_cases hbt : bk os k = 1 ∧ ok = 1
        · have HBT := Lib.hid hbt
          clear hbt
          have HBD := Lib.hid (behind_text (bk os k) ⟨ok, ot, op, on, os_, om, oa, oc⟩ ta tn tc (z : Int) (wr.alloc (.cells #[.int .i64 ok, .slice ta tn tc, .bool op, .bool on, .int .i64 os_, .bool om, .int .i64 oa, .int .u8 (oc : Int)] 51)) HBT.out.1 HBT.out.2)
          have HFI := Lib.hid (show ow z false 0 os = (1, k) from fine_text HF.out hlt (by rw [ex]; exact hw) HBT.out.1 (by rw [ex]; exact HBT.out.2))
          clear B1 N1
          go_wp2_with fail
          clear g0 g1 g2 g3 g4 g5 g6 g7 lb1
          with_reducible refine HBD.out.mono ?_
          rintro e w3 ⟨rfl, hb⟩
          have K3 := kept_hid (kept_hid HB HAL.out) hb
          have K4 := kept_alloc K3 (.cells #[.int .i64 (k : Int), .iface 55 (.int .i64 1)] 64)
          have L4 := heap_alloc_new w3 (.cells #[.int .i64 (k : Int), .iface 55 (.int .i64 1)] 64)
          have C0 := Lib.hid (cell_of_row _ w3.heap.size 0 _ _ (0, 0) L4)
          have C1 := Lib.hid (cell_of_row _ w3.heap.size 1 _ _ (0, 0) L4)
          clear hb HBD L4
          go_wp2_with fail
          go_ret2
          refine ⟨_, _, rfl, K4.out, .inr (.inr ⟨?_, rfl, ⟨_, rfl⟩, ?_⟩)⟩
          · rw [HFI.out]; exact Nat.one_ne_zero
          · rw [HFI.out]
            exact .inr (.inr ⟨0, w3.heap.size, rfl, C0.out, _, _, _, rfl, C0.out, C1.out, rfl⟩)
        · have HBD := Lib.hid (behind_ok (bk os k) ⟨ok, ot, op, on, os_, om, oa, oc⟩ ta tn tc z _ (bytes_below B1 HAL.out) sx.1 sx.2.1 N1 sx.2.2 hw hbt HZ1.out HZ2.out)
          have HFS := Lib.hid (fine_step HF.out hlt (by rw [ex]; exact hw) (by rw [ex]; exact hbt))
          have HBL := Lib.hid (show (obytes ⟨ok, ot, op, on, os_, om, oa, oc⟩ z).length ≤ 1000000 by have := (obytes_len hw).1; have := sx.2.1; simp only at *; omega)
          have HTK := Lib.hid (show obs z (os.take (k + 1)) = obs z (os.take k) ++ obytes ⟨ok, ot, op, on, os_, om, oa, oc⟩ z by rw [take_o hlt, obs_append, ex]; simp [obs])
          have HLT := Lib.hid (obs_take_le HF.out.2 HS.out)
          have HKK := Lib.hid (show bk os (k + 1) = ok by
            show (if k + 1 = 0 then (0 : Int) else (os.getD (k + 1 - 1) none_).k) = ok
            rw [if_neg (by omega), Nat.add_sub_cancel, ex])
          clear B1 N1 sx hw hbt HF
          generalize obytes ⟨ok, ot, op, on, os_, om, oa, oc⟩ z = bs at *
          go_wp2_with fail
          clear g0 g1 g2 g3 g4 g5 g6 g7 lb1
          with_reducible refine HBD.out.mono ?_
          rintro e w3 ⟨v, rfl, hown, hb⟩
          have K3 := kept_hid (kept_hid HB HAL.out) hb
          have HO3 := Lib.hid (own_below (own_below HO8.out HAL.out) hb)
          have N3 := Lib.hid (blk HNL.out hb)
          obtain ⟨va, vc, rfl⟩ := own_form hown
          have HNN := Lib.hid (own_nil hown)
          have HSV := Lib.hid (bytes_src (own_bytes hown))
          have HBO := Lib.hid (own_blocks HO8.out)
          clear hown hb HBD HNL HO8
          go_wp2_with (at_builtin; refine wpList_mark ?_)
          refine Lib.hid ?_
          refine append_own rfl (.tmp 41) (.tmp 42) rfl w.heap.size _ _ _ rfl HO3.out va _ vc _ rfl rfl HNN.out HSV.out ?_ K3.out.size ?_
          · have h1 := HLT.out; have h2 := HBL.out; have h3 : k * 1000000 ≤ 10000 * 1000000 := Nat.mul_le_mul_right _ (by omega); omega
          intro v2 w4 hown hgr _
          have K4 := Lib.hid (below_own K3.out hgr HO3.out)
          have N4 := blk_g N3.out hgr (by
            intro e
            cases ba with
            | none => cases e
            | some x => injection e with e; have := (HBO.out x rfl).2; omega)
          have HO4 := Lib.hid (show w4.ownsRow w.heap.size 5 1 v2 ((obs z (os.take (k + 1))).length + 2) (u8s (cmd :: pw :: obs z (os.take (k + 1)))) by
            rw [HTK.out]
            have e1 : (obs z (os.take k) ++ bs).length + 2 = (obs z (os.take k)).length + 2 + bs.length := by rw [List.length_append]; omega
            rw [e1]
            have e2 : u8s (cmd :: pw :: (obs z (os.take k) ++ bs)) = u8s (cmd :: pw :: obs z (os.take k)) ++ u8s bs := by simp [u8s]
            rw [e2]; exact hown)
          obtain ⟨d0, _, _, _, _, _, _, _⟩ := cells8 N4
          obtain ⟨va2, vc2, rfl⟩ := own_form HO4.out
          clear hown hgr K3 HO3 N3 N4 HNN HSV HBO HAL HLT HTK HBL
          go_wp2_with fail
          go_roundg (os.length + 1 - (k + 1))
          case measure => omega
          case rel => exact ⟨k + 1, by omega, rfl, rfl, by rw [HKK.out], ⟨_, _, rfl, HO4⟩, K4, HFS⟩
    · have hkl : k = os.length := by omega
      have HE := Lib.hid (show os.take k = os by rw [hkl]; exact List.take_length)
      have HW0 := Lib.hid (show (ow z false 0 os).1 = 0 by rw [hkl] at HF; exact fine_end HF.out)
      rw [HE.out] at HO8 ⊢
      obtain ⟨L, hL⟩ : ∃ L, L = (obs z os).length + 2 := ⟨_, rfl⟩
      have HLL := Lib.hid hL
      rw [← hL] at HO8 ⊢
      clear hL
      have hn0 : ¬ (k : Int) < (os.length : Int) := by omega
      clear hlt hk hkl
      by_cases hbig : 8192 < L
      · have hb : (8192 : Int) < (L : Int) := by omega
        have HBG := Lib.hid hbig
        clear hbig
        go_wp2_with fail
        go_ret2
        exact ⟨_, _, rfl, HB.out, .inr (.inl ⟨HW0.out, by rw [← HLL.out]; exact HBG.out, rfl, rfl⟩)⟩
      · have hb : ¬ (8192 : Int) < (L : Int) := by omega
        have HBG := Lib.hid hbig
        clear hbig
        go_wp2_with fail
        go_ret2
        exact ⟨_, _, rfl, HB.out, .inl ⟨HW0.out, by have := HBG.out; have := HLL.out; omega, rfl, by rw [← HLL.out]; exact HO8.out⟩⟩
end Str
end Go.Proofs.YtmllmmamdkjndaaDoor
