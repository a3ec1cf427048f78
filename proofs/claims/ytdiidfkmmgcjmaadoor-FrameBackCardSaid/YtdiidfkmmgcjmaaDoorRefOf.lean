/- 'Of' of the document's answer: the sum of a text. -/
import Derived.Test.YtdiidfkmmgcjmaaDoorRefBlock
import Derived.Test.YtdiidfkmmgcjmaaDoorShaRw2
namespace Go.Proofs.YtdiidfkmmgcjmaaDoor
open Go.RowKit
namespace Sha
/-- The memory of 'Of': its result, the state. -/
structure OMem (H : Nat) (l : List Nat) (w0 w : World) : Prop where
  res : w.heap[H]? = some (.cells (u8s (pad 32 [])).toArray 55 (0, 0))
  st : w.heap[H + 1]? = some (.cells (i64s l).toArray 101 (0, 0))
  old : Below H w0 w
theorem OMem.below {H : Nat} {l : List Nat} {w0 w w1 : World} (h : OMem H l w0 w) (hb : Below w.heap.size w w1) : OMem H l w0 w1 :=
  ⟨(hb.block _ (lt_of_heap_ h.res)).trans h.res, (hb.block _ (lt_of_heap_ h.st)).trans h.st, h.old.trans (hb.mono (Nat.le_of_lt (lt_of_heap_ h.res)))⟩
theorem OMem.set {H : Nat} {l : List Nat} {w0 w : World} (h : OMem H l w0 w) (j x : Nat) : OMem H (l.set j x) w0 (w.setCell ⟨H + 1, j, none⟩ (.int .i64 (x : Int))) :=
  ⟨(heap_setCell_other w _ H _ (by simp)).trans h.res, by rw [heap_setCell_same w (H + 1) j _ _ _ h.st, i64s_set], h.old.setCell (by simp) _⟩
theorem OMem.cell {H : Nat} {l : List Nat} {w0 w : World} (h : OMem H l w0 w) (j : Nat) (hj : j < l.length) : w.cell? ⟨H + 1, j, none⟩ = some (.int .i64 ((l.getD j 0 : Nat) : Int)) := by
  rw [cell_of_row w (H + 1) j _ _ _ h.st, List.getElem?_toArray]; exact i64s_at hj
theorem OMem.free {H : Nat} {l : List Nat} {w0 w : World} (h : OMem H l w0 w) (j : Nat) : w.frozen? ⟨H + 1, j, none⟩ = false := frozen_of_row w (H + 1) j _ _ h.st
theorem begin_step : ∀ k, k < 8 → (pad 8 (beginWords.take k)).set k (beginWords.getD k 0) = pad 8 (beginWords.take (k + 1)) := by decide +kernel
theorem fillL (n : Nat) : (n + (zeros n + 9)) % 64 = 0 := by unfold zeros; omega
theorem bytes_cut {w : World} {g off c : Nat} {m : List Nat} (h : ∀ j, j < m.length → w.cell? ⟨g, off + j, none⟩ = some (.int .u8 ((m.getD j 0 : Nat) : Int))) (k : Nat) (hk : 64 * k + 64 ≤ m.length) (hc : 64 ≤ c) :
    BytesIn w (.slice (some ⟨g, off + 64 * k, none⟩) 64 c) ((m.drop (64 * k)).take 64) := by
  have hl : ((m.drop (64 * k)).take 64).length = 64 := by simp; omega
  refine ⟨_, c, by rw [hl], by omega, .inr ⟨g, off + 64 * k, rfl, fun j hj => ?_⟩⟩
  rw [hl] at hj
  rw [Nat.add_assoc, h (64 * k + j) (by omega)]
  simp [List.getD_eq_getElem?_getD, hj]
/-- The memory of its bytes. -/
structure PMem (H N : Nat) (l o : List Nat) (w0 w : World) : Prop where
  mem : OMem H l w0 w
  out : w.heap[N]? = some (.cells (u8s (pad 32 o)).toArray 55 (0, 0))
  big : H + 2 ≤ N
theorem PMem.set {H N : Nat} {l o : List Nat} {w0 w : World} (h : PMem H N l o w0 w) (ho : o.length < 32) (v : Nat) :
    PMem H N l (o ++ [v]) w0 (w.setCell ⟨N, o.length, none⟩ (.int .u8 (v : Int))) := by
  have hb := h.big
  refine ⟨⟨(heap_setCell_other w _ H _ (by simp; omega)).trans h.mem.res, (heap_setCell_other w _ (H + 1) _ (by simp; omega)).trans h.mem.st, h.mem.old.setCell (by simp; omega) _⟩, ?_, hb⟩
  have := heap_setCell_same w N o.length _ _ (.int .u8 (v : Int)) h.out
  rw [u8s_set, pad_snoc v ho] at this
  exact this
theorem outByte (x k : Nat) (hx : x < 4294967296) : (bits .and .i64 ((x : Int) / 2 ^ (24 - 8 * (k % 4))) 255 % 256 : Int) = (((bytes4 x).getD (k % 4) 0 : Nat) : Int) := by
  have e : ((x : Int) / 2 ^ (24 - 8 * (k % 4))) = ((x / 2 ^ (24 - 8 * (k % 4)) : Nat) : Int) := by simp
  rw [e, mask8 _ (Nat.lt_of_le_of_lt (Nat.div_le_self _ _) (by omega)), bytes4_val_ x (k % 4) (Nat.mod_lt _ (by decide))]
theorem out_next (s : St) (k : Nat) (hk : k < 32) : (out s).take (k + 1) = (out s).take k ++ [(bytes4 (s.list.getD (k / 4) 0)).getD (k % 4) 0] := by
  have := out_snoc_ s (k / 4) (k % 4) (by omega) (Nat.mod_lt _ (by decide))
  rw [show 4 * (k / 4) + (k % 4 + 1) = k + 1 by omega, show 4 * (k / 4) + k % 4 = k by omega] at this
  exact this
theorem block8 (s1 s2 s3 s4 s5 s6 s7 s8 : Nat) (b : List Nat) (ao : Option Addr) (cap : Nat) (w : World) (hs : (⟨s1, s2, s3, s4, s5, s6, s7, s8⟩ : St).Ok) (hb : b.length = 64) (h8 : ∀ x ∈ b, x < 256) (hbx : BytesIn w (.slice ao 64 cap) b) :
    Calls Tryd.prog 46 #[.agg #[.int .i64 (s1 : Int), .int .i64 (s2 : Int), .int .i64 (s3 : Int), .int .i64 (s4 : Int), .int .i64 (s5 : Int), .int .i64 (s6 : Int), .int .i64 (s7 : Int), .int .i64 (s8 : Int)], .slice ao 64 cap] w fun e w' =>
      (∃ r1 r2 r3 r4 r5 r6 r7 r8 : Nat, mix ⟨s1, s2, s3, s4, s5, s6, s7, s8⟩ (words b) = ⟨r1, r2, r3, r4, r5, r6, r7, r8⟩ ∧ e = .returned (.agg #[.int .i64 (r1 : Int), .int .i64 (r2 : Int), .int .i64 (r3 : Int), .int .i64 (r4 : Int), .int .i64 (r5 : Int), .int .i64 (r6 : Int), .int .i64 (r7 : Int), .int .i64 (r8 : Int)])) ∧ Below w.heap.size w w' :=
  (block_any ⟨s1, s2, s3, s4, s5, s6, s7, s8⟩ b ao cap w hs hb h8 hbx).mono fun _ _ ⟨he, hb⟩ => ⟨⟨_, _, _, _, _, _, _, _, rfl, he⟩, hb⟩
attribute [local go_sem ↓] Go.wp_at_zero Go.wp_at_succ
set_option maxRecDepth 100000 in
set_option maxHeartbeats 4000000 in
theorem rof_any (a0 : Option Addr) (len0 cap0 : Nat) (xs : List Nat) (w : World) (hx : xs.length = len0) (hx8 : ∀ x ∈ xs, x < 256) (hl : len0 ≤ 1000) (hbx : BytesIn w (.slice a0 len0 cap0) xs) (hn0 : a0 = none → len0 = 0 ∧ cap0 = 0) :
    Calls Tryd.prog 40 #[.slice a0 len0 cap0] w fun e w' => e = .returned (.agg (u8s (digest xs)).toArray) ∧ Below w.heap.size w w' := by
  have HX := Lib.hid hx
  have HX8 := Lib.hid hx8
  have HBX := Lib.hid hbx
  have HN0 := Lib.hid hn0
  clear hx hx8 hbx hn0
  go_enter Tryd.func40, Tryd.ntmps40
  go_upto_region 2 with (fail)
  have M0 := Lib.hid (show OMem w.heap.size (pad 8 (beginWords.take 0)) w ((w.alloc (.cells (u8s (pad 32 [])).toArray 55)).alloc (.cells (i64s (pad 8 [])).toArray 101)) from
    ⟨heap_alloc2_old w _ _, heap_alloc2_new w _ _, ((Below.refl _ _).alloc (Nat.le_refl _) _).alloc (by simp) _⟩)
  change Code.wp _ _ _ _ ((w.alloc (.cells (u8s (pad 32 [])).toArray 55)).alloc (.cells (i64s (pad 8 [])).toArray 101))
  generalize (w.alloc (.cells (u8s (pad 32 [])).toArray 55)).alloc (.cells (i64s (pad 8 [])).toArray 101) = w1 at M0
  go_wp2_with fail
  go_loopw [4] (fun i wr => ∃ k : Nat, k ≤ 8 ∧ i = .int .i64 k ∧ OMem w.heap.size (pad 8 (beginWords.take k)) w wr) (fun i _ => 8 - (intOf i).toNat)
  case atStart => exact ⟨0, Nat.zero_le _, rfl, M0.out⟩
  case round =>
    obtain ⟨k, hk, rfl, hm⟩ := hrel
    by_cases hlt : k < 8
    · have HM := Lib.hid hm
      have hf := hm.free k
      have hc := hm.cell k (by have : (pad 8 (beginWords.take k)).length = 8 := by simp [pad, beginWords]; omega
                               omega)
      have HST := Lib.hid (begin_step k hlt)
      generalize (pad 8 (beginWords.take k)).getD k 0 = old at hc
      clear hm
      go_wp2_with fail
      refine (rbword_any _ (by rfl) k hlt _).mono ?_
      rintro e w3 ⟨rfl, rfl⟩
      generalize beginWords.getD k 0 = x at HST
      go_wp2_with fail
      go_roundw
      case rel =>
        refine ⟨k + 1, by omega, by go_num, ?_⟩
        rw [← HST.out]
        exact HM.out.set k x
      case measure => simp [intOf]; omega
    · have e : k = 8 := by omega
      subst e
      have HM := Lib.hid (show OMem w.heap.size (blocks (xs ++ fill len0) 0).list w wr from hm)
      clear hm hlt
      go_wp2_with fail
      refine (rfill_any a0 len0 cap0 xs _ HX.out HX8.out (by omega) (bytes_below HBX.out HM.out.old) HN0.out).mono ?_
      rintro e w4 ⟨fa, fc, rfl, hbf, hb4, hfresh⟩
      have HFR := Lib.hid hfresh
      clear hfresh
      have M4 := Lib.hid (HM.out.below hb4)
      have HMO := Lib.hid HM.out
      have hF8 : ∀ x ∈ xs ++ fill len0, x < 256 := by
        intro x hx
        rcases List.mem_append.1 hx with h | h
        · exact HX8.out x h
        · exact fill_small _ x h
      have HF8 := Lib.hid hF8
      have HFL := Lib.hid (show (xs ++ fill len0).length % 64 = 0 by rw [List.length_append, fill_length, HX.out]; exact fillL len0)
      have HFM := Lib.hid (show (xs ++ fill len0).length ≤ 2000 by have := zeros_lt len0; rw [List.length_append, fill_length, HX.out]; omega)
      have HDG := Lib.hid (show digest xs = out (stOf (xs ++ fill len0)) by rw [digest, HX.out])
      have HF0 := Lib.hid (show 0 < (xs ++ fill len0).length by rw [List.length_append, fill_length]; omega)
      generalize xs ++ fill len0 = F at HF8 HFL HFM HDG HF0 M4 hbf
      have HBF := Lib.hid hbf
      clear hb4 hF8 HM hbf
      obtain ⟨nb, hnb⟩ : ∃ nb, nb = F.length / 64 := ⟨_, rfl⟩
      have hFl : F.length = 64 * nb := by have := HFL.out; omega
      have HFL2 := Lib.hid hFl
      have HDG2 := Lib.hid (show digest xs = out (blocks F nb) by rw [HDG.out, hnb]; rfl)
      have hnb2 : nb ≤ 100 := by have := HFM.out; omega
      rw [hFl] at HBF
      clear hFl HDG HFL hnb
      obtain ⟨fa2, fc2, hv, hcap, hcells⟩ := HBF.out
      injection hv with e1 e2 e3
      subst e1
      rcases hcells with h0 | ⟨g, off, rfl, hcells⟩
      · have := HF0.out; rw [h0] at this; simp at this
      subst e3
      have hgl : g < w4.heap.size := block_lt_of_cell (hcells 0 HF0.out)
      have HNE := Lib.hid (show some g ≠ some (w.heap.size + 1) by have := HFR.out g off rfl; have := lt_of_heap_ HMO.out.st; intro e; injection e with e; omega)
      have hcap2 : 64 * nb ≤ fc := by have := HFL2.out; omega
      have HC := Lib.hid hcells
      have HGL := Lib.hid hgl
      clear hcap hcells e2 hgl HBF
      go_wp2_with fail
      go_loopw [6] (fun i wr => ∃ k : Nat, k ≤ nb ∧ i = .int .i64 (64 * (k : Int)) ∧ OMem w.heap.size (blocks F k).list w wr ∧ w4.grownBy wr (some (w.heap.size + 1))) (fun i _ => 64 * nb - (intOf i).toNat)
      case atStart => exact ⟨0, Nat.zero_le _, by simp, M4.out, grefl _ _⟩
      case round =>
        obtain ⟨k, hk, rfl, hm, hb⟩ := hrel
        have HM := Lib.hid hm
        have HB := Lib.hid hb
        clear hm hb
        by_cases hlt : k < nb
        · have hok := blocks_ok F k
          have HN := Lib.hid (show blocks F (k + 1) = mix (blocks F k) (words ((F.drop (64 * k)).take 64)) from rfl)
          have HBC := Lib.hid (bytes_cut (w := wr) (g := g) (off := off) (c := fc - 64 * k) (m := F) (fun j hj => HB.out.cell (HC.out j hj) HNE.out) k (by have := HFL2.out; omega) (by omega))
          have HB64 := Lib.hid (show ((F.drop (64 * k)).take 64).length = 64 by have := HFL2.out; simp; omega)
          have HB8 := Lib.hid (show ∀ x ∈ (F.drop (64 * k)).take 64, x < 256 from fun x hx => HF8.out x (List.mem_of_mem_drop (List.mem_of_mem_take hx)))
          generalize (F.drop (64 * k)).take 64 = bl at HN HBC HB64 HB8
          generalize hst : blocks F k = s at hok HN HM
          obtain ⟨s1, s2, s3, s4, s5, s6, s7, s8⟩ := s
          have HOK := Lib.hid hok
          have HMK := Lib.hid (show mix ⟨s1, s2, s3, s4, s5, s6, s7, s8⟩ (words bl) = blocks F (k + 1) from HN.out.symm)
          have hok2 := blocks_ok F (k + 1)
          generalize hst2 : blocks F (k + 1) = s' at HMK hok2
          have c0 : wr.cell? ⟨w.heap.size + 1, 0, none⟩ = some (.int .i64 (s1 : Int)) := HM.out.cell 0 (show 0 < 8 by decide)
          have c1 : wr.cell? ⟨w.heap.size + 1, 1, none⟩ = some (.int .i64 (s2 : Int)) := HM.out.cell 1 (show 1 < 8 by decide)
          have c2 : wr.cell? ⟨w.heap.size + 1, 2, none⟩ = some (.int .i64 (s3 : Int)) := HM.out.cell 2 (show 2 < 8 by decide)
          have c3 : wr.cell? ⟨w.heap.size + 1, 3, none⟩ = some (.int .i64 (s4 : Int)) := HM.out.cell 3 (show 3 < 8 by decide)
          have c4 : wr.cell? ⟨w.heap.size + 1, 4, none⟩ = some (.int .i64 (s5 : Int)) := HM.out.cell 4 (show 4 < 8 by decide)
          have c5 : wr.cell? ⟨w.heap.size + 1, 5, none⟩ = some (.int .i64 (s6 : Int)) := HM.out.cell 5 (show 5 < 8 by decide)
          have c6 : wr.cell? ⟨w.heap.size + 1, 6, none⟩ = some (.int .i64 (s7 : Int)) := HM.out.cell 6 (show 6 < 8 by decide)
          have c7 : wr.cell? ⟨w.heap.size + 1, 7, none⟩ = some (.int .i64 (s8 : Int)) := HM.out.cell 7 (show 7 < 8 by decide)
          have HST2 := Lib.hid hst2
          clear hok hok2 hst hst2 HN
          have hi0 : (0 : Int) ≤ 64 * (k : Int) := by omega
          have hi1 : 64 * (k : Int) + 64 ≤ (F.length : Int) := by have := HFL2.out; omega
          have hi2 : 64 * (k : Int) < (F.length : Int) := by have := HFL2.out; omega
          have hi3 : 64 * (k : Int) + 64 ≤ (fc : Int) := by omega
          have hi4 : 64 * (k : Int) < 6400 := by omega
          have f0 := HM.out.free 0
          have f1 := HM.out.free 1
          have f2 := HM.out.free 2
          have f3 := HM.out.free 3
          have f4 := HM.out.free 4
          have f5 := HM.out.free 5
          have f6 := HM.out.free 6
          have f7 := HM.out.free 7
          have hbl : w.heap.size + 1 < wr.drew.heap.size := lt_of_heap_ HM.out.st
          go_wp2_with fail
          have e1 : IntKind.i64.wrap (64 * (k : Int) + 64) = 64 * (k : Int) + 64 := by rw [IntWalk.i64_in _ (by omega)]
          have n1 : (64 * (k : Int) + 64).toNat = 64 * k + 64 := by omega
          have n2 : (64 * (k : Int)).toNat = 64 * k := by omega
          go_region_with (first | (go_at_call 46; refine (block8 s1 s2 s3 s4 s5 s6 s7 s8 bl _ _ _ HOK.out HB64.out HB8.out ?_).mono ?_; (exact bytes_below HBC.out ((Below.refl _ _).drew)); rintro e w' ⟨⟨r1, r2, r3, r4, r5, r6, r7, r8, hmx, rfl⟩, hb4⟩; have HMX := Lib.hid hmx; clear hmx; obtain ⟨hc4, hf4, hl4⟩ := bk_ hb4 (by assumption)))
          all_goals
            have M5 := Lib.hid ((((((((((HM.out.below ((Below.refl wr.heap.size wr).drew)).below hb4).set 0 r1).set 1 r2).set 2 r3).set 3 r4).set 4 r5).set 5 r6).set 6 r7).set 7 r8)
            have G5 := Lib.hid (gtrans HB.out (gtrans (gdrewN wr 1 (some (w.heap.size + 1))) (gtrans (gbelow hb4 (some (w.heap.size + 1))) (gsetCells (w.heap.size + 1) (i64s [r1, r2, r3, r4, r5, r6, r7, r8]) 0 w'))))
            clear hb4 hc4 hf4 hl4 c0 c1 c2 c3 c4 c5 c6 c7 f0 f1 f2 f3 f4 f5 f6 f7 hbl e1 n1 n2
            go_wp2_with fail
            go_roundw
            case rel =>
              refine ⟨k + 1, by omega, by go_num, ?_, G5.out⟩
              rw [HST2.out, ← HMK.out, HMX.out]
              exact M5.out
            case measure => simp [intOf]; omega
        · have e : k = nb := by omega
          subst e
          have hok := blocks_ok F k
          generalize blocks F k = s at hok HM HDG2
          have HALL := Lib.hid hok.all
          have hge : (F.length : Int) ≤ 64 * (k : Int) := by have := HFL2.out; omega
          clear hlt hok
          go_upto_region 12 with (fail)
          have hsz : w.heap.size + 2 ≤ wr.heap.size := lt_of_heap_ HM.out.st
          have hL1 : Below wr.heap.size wr (wr.alloc (.cells (u8s (pad 32 [])).toArray 55)) := (Below.refl _ _).alloc (Nat.le_refl _) _
          have P0 := Lib.hid (show PMem w.heap.size wr.heap.size s.list ((out s).take 0) w (wr.alloc (.cells (u8s (pad 32 [])).toArray 55)) from ⟨HM.out.below hL1, heap_alloc_new wr _, hsz⟩)
          change Code.wp _ _ _ _ (wr.alloc (.cells (u8s (pad 32 [])).toArray 55))
          generalize wr.alloc (.cells (u8s (pad 32 [])).toArray 55) = w5 at P0
          clear hL1 hsz hge HB HM
          generalize wr.heap.size = N at P0
          go_wp2_with fail
          go_loopw [8] (fun i wr => ∃ j : Nat, j ≤ 32 ∧ i = .int .i64 j ∧ PMem w.heap.size N s.list ((out s).take j) w wr) (fun i _ => 32 - (intOf i).toNat)
          case atStart => exact ⟨0, Nat.zero_le _, rfl, P0.out⟩
          case round =>
            obtain ⟨j, hj, rfl, hp⟩ := hrel
            by_cases hlt : j < 32
            · have hc := hp.mem.cell (j / 4) (show j / 4 < 8 by omega)
              have hol : ((out s).take j).length = j := by rw [List.length_take, out_length_]; omega
              have hf : wr.frozen? ⟨N, j, none⟩ = false := frozen_of_row _ N j _ _ hp.out
              have hcN : wr.cell? ⟨N, j, none⟩ = some (.int .u8 (((pad 32 ((out s).take j)).getD j 0 : Nat) : Int)) := (cell_of_row wr N j _ _ _ hp.out).trans (u8s_at (by rw [pad_length (by omega)]; exact hlt))
              generalize (pad 32 ((out s).take j)).getD j 0 = old at hcN
              have HN := Lib.hid (out_next s j hlt)
              have hx := getD_lt HALL.out (by decide) (j / 4)
              have hset := hp.set (show ((out s).take j).length < 32 by omega) ((bytes4 (s.list.getD (j / 4) 0)).getD (j % 4) 0)
              rw [hol, ← out_next s j hlt] at hset
              have HSET := Lib.hid hset
              generalize s.list.getD (j / 4) 0 = x at hc hx HSET
              have HB8 := Lib.hid (outByte x j hx)
              have hi0 : (0 : Int) ≤ (j : Int) / 4 := by omega
              have hi1 : (j : Int) / 4 < 8 := by omega
              have hi2 : (0 : Int) ≤ 24 - 8 * ((j : Int) % 4) := by omega
              have hi3 : 24 - 8 * ((j : Int) % 4) ≤ 24 := by omega
              clear hset hp hol HN
              go_wp2_with fail
              rw [HB8.out]
              generalize wr.setCell ⟨N, j, none⟩ (.int .u8 (((bytes4 x).getD (j % 4) 0 : Nat) : Int)) = wy at HSET
              go_wp2_with fail
              go_roundw
              case rel => exact ⟨j + 1, by omega, by go_num, HSET.out⟩
              case measure => simp [intOf]; omega
            · have e : j = 32 := by omega
              subst e
              rw [List.take_of_length_le (Nat.le_of_eq (out_length_ s))] at hp
              have HP := Lib.hid hp
              clear hp hlt
              have hos : (u8s (pad 32 (out s))).toArray.size = 32 := by rw [List.size_toArray, u8s_length, pad_full (out_length_ s), out_length_]
              have hbk := HP.out.out
              have hres := HP.out.mem.res
              have hpf : pad 32 (out s) = out s := pad_full (out_length_ s)
              rw [hpf] at hbk hos
              have HOS := Lib.hid hos
              have HBK := Lib.hid hbk
              have HRES := Lib.hid hres
              clear hpf hbk hos hres
              go_upto_region 16 with (fail)
              refine wp_region_lit ?_
              refine wpList_load_row rfl 55 _ rfl N rfl 55 _ _ _ HBK.out Tryd.underlying55 rfl (by rw [HOS.out]; kernel_rfl) ?_
              refine wpList_store_mid rfl 55 _ _ rfl w.heap.size 0 _ rfl rfl (there_of_block HRES.out 0 _ (by rw [HOS.out]; decide)) (by rw [HOS.out]; kernel_rfl) (u8s_cells _) ?_
              have HE := Lib.hid (show (wr.setCells w.heap.size 0 (u8s (out s)).toArray.toList).heap[w.heap.size]? = some (.cells (u8s (out s)).toArray 55 (0, 0)) by
                have := heap_setCells w.heap.size 55 (0, 0) (u8s (out s)) 0 wr _ HRES.out (by rw [u8s_length, u8s_length, pad_length (by decide), out_length_]; decide)
                rw [this, Nat.zero_add, List.take_zero, List.nil_append, List.drop_of_length_le (by rw [u8s_length, u8s_length, pad_length (by decide), out_length_]; decide), List.append_nil])
              have HBL := Lib.hid (below_setCells w.heap.size (Nat.le_refl _) (u8s (out s)).toArray.toList 0 _ HP.out.mem.old)
              generalize wr.setCells w.heap.size 0 (u8s (out s)).toArray.toList = wz at HE HBL
              go_wp2_with fail
              exact bodyPost_ret (v := .agg (u8s (out s)).toArray) (results_cell_row rfl _ _ w.heap.size 55 _ (0, 0) _ rfl HE.out Tryd.underlying55 rfl (by rw [HOS.out]; kernel_rfl)) rfl ⟨by rw [HDG2.out], HBL.out⟩
end Sha
end Go.Proofs.YtdiidfkmmgcjmaaDoor
