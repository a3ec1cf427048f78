/- 'awake' of the statements about package mac answers true. -/
import Derived.Test.YtmfecicapaiaeaaMacTag
import Derived.Test.YtmfecicapaiaeaaMacSame
import Derived.Test.YtmfecicapaiaeaaEdgesWalk
import Derived.Lib.SlBytesConst
namespace Go.Proofs.Ytmfecicapaiaeaa
open Go.RowKit
namespace Sha
/-- Bytes that lie in a block of their own. -/
theorem cells_bytes {w : World} {b n c : Nat} {T : TypeId} {fr : Nat × Nat} {l : List Nat} (h : w.heap[b]? = some (.cells (u8s l).toArray T fr)) (hl : l.length = n) (hc : n ≤ c) : BytesIn w (.slice (some ⟨b, 0, none⟩) n c) l := by
  subst hl
  refine ⟨_, c, rfl, hc, .inr ⟨b, 0, rfl, fun j hj => ?_⟩⟩
  rw [Nat.zero_add]
  exact (cell_of_row w b j _ _ _ h).trans (u8s_at hj)
theorem parts_two {w : World} {p : Nat} {v1 v2 : Value} {T : TypeId} {l1 l2 : List Nat} (hp : w.heap[p]? = some (.cells #[v1, v2] T (0, 0))) (h1 : BytesIn w v1 l1) (h2 : BytesIn w v2 l2) : PartsIn w (.slice (some ⟨p, 0, none⟩) 2 2) [l1, l2] := by
  refine ⟨_, 2, rfl, .inr ⟨p, 0, rfl, fun j hj => ?_⟩⟩
  match j, hj with
  | 0, _ => exact ⟨v1, cell_of_row w p 0 _ _ _ hp, h1⟩
  | 1, _ => exact ⟨v2, cell_of_row w p 1 _ _ _ hp, h2⟩
theorem parts_one {w : World} {p : Nat} {v1 : Value} {T : TypeId} {l1 : List Nat} (hp : w.heap[p]? = some (.cells #[v1] T (0, 0))) (h1 : BytesIn w v1 l1) : PartsIn w (.slice (some ⟨p, 0, none⟩) 1 1) [l1] := by
  refine ⟨_, 1, rfl, .inr ⟨p, 0, rfl, fun j hj => ?_⟩⟩
  match j, hj with
  | 0, _ => exact ⟨v1, cell_of_row w p 0 _ _ _ hp, h1⟩
theorem below_drewN {B : Nat} {a w : World} (h : Below B a w) (n : Nat) : Below B a (w.drewN n) := ⟨h.os, h.tape, h.output, h.size, h.block⟩
theorem equal_same (v1 v2 : Value) (xs : List Nat) (w : World) (h1 : BytesIn w v1 xs) (h2 : BytesIn w v2 xs) (hx8 : ∀ x ∈ xs, x < 256) (hl : xs.length < 1000000) :
    Calls Try.prog 25 #[v1, v2] w fun e w' => e = .returned (.bool true) ∧ ∃ k, w' = w.drewN k :=
  (equal_any v1 v2 xs xs w h1 h2 hx8 hx8 hl hl).mono fun _ _ ⟨he, hw⟩ => ⟨by rw [he, decide_eq_true rfl], hw⟩
theorem equal_less (v1 v2 : Value) (xs ys : List Nat) (w : World) (h1 : BytesIn w v1 xs) (h2 : BytesIn w v2 ys) (hx8 : ∀ x ∈ xs, x < 256) (hy8 : ∀ x ∈ ys, x < 256) (hl : xs.length < 1000000) (hly : ys.length < xs.length) :
    Calls Try.prog 25 #[v1, v2] w fun e w' => e = .returned (.bool false) ∧ ∃ k, w' = w.drewN k :=
  (equal_any v1 v2 xs ys w h1 h2 hx8 hy8 hl (by omega)).mono fun _ _ ⟨he, hw⟩ => ⟨by rw [he, decide_eq_false (fun h => by rw [h] at hly; omega)], hw⟩
theorem conv2 (w : World) (o : Obj) (C : Array Value) (n c : Nat) :
    (convert 22 22 (.slice (some ⟨w.heap.size + 1, 0, none⟩) n c)).run Try.prog ((w.alloc o).alloc (.cells C 5)) = .ok (.slice (some ⟨w.heap.size + 1, 0, none⟩) n c) ((w.alloc o).alloc (.cells C 5 (C.size, C.size + 1))) := by
  have h := Lib.run_convert_bytes_const (P := Try.prog) (w.alloc o) 22 5 C n c Try.underlying22 Try.underlying5
  have e : (w.alloc o).heap.size = w.heap.size + 1 := by simp
  rw [e] at h
  exact h
attribute [local go_sem ↓] Go.wp_at_zero Go.wp_at_succ
set_option maxRecDepth 100000 in
set_option maxHeartbeats 4000000 in
theorem awake2_any (w : World) :
    Calls Try.prog 20 #[] w fun e w' => e = .returned (.bool true) ∧ Below w.heap.size w w' := by
  have kc := fun (w : World) (C : Array Value) (n c : Nat) => Lib.run_convert_bytes_const (P := Try.prog) w 22 5 C n c Try.underlying22 Try.underlying5
  have kc2 := fun (w : World) (o : Obj) (C : Array Value) (n c : Nat) => conv2 w o C n c
  go_enter Try.func20, Try.ntmps20
  go_wp2_with fail
  go_loopw [1, 2] (fun v i wr => ∃ (k : Nat) (ad : Option Addr) (cp : Nat), k ≤ 20 ∧ i = .int .i64 k ∧ v = .slice ad k cp ∧ wr.ownsRow w.heap.size 5 1 (.slice ad k cp) k (u8s (List.replicate k 11)) ∧ Below w.heap.size w wr) (fun _ i _ => 20 - (intOf i).toNat)
  case atStart => exact ⟨0, none, 0, Nat.zero_le _, rfl, rfl, World.ownsRow_nil _ _ _ _, Below.refl _ _⟩
  case round =>
    obtain ⟨k, ad, cp, hk, rfl, rfl, ho, hb⟩ := hrel
    have HO := Lib.hid ho
    have HB := Lib.hid hb
    clear ho hb
    by_cases hlt : k < 20
    · go_wp2_with (at_builtin; go_must (refine append_law rfl (.tmp 9) (.tmp 10) rfl w.heap.size _ k _ rfl (HO.out.alloc _) (some ⟨wr.heap.size, 0, none⟩) 1 1 [11] rfl rfl (fun h => by cases h) (bytes_one wr 11) ?_ ?_ ?_))
      · omega
      · have := HB.out.size; simp; omega
      intro v2 w2 hown2 hg2 hv2
      obtain ⟨va, vc, rfl⟩ := own_form' hown2
      rw [u8_rep] at hown2
      have O2 := Lib.hid hown2
      have B2 := Lib.hid (show Below w.heap.size w w2 from (HB.out.alloc HB.out.size _).grown hg2 (by have := HB.out.size; simp; omega) (own_ge HO.out))
      clear hown2 hg2 hv2
      go_wp2_with fail
      go_roundw
      case rel => exact ⟨k + 1, va, vc, by omega, by go_num, rfl, O2.out, B2.out⟩
      case measure => simp [intOf]; omega
    · have e : k = 20 := by omega
      subst e
      have hown := HO.out
      rcases hown.2 with ⟨_, h0⟩ | ⟨g, cap, cur, hv, _⟩
      · exact absurd h0 (by decide)
      injection hv with e1 e2 e3
      clear e2
      subst e1
      clear e3 hlt
      have hkey := own_bytes_n hown (by simp)
      have HK8 := Lib.hid (show ∀ x ∈ List.replicate 20 11, x < 256 by intro x hx; simp at hx; omega)
      have HKL := Lib.hid (show (List.replicate 20 11).length = 20 by simp)
      have HHM := Lib.hid hmac_hi
      generalize hkk : List.replicate 20 11 = key at hkey HK8 HKL HHM
      have HKEY := Lib.hid hkey
      clear hown hkey HO hkk
      go_wp2_with fail
      have hb1 : BytesIn ((wr.alloc (.cells (u8s [72, 105, 32]).toArray 5 (3, 4))).alloc (.cells (u8s [84, 104, 101, 114, 101]).toArray 5 (5, 6))) (.slice (some ⟨wr.heap.size, 0, none⟩) 3 3) [72, 105, 32] := cells_bytes (heap_alloc2_old wr _ _) rfl (by decide)
      have hb2 : BytesIn ((wr.alloc (.cells (u8s [72, 105, 32]).toArray 5 (3, 4))).alloc (.cells (u8s [84, 104, 101, 114, 101]).toArray 5 (5, 6))) (.slice (some ⟨wr.heap.size + 1, 0, none⟩) 5 5) [84, 104, 101, 114, 101] := cells_bytes (heap_alloc2_new wr _ _) rfl (by decide)
      have hbb : Below wr.heap.size wr ((wr.alloc (.cells (u8s [72, 105, 32]).toArray 5 (3, 4))).alloc (.cells (u8s [84, 104, 101, 114, 101]).toArray 5 (5, 6))) := ((Below.refl _ _).alloc (Nat.le_refl _) _).alloc (by simp) _
      have HBK := Lib.hid (bytes_below HKEY.out hbb)
      have hsz : ((wr.alloc (.cells (u8s [72, 105, 32]).toArray 5 (3, 4))).alloc (.cells (u8s [84, 104, 101, 114, 101]).toArray 5 (5, 6))).heap.size = wr.heap.size + 1 + 1 := by simp
      rw [← hsz]
      change Calls _ _ _ (((wr.alloc (.cells (u8s [72, 105, 32]).toArray 5 (3, 4))).alloc (.cells (u8s [84, 104, 101, 114, 101]).toArray 5 (5, 6))).alloc _) _
      generalize (wr.alloc (.cells (u8s [72, 105, 32]).toArray 5 (3, 4))).alloc (.cells (u8s [84, 104, 101, 114, 101]).toArray 5 (5, 6)) = w3 at hb1 hb2 hbb HBK hsz
      clear hsz
      have ha3 : Below w3.heap.size w3 (w3.alloc (.cells #[.slice (some ⟨wr.heap.size, 0, none⟩) 3 3, .slice (some ⟨wr.heap.size + 1, 0, none⟩) 5 5] 22)) := (Below.refl _ _).alloc (Nat.le_refl _) _
      refine (code_any (some ⟨g, 0, none⟩) 20 cp key _ [[72, 105, 32], [84, 104, 101, 114, 101]] _ (bytes_below HBK.out ha3) HK8.out (by decide) (parts_two (heap_alloc_new w3 _) (bytes_below hb1 ha3) (bytes_below hb2 ha3)) (by decide) (by decide) (by decide)).mono ?_
      rintro e w4 ⟨rfl, hb4⟩
      rw [show [[72, 105, 32], [84, 104, 101, 114, 101]].flatten = [72, 105, 32, 84, 104, 101, 114, 101] by rfl]
      have B4 := Lib.hid (hbb.trans ((ha3.trans (hb4.mono ha3.size)).mono hbb.size))
      clear hb1 hb2 hbb HBK ha3 hb4 kc2
      have HDL := Lib.hid (hmac_length key [72, 105, 32, 84, 104, 101, 114, 101])
      generalize hD : hmac key [72, 105, 32, 84, 104, 101, 114, 101] = D at HDL ⊢
      rw [hD] at HHM
      have HD := Lib.hid hD
      clear hD
      dsimp only
      rename_i hK
      refine hK _ _ ?_
      clear hK
      refine wpList_plain rfl (fun K hK => ?_)
      go_simp
      refine hK _ _ ?_
      clear hK K
      have hbk : (w4.alloc (.cells (u8s (pad 32 [])).toArray 25)).heap[w4.heap.size]? = some (.cells (u8s (pad 32 [])).toArray 25 (0, 0)) := heap_alloc_new w4 _
      have hbl := B4.out.alloc B4.out.size (.cells (u8s (pad 32 [])).toArray 25)
      have hN : wr.heap.size ≤ w4.heap.size := B4.out.size
      change wpList _ _ _ _ _ (w4.alloc (.cells (u8s (pad 32 [])).toArray 25))
      generalize w4.alloc (.cells (u8s (pad 32 [])).toArray 25) = w5 at hbk hbl
      clear B4
      generalize w4.heap.size = N at hbk hN
      have hsz : (u8s D).toArray.size = 32 := by rw [List.size_toArray, u8s_length, HDL.out]
      refine wpList_store_mid rfl 25 _ _ rfl N 0 _ rfl rfl (there_of_block hbk 0 _ (by rw [hsz]; decide)) (by rw [hsz]; kernel_rfl) (u8s_cells _) ?_
      have D6 := Lib.hid (put_row (D := D) (by rw [HDL.out, pad_length (by decide)]) hbk)
      have B6 := Lib.hid (below_setCells N hN (u8s D).toArray.toList 0 _ hbl)
      change wpList _ _ _ _ _ (w5.setCells N 0 (u8s D).toArray.toList)
      generalize w5.setCells N 0 (u8s D).toArray.toList = w6 at D6 B6
      clear hbk hbl hsz hN
      go_wp2_with fail
      have hb1 : BytesIn (w6.alloc (.cells (u8s [72, 105, 32, 84, 104, 101, 114, 101]).toArray 5 (8, 9))) (.slice (some ⟨w6.heap.size, 0, none⟩) 8 8) [72, 105, 32, 84, 104, 101, 114, 101] := cells_bytes (heap_alloc_new w6 _) rfl (by decide)
      have hbb : Below w6.heap.size w6 (w6.alloc (.cells (u8s [72, 105, 32, 84, 104, 101, 114, 101]).toArray 5 (8, 9))) := (Below.refl _ _).alloc (Nat.le_refl _) _
      have hsz : (w6.alloc (.cells (u8s [72, 105, 32, 84, 104, 101, 114, 101]).toArray 5 (8, 9))).heap.size = w6.heap.size + 1 := by simp
      rw [← hsz]
      change Calls _ _ _ ((w6.alloc (.cells (u8s [72, 105, 32, 84, 104, 101, 114, 101]).toArray 5 (8, 9))).alloc _) _
      generalize w6.alloc (.cells (u8s [72, 105, 32, 84, 104, 101, 114, 101]).toArray 5 (8, 9)) = w7 at hb1 hbb hsz
      clear hsz
      have ha7 : Below w7.heap.size w7 (w7.alloc (.cells #[.slice (some ⟨w6.heap.size, 0, none⟩) 8 8] 22)) := (Below.refl _ _).alloc (Nat.le_refl _) _
      have HB7 := Lib.hid (hbb.trans (ha7.mono hbb.size))
      refine (tag_any (some ⟨g, 0, none⟩) 20 cp key _ [[72, 105, 32, 84, 104, 101, 114, 101]] _ (bytes_below HKEY.out (B6.out.trans (HB7.out.mono B6.out.size))) HK8.out (by decide) (parts_one (heap_alloc_new w7 _) (bytes_below hb1 ha7)) (by decide) (by decide) (by decide)).mono ?_
      rintro e w8 ⟨rfl, hb8⟩
      rw [show [[72, 105, 32, 84, 104, 101, 114, 101]].flatten = [72, 105, 32, 84, 104, 101, 114, 101] by rfl, HD.out]
      have B68 := Lib.hid (HB7.out.trans (hb8.mono HB7.out.size))
      clear hb1 hbb ha7 HB7 hb8 kc
      have D8 := Lib.hid ((B68.out.block N (lt_of_heap D6.out)).trans D6.out)
      have B8 := Lib.hid (B6.out.trans (B68.out.mono B6.out.size))
      have hNl : N < w8.heap.size := lt_of_heap D8.out
      clear D6 B6 B68
      have HTL := Lib.hid (show (D.take 16).length = 16 by rw [List.length_take, HDL.out]; decide)
      dsimp only
      rename_i hK
      refine hK _ _ ?_
      clear hK
      refine wpList_plain rfl (fun K hK => ?_)
      go_simp
      refine hK _ _ ?_
      clear hK K
      have hbk : (w8.alloc (.cells (u8s (pad 16 [])).toArray 37)).heap[w8.heap.size]? = some (.cells (u8s (pad 16 [])).toArray 37 (0, 0)) := heap_alloc_new w8 _
      have hbl := B8.out.alloc B8.out.size (.cells (u8s (pad 16 [])).toArray 37)
      have hD9 := (heap_alloc_old w8 (.cells (u8s (pad 16 [])).toArray 37) hNl).trans D8.out
      have hM : wr.heap.size ≤ w8.heap.size := B8.out.size
      change wpList _ _ _ _ _ (w8.alloc (.cells (u8s (pad 16 [])).toArray 37))
      generalize w8.alloc (.cells (u8s (pad 16 [])).toArray 37) = w9 at hbk hbl hD9
      clear B8 D8
      generalize w8.heap.size = M at hbk hM hNl
      have hsz : (u8s (D.take 16)).toArray.size = 16 := by rw [List.size_toArray, u8s_length, HTL.out]
      refine wpList_store_mid rfl 37 _ _ rfl M 0 _ rfl rfl (there_of_block hbk 0 _ (by rw [hsz]; decide)) (by rw [hsz]; kernel_rfl) (u8s_cells _) ?_
      have T10 := Lib.hid (put_row (D := D.take 16) (by rw [HTL.out, pad_length (by decide)]) hbk)
      have D10 := Lib.hid (((gsetCells M (u8s (D.take 16)).toArray.toList 0 w9).block N (lt_of_heap hD9) (by intro e; injection e with e; omega)).trans hD9)
      have B10 := Lib.hid (below_setCells M hM (u8s (D.take 16)).toArray.toList 0 _ hbl)
      change wpList _ _ _ _ _ (w9.setCells M 0 (u8s (D.take 16)).toArray.toList)
      generalize w9.setCells M 0 (u8s (D.take 16)).toArray.toList = w10 at T10 D10 B10
      clear hbk hbl hsz hM hD9 hNl
      have hD0 := drop_cell D10.out 0 (by rw [HDL.out]; decide)
      have hD1 := drop_cell D10.out 1 (by rw [HDL.out]; decide)
      have hD31 := drop_cell D10.out 31 (by rw [HDL.out]; decide)
      rw [HHM.out] at hD0 hD1 hD31
      have hsl : ∀ w, (Instr.slice 22 (.slice (some ⟨g, 0, none⟩) 20 cp) (some (.int .i64 1)) none none).run Try.prog w = .ok (.slice (cutA (some ⟨g, 0, none⟩) 1 cp) 19 (cp - 1)) w := fun w => (run_slice_only _ _ _ _).symm.trans (run_cut_l (some ⟨g, 0, none⟩) 20 cp 1 (by decide) w)
      have HKW := Lib.hid (bytes_below HKEY.out B10.out)
      have HK1 := Lib.hid (bytes_l HKW.out (k := 1) (by decide))
      generalize cutA (some ⟨g, 0, none⟩) 1 cp = a1 at hsl HK1
      have HS1 := Lib.hid (row_all T10.out HTL.out)
      have HS2 := Lib.hid (row_bytes D10.out (n := 16) (c := 32) (by rw [HDL.out]; decide) (by decide))
      have HT8 := Lib.hid (show ∀ x ∈ D.take 16, x < 256 from fun x hx => by rw [← HD.out] at hx; exact hmac_small _ _ x (List.mem_of_mem_take hx))
      have HKD := Lib.hid (show ∀ x ∈ key.drop 1, x < 256 from fun x hx => HK8.out x (List.mem_of_mem_drop hx))
      go_wp2_with fail
      go_quiet ((first
        | (go_at_call 19; exact Calls.quiet_of (same_any _ _ (D.take 16) _ HS1.out HS2.out HT8.out (by rw [HTL.out]; decide)))
        | (go_at_call 25; exact Calls.quiet_of (equal_same _ _ key _ HKW.out HKW.out HK8.out (by rw [HKL.out]; decide)))
        | (go_at_call 25; exact Calls.quiet_of (equal_less _ _ key (key.drop 1) _ HKW.out HK1.out HK8.out HKD.out (by rw [HKL.out]; decide) (by rw [List.length_drop, HKL.out]; decide)))))
      go_wp2_with fail
      go_ret
      exact ⟨rfl, below_drewN (HB.out.trans (B10.out.mono HB.out.size)) _⟩
end Sha
end Go.Proofs.Ytmfecicapaiaeaa
