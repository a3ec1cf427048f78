/- Open of the document. Written by tools/gen_frm_ref.py. -/
import Derived.Test.YtdiidfkmmgcjmaaDoorFrmSeal
import Derived.Test.YtdiidfkmmgcjmaaDoorFrmWr
import Derived.Test.YtdiidfkmmgcjmaaDoorFrmArg
import Derived.Test.YtdiidfkmmgcjmaaDoorBunBase
import Derived.Deep.Cut
import Derived.Deep.LoopGhost
import Derived.Deep.RegionHeld3
import Derived.IntWalk
namespace Go.Proofs.YtdiidfkmmgcjmaaDoor
open Go.RowKit Sha Six Apd Cut Err
set_option linter.unusedVariables false
namespace Frm
theorem over3f (a : World) (B : Nat) (t : TypeId) (a0 a1 a2 u0 u1 u2 : Value) (h : a.heap[B]? = some (.cells #[a0, a1, a2] t (0, 0))) :
    (((a.setCell ⟨B, 0, none⟩ u0).setCell ⟨B, 1, none⟩ u1).setCell ⟨B, 2, none⟩ u2).heap[B]? = some (.cells #[u0, u1, u2] t (0, 0)) ∧
    a.grownBy (((a.setCell ⟨B, 0, none⟩ u0).setCell ⟨B, 1, none⟩ u1).setCell ⟨B, 2, none⟩ u2) (some B) := by
  have h := heap_setCell_same _ B 0 _ t u0 h
  have h := heap_setCell_same _ B 1 _ t u1 h
  have h := heap_setCell_same _ B 2 _ t u2 h
  exact ⟨h, gtrans (gsetCell _ _ _ _) (gtrans (gsetCell _ _ _ _) (gsetCell _ _ _ _))⟩
theorem run_h (a : Option Addr) (len cap k : Nat) (hk : k ≤ cap) (w : World) :
    (Instr.slice 22 (.slice a len cap) none (some (.int .i64 (k : Int))) none).run Tryd.prog w = .ok (.slice a k cap) w := by
  have hu : Tryd.prog.underlying 22 = some (.slice (Tryd.prog.elem 22)) := by kernel_rfl
  have hs : ((sizeOf (Tryd.prog.elem 22)).run Tryd.prog w) = .ok 1 w := by kernel_rfl
  rw [run_slice_h (P := Tryd.prog) w _ _ _ _ hu _ _ (by omega) (by omega), hs]
  simp only [Result.andThen, sliced]
  cases a <;> simp [Addr.add]
theorem bytes_h {w : World} {a : Option Addr} {len cap k : Nat} {xs : List Nat} (h : BytesIn w (.slice a len cap) xs) (hk : k ≤ len) : BytesIn w (.slice a k cap) (xs.take k) := by
  obtain ⟨ad, c, hv, hcap, hc⟩ := h
  injection hv with e1 e2 e3
  subst e1 e2 e3
  have hl : (xs.take k).length = k := by rw [List.length_take]; omega
  refine ⟨a, cap, by rw [hl], by rw [hl]; omega, ?_⟩
  rcases hc with h0 | ⟨g, off, h0, hc⟩
  · exact .inl (by rw [h0]; simp)
  · refine .inr ⟨g, off, h0, fun j hj => ?_⟩
    rw [hl] at hj
    rw [hc j (by omega)]
    congr 3
    rw [List.getD_eq_getElem?_getD, List.getD_eq_getElem?_getD, List.getElem?_take_of_lt hj]
/-- A frame and a number. -/
def ShownF (w w' : World) (f : F) (code : Nat) (e : Ending) : Prop := ∃ va vc, e = .returned (.tuple #[.agg #[.int .i64 f.d, .int .i64 f.q, .slice va f.b.length vc], .int .i64 (code : Int)]) ∧ Byts w' va vc f.b ∧ Below w.heap.size w w'
theorem byts_nil (w : World) : Byts w none 0 [] := ⟨⟨none, 0, rfl, Nat.le_refl _, .inl rfl⟩, nofun, fun _ => ⟨rfl, rfl⟩⟩
set_option maxRecDepth 100000 in
set_option maxHeartbeats 8000000 in
theorem ropen_cut (key b : List Nat) (dir : Int) (ka : Option Addr) (kc : Nat) (ba : Option Addr) (bc : Nat) (w : World) (hk : Byts w ka kc key) (hb : Byts w ba bc b) (hkl : key.length ≤ 200) (h : b.length < 26) :
    Calls Tryd.prog 16 #[.slice ka key.length kc, .int .i64 dir, .slice ba b.length bc] w fun e w' => ShownF w w' (none_) 2 e := by
  have HB := Lib.hid (al_any w (.cells #[.int .i64 0, .int .i64 0, .slice none 0 0] 24))
  have HX := Lib.hid (heap_alloc_new w (.cells #[.int .i64 0, .int .i64 0, .slice none 0 0] 24))
  have h' : decide ((b.length : Int) < 26) = true := by simp; omega
  clear hk hb hkl h
  go_enter Tryd.func16, Tryd.ntmps16
  go_upto_region 1 with (fail)
  generalize w.alloc _ = w1 at *
  have SF := Lib.hid (over3f w1 w.heap.size 24 _ _ _ (.int .i64 0) (.int .i64 0) (.slice none 0 0) HX.out)
  obtain ⟨y0, y1, y2⟩ := cells3 HX.out
  obtain ⟨f0, f1, f2⟩ := free3 HX.out
  go_wp2_with fail
  clear y0 y1 y2 f0 f1 f2
  generalize ((w1.setCell _ _).setCell _ _).setCell _ _ = w9 at *
  exact bodyPost_ret (v := .tuple #[.agg #[.int .i64 0, .int .i64 0, .slice none 0 0], .int .i64 2]) (results_cell_row_tmp rfl _ _ _ w.heap.size _ rfl (run_loadVar_row _ w.heap.size 24 24 _ (0, 0) _ SF.out.1 Tryd.underlying24 rfl (by kernel_rfl)) (.int .i64 2) rfl) rfl ⟨none, 0, rfl, byts_nil _, HB.out.grown SF.out.2 HB.out.size (by intro g hg; injection hg with hg; omega)⟩
set_option maxRecDepth 100000 in
set_option maxHeartbeats 8000000 in
theorem ropen_long (key b : List Nat) (dir : Int) (ka : Option Addr) (kc : Nat) (ba : Option Addr) (bc : Nat) (w : World) (hk : Byts w ka kc key) (hb : Byts w ba bc b) (hkl : key.length ≤ 200) (h : 512 < b.length) :
    Calls Tryd.prog 16 #[.slice ka key.length kc, .int .i64 dir, .slice ba b.length bc] w fun e w' => ShownF w w' (none_) 6 e := by
  have HB := Lib.hid (al_any w (.cells #[.int .i64 0, .int .i64 0, .slice none 0 0] 24))
  have HX := Lib.hid (heap_alloc_new w (.cells #[.int .i64 0, .int .i64 0, .slice none 0 0] 24))
  have h' : decide ((b.length : Int) < 26) = false := by simp; omega
  have h2 : decide ((512 : Int) < (b.length : Int)) = true := by simp; omega
  clear hk hb hkl h
  go_enter Tryd.func16, Tryd.ntmps16
  go_upto_region 1 with (fail)
  generalize w.alloc _ = w1 at *
  have SF := Lib.hid (over3f w1 w.heap.size 24 _ _ _ (.int .i64 0) (.int .i64 0) (.slice none 0 0) HX.out)
  obtain ⟨y0, y1, y2⟩ := cells3 HX.out
  obtain ⟨f0, f1, f2⟩ := free3 HX.out
  go_wp2_with fail
  clear y0 y1 y2 f0 f1 f2
  generalize ((w1.setCell _ _).setCell _ _).setCell _ _ = w9 at *
  exact bodyPost_ret (v := .tuple #[.agg #[.int .i64 0, .int .i64 0, .slice none 0 0], .int .i64 6]) (results_cell_row_tmp rfl _ _ _ w.heap.size _ rfl (run_loadVar_row _ w.heap.size 24 24 _ (0, 0) _ SF.out.1 Tryd.underlying24 rfl (by kernel_rfl)) (.int .i64 6) rfl) rfl ⟨none, 0, rfl, byts_nil _, HB.out.grown SF.out.2 HB.out.size (by intro g hg; injection hg with hg; omega)⟩
theorem num_snoc (l : List Nat) (x : Nat) : num (l ++ [x]) = num l * 256 + x := by simp [num]
theorem num_step {l : List Nat} {k : Nat} (hk : k < l.length) : num (l.take (k + 1)) = num (l.take k) * 256 + l.getD k 0 := by
  rw [List.take_add_one, List.getElem?_eq_getElem hk, List.getD_eq_getElem?_getD, List.getElem?_eq_getElem hk]
  exact num_snoc _ _
theorem num_bound {l : List Nat} (h8 : ∀ x ∈ l, x < 256) (h0 : l.getD 0 0 ≤ 64) : ∀ k, k + 1 ≤ l.length → num (l.take (k + 1)) < 65 * 256 ^ k
  | 0, hk => by rw [num_step (by omega)]; simp [num]; simp at h0; omega
  | k + 1, hk => by
    have ih := num_bound h8 h0 k (by omega)
    rw [num_step (by omega), Nat.pow_succ]
    have hx : l.getD (k + 1) 0 < 256 := byte_lt h8 (by decide) _
    omega
theorem num_room {l : List Nat} (h8 : ∀ x ∈ l, x < 256) (h0 : l.getD 0 0 ≤ 64) {k : Nat} (hk : k ≤ l.length) (hk7 : k ≤ 7) : num (l.take k) * 256 + 255 < 9223372036854775807 := by
  cases k with
  | zero => simp [num]
  | succ k =>
    have h := num_bound h8 h0 k hk
    have hp : 256 ^ k ≤ 256 ^ 6 := Nat.pow_le_pow_right (by decide) (by omega)
    have e : (256 : Nat) ^ 6 = 281474976710656 := by decide
    rw [e] at hp
    omega
theorem num_top {l : List Nat} (hl : 8 ≤ l.length) (h8 : ∀ x ∈ l, x < 256) : (64 < l.getD 0 0 → 4611686018427387904 < num (l.take 8)) := by
  intro h0
  obtain ⟨a, b, c, d, e, f, g, hh, h9⟩ := list8 (l := l.take 8) (by rw [List.length_take]; omega)
  have e0 : a = l.getD 0 0 := by
    have : (l.take 8).getD 0 0 = l.getD 0 0 := by
      rw [List.getD_eq_getElem?_getD, List.getD_eq_getElem?_getD, List.getElem?_take_of_lt (by decide)]
    rw [h9] at this
    exact this
  rw [h9, num8]
  omega
set_option maxRecDepth 100000 in
set_option maxHeartbeats 8000000 in
theorem ropen_rest (key b : List Nat) (dir : Int) (ka : Option Addr) (kc : Nat) (ba : Option Addr) (bc : Nat) (w : World) (hk : Byts w ka kc key) (hb : Byts w ba bc b) (hkl : key.length ≤ 200) (h1 : 26 ≤ b.length) (h2 : b.length ≤ 512) (hd : IntKind.i64.wrap dir = dir) :
    Calls Tryd.prog 16 #[.slice ka key.length kc, .int .i64 dir, .slice ba b.length bc] w fun e w' => ShownF w w' ((open_ key dir b).1) (open_ key dir b).2 e := by
  have HDW := Lib.hid hd
  have HK := Lib.hid hk
  have HBB := Lib.hid hb
  have HKL := Lib.hid hkl
  have H8 := Lib.hid hb.small
  have hl1 : decide ((b.length : Int) < 26) = false := by simp; omega
  have hl2 : decide ((512 : Int) < (b.length : Int)) = false := by simp; omega
  obtain ⟨m, hm⟩ : ∃ m, b.length = m + 16 := ⟨b.length - 16, by omega⟩
  have HM := Lib.hid hm
  have HM1 := Lib.hid (show 10 ≤ m by omega)
  have HM2 := Lib.hid (show m ≤ 496 by omega)
  have hcap : b.length ≤ bc := by obtain ⟨_, _, e, hc, _⟩ := hb.at_; injection e with _ _ e; omega
  have em : IntKind.i64.wrap ((b.length : Int) - 16) = (m : Int) := by rw [IntWalk.i64_in] <;> omega
  have hm0 : (0 : Int) ≤ (m : Int) := by omega
  have hmc : (m : Int) ≤ (bc : Int) := by omega
  have hml : (m : Int) ≤ (b.length : Int) := by omega
  have HR1 := fun w => run_h ba b.length bc m (by omega) w
  have HR2 : ∀ w, (Instr.slice 22 (.slice ba b.length bc) (some (.int .i64 (m : Int))) none none).run Tryd.prog w = .ok (.slice (cutA ba m bc) 16 (bc - m)) w := fun w => by
    rw [run_l ba b.length bc m (by omega) w, show b.length - m = 16 by omega]
  have HR3 : ∀ w, (Instr.slice 22 (.slice ba b.length bc) (some (.int .i64 10)) (some (.int .i64 (m : Int))) none).run Tryd.prog w = .ok (.slice (cutA ba 10 bc) (m - 10) (bc - 10)) w := fun w => by
    have := run_lh ba b.length bc 10 (m - 10) (by omega) w
    rw [show ((10 : Nat) : Int) + ((m - 10 : Nat) : Int) = (m : Int) by omega] at this
    exact this
  replace HR3 := Lib.hid HR3
  have HT := Lib.hid (bytes_h hb.at_ (show m ≤ b.length by omega))
  have HU := Lib.hid (show BytesIn w (.slice (cutA ba m bc) 16 (bc - m)) (b.drop m) from by have := bytes_l hb.at_ (show m ≤ b.length by omega); rwa [show b.length - m = 16 by omega] at this)
  have HV := Lib.hid (show BytesIn w (.slice (cutA ba 10 bc) (m - 10) (bc - 10)) ((b.take m).drop 10) from by
    have := bytes_lh (k := 10) (n := m - 10) hb.at_ (by omega)
    rwa [← List.drop_take] at this)
  have HVN := Lib.hid (show cutA ba 10 bc = none → m - 10 = 0 ∧ bc - 10 = 0 from fun h => by have := hb.nil (cutA_none h); omega)
  have HVL := Lib.hid (show ((b.take m).drop 10).length = m - 10 by rw [List.length_drop, List.length_take]; omega)
  have HBN := Lib.hid (show ba = none → m = 0 ∧ bc = 0 from fun h => by have := hb.nil h; omega)
  have HOP := Lib.hid (show open_ key dir b = if tag key (b.take m) ≠ b.drop m then (none_, 11) else if b.getD 0 0 ≠ 1 ∨ (b.getD 1 0 : Int) ≠ dir then (none_, 13) else if (dir ≠ 0 ∧ dir ≠ 1) ∨ num ((b.drop 2).take 8) < 1 ∨ 4611686018427387904 < num ((b.drop 2).take 8) then (none_, 1) else (⟨dir, num ((b.drop 2).take 8), (b.take m).drop 10⟩, 0) from by
    unfold open_
    rw [if_neg (by omega), if_neg (by omega), show b.length - 16 = m by omega])
  have HTG := Lib.hid fun W (hb : Below w.heap.size w W) => Sha.rtag_any ka key.length kc ba m bc key (b.take m) W HKL.out (by have := HM2.out; omega) rfl (by rw [List.length_take]; omega) HK.out.small (fun x hx => H8.out x (List.mem_of_mem_take hx)) (HK.out.below hb).at_ (bytes_below HT.out hb) HK.out.nil HBN.out
  have HSA := Lib.hid fun W v1 (hb : Below w.heap.size w W) (h1 : BytesIn W v1 (tag key (b.take m))) => Sam.same_gen v1 _ _ _ W h1 (bytes_below HU.out hb) (tag_small _ _) (fun x hx => H8.out x (List.mem_of_mem_drop hx)) (by rw [tag_len]; decide)
  have HB := Lib.hid (al_any w (.cells #[.int .i64 0, .int .i64 0, .slice none 0 0] 24))
  have HX := Lib.hid (heap_alloc_new w (.cells #[.int .i64 0, .int .i64 0, .slice none 0 0] 24))
  generalize open_ key dir b = o at HOP ⊢
  have HBS := Lib.hid (show ∀ x ∈ (b.take m).drop 10, x < 256 from fun x hx => H8.out x (List.mem_of_mem_take (List.mem_of_mem_drop hx)))
  generalize hbd : (b.take m).drop 10 = bd at HV HVL HOP HBS
  clear hbd
  clear hk hb hkl h1 h2 hd hm hcap
  generalize hr : decide (tag key (b.take m) = b.drop m) = r at HSA
  replace hr := Lib.hid hr
  have HTE := Lib.hid (show (Sha.hmac key (b.take m)).take 16 = tag key (b.take m) from rfl)
  rw [HTE.out] at HTG
  go_enter Tryd.func16, Tryd.ntmps16
  go_upto_region 1 with (fail)
  generalize w.alloc _ = w1 at *
  go_upto_region 6 with (fail)
  clear hl1 hl2
  go_region_held3 (fun W' => Below w1.heap.size w1 W')
    (first | with_reducible exact (Below.refl _ _).drew | with_reducible exact (Below.refl _ _) | with_reducible exact kept_trans (by assumption) (Six.below_drewN _ _ _) | with_reducible exact kept_trans (by assumption) hbt)
    (first
      | (go_at_call 22; with_reducible refine (HTG.out _ (kept_trans HB.out (by assumption))).mono ?_; rintro e wt ⟨ga, gc, rfl, hgt, hbt⟩)
      | (go_at_call 12; with_reducible refine (HSA.out _ _ (kept_trans HB.out (by assumption)) hgt).mono ?_; rintro e ws ⟨rfl, j, rfl⟩))
  have hh : Below w1.heap.size w1 (wt.drewN j) := by assumption
  have K2 := Lib.hid (kept_trans HB.out hh)
  have X2 := Lib.hid (blk HX.out hh)
  clear hgt hbt hh HTG HSA HR1 HR2 HT HU HTE
  generalize wt.drewN j = w2 at *
  have HRR := hr.out
  clear hr HX HB
  cases r with
  | false =>
    obtain rfl : o = (none_, 11) := by rw [HOP.out, if_pos (of_decide_eq_false HRR)]
    clear HOP
    have SF := Lib.hid (over3f w2 w.heap.size 24 _ _ _ (.int .i64 0) (.int .i64 0) (.slice none 0 0) X2.out)
    obtain ⟨y0, y1, y2⟩ := cells3 X2.out
    obtain ⟨f0, f1, f2⟩ := free3 X2.out
    go_wp2_with fail
    clear y0 y1 y2 f0 f1 f2
    generalize ((w2.setCell _ _).setCell _ _).setCell _ _ = w9 at *
    exact bodyPost_ret (v := .tuple #[.agg #[.int .i64 0, .int .i64 0, .slice none 0 0], .int .i64 11]) (results_cell_row_tmp rfl _ _ _ w.heap.size _ rfl (run_loadVar_row _ w.heap.size 24 24 _ (0, 0) _ SF.out.1 Tryd.underlying24 rfl (by kernel_rfl)) (.int .i64 11) rfl) rfl ⟨none, 0, rfl, byts_nil _, K2.out.grown SF.out.2 K2.out.size (by intro g hg; injection hg with hg; omega)⟩
  | true =>
    have HOP := Lib.hid (HOP.out.trans (if_neg (fun h => h (of_decide_eq_true HRR))))
    have HLL := Lib.hid (show 26 ≤ b.length by have := HM.out; have := HM1.out; omega)
    obtain ⟨g, off, rfl, HCL⟩ : ∃ g off, ba = some ⟨g, off, none⟩ ∧ Hid (∀ i, i < b.length → w2.cell? ⟨g, off + i, none⟩ = some (.int .u8 (b.getD i 0))) := by
      obtain ⟨ad, c, hv, hcap, hc⟩ := (bytes_below HBB.out.at_ K2.out)
      injection hv with e1 e2 e3
      subst e1 e3
      rcases hc with h0 | ⟨g, off, h0, hc⟩
      · have := HLL.out; rw [h0] at this; simp at this
      · exact ⟨g, off, h0, Lib.hid hc⟩
    have c0 : w2.cell? ⟨g, off, none⟩ = some (.int .u8 (b.getD 0 0)) := HCL.out 0 (by have := HLL.out; omega)
    have c1 := HCL.out 1 (by have := HLL.out; omega)
    have c2 := HCL.out 2 (by have := HLL.out; omega)
    have hn0 : (0 : Int) < (b.length : Int) := by have := HLL.out; omega
    have hn1 : (1 : Int) < (b.length : Int) := by have := HLL.out; omega
    have hn2 : (2 : Int) < (b.length : Int) := by have := HLL.out; omega
    have HX1 := Lib.hid (show b.getD 1 0 < 256 from byte_lt H8.out (by decide) _)
    have hw1 : wrap64 ((b.getD 1 0 : Nat) : Int) = ((b.getD 1 0 : Nat) : Int) := by have := HX1.out; rw [IntWalk.wrap64_in] <;> omega
    have HG2 := Lib.hid (show (b.drop 2).getD 0 0 = b.getD 2 0 from by rw [List.getD_eq_getElem?_getD, List.getD_eq_getElem?_getD, List.getElem?_drop])
    clear HRR
    have HX0 := Lib.hid (show b.getD 0 0 < 256 from byte_lt H8.out (by decide) _)
    have HX2 := Lib.hid (show b.getD 2 0 < 256 from byte_lt H8.out (by decide) _)
    generalize b.getD 0 0 = x0 at c0 HOP HX0
    generalize b.getD 1 0 = x1 at c1 HOP HX1 hw1
    generalize b.getD 2 0 = x2 at c2 HG2 HX2
    by_cases hx0 : x0 = 1
    case neg =>
      obtain rfl : o = (none_, 13) := by rw [HOP.out, if_pos (.inl hx0)]
      clear HOP
      have hx0 : ¬ ((x0 : Int) = 1) := by omega
      have SF := Lib.hid (over3f w2 w.heap.size 24 _ _ _ (.int .i64 0) (.int .i64 0) (.slice none 0 0) X2.out)
      obtain ⟨y0, y1, y2⟩ := cells3 X2.out
      obtain ⟨f0, f1, f2⟩ := free3 X2.out
      go_wp2_with fail
      clear y0 y1 y2 f0 f1 f2
      generalize ((w2.setCell _ _).setCell _ _).setCell _ _ = w9 at *
      exact bodyPost_ret (v := .tuple #[.agg #[.int .i64 0, .int .i64 0, .slice none 0 0], .int .i64 13]) (results_cell_row_tmp rfl _ _ _ w.heap.size _ rfl (run_loadVar_row _ w.heap.size 24 24 _ (0, 0) _ SF.out.1 Tryd.underlying24 rfl (by kernel_rfl)) (.int .i64 13) rfl) rfl ⟨none, 0, rfl, byts_nil _, K2.out.grown SF.out.2 K2.out.size (by intro g hg; injection hg with hg; omega)⟩
    case pos =>
    replace c0 : w2.cell? ⟨g, off, none⟩ = some (.int .u8 1) := by rw [c0, hx0]; rfl
    by_cases hx1 : (x1 : Int) = dir
    case neg =>
      obtain rfl : o = (none_, 13) := by rw [HOP.out, if_pos (.inr hx1)]
      clear HOP hx0
      have hxd : ((x1 : Int) != dir) = true := by simp [bne, hx1]
      have SF := Lib.hid (over3f w2 w.heap.size 24 _ _ _ (.int .i64 0) (.int .i64 0) (.slice none 0 0) X2.out)
      obtain ⟨y0, y1, y2⟩ := cells3 X2.out
      obtain ⟨f0, f1, f2⟩ := free3 X2.out
      go_wp2_with fail
      clear y0 y1 y2 f0 f1 f2
      generalize ((w2.setCell _ _).setCell _ _).setCell _ _ = w9 at *
      exact bodyPost_ret (v := .tuple #[.agg #[.int .i64 0, .int .i64 0, .slice none 0 0], .int .i64 13]) (results_cell_row_tmp rfl _ _ _ w.heap.size _ rfl (run_loadVar_row _ w.heap.size 24 24 _ (0, 0) _ SF.out.1 Tryd.underlying24 rfl (by kernel_rfl)) (.int .i64 13) rfl) rfl ⟨none, 0, rfl, byts_nil _, K2.out.grown SF.out.2 K2.out.size (by intro g hg; injection hg with hg; omega)⟩
    case pos =>
    subst hx1
    have hxd : ((x1 : Int) != (x1 : Int)) = false := by simp
    by_cases hx2 : 64 < x2
    case pos =>
      obtain rfl : o = (none_, 1) := by rw [HOP.out, if_neg (by simp; omega), if_pos (.inr (.inr (num_top (by have := HLL.out; rw [List.length_drop]; omega) (fun x hx => H8.out x (List.mem_of_mem_drop hx)) (by rw [HG2.out]; exact hx2))))]
      clear HOP
      have hx2 : (64 : Int) < (x2 : Int) := by omega
      have SF := Lib.hid (over3f w2 w.heap.size 24 _ _ _ (.int .i64 0) (.int .i64 0) (.slice none 0 0) X2.out)
      obtain ⟨y0, y1, y2⟩ := cells3 X2.out
      obtain ⟨f0, f1, f2⟩ := free3 X2.out
      go_wp2_with fail
      clear y0 y1 y2 f0 f1 f2
      generalize ((w2.setCell _ _).setCell _ _).setCell _ _ = w9 at *
      exact bodyPost_ret (v := .tuple #[.agg #[.int .i64 0, .int .i64 0, .slice none 0 0], .int .i64 1]) (results_cell_row_tmp rfl _ _ _ w.heap.size _ rfl (run_loadVar_row _ w.heap.size 24 24 _ (0, 0) _ SF.out.1 Tryd.underlying24 rfl (by kernel_rfl)) (.int .i64 1) rfl) rfl ⟨none, 0, rfl, byts_nil _, K2.out.grown SF.out.2 K2.out.size (by intro g hg; injection hg with hg; omega)⟩
    case neg =>
    have hx2 : (x2 : Int) ≤ 64 := by omega
    by_cases hx1 : 1 < x1
    case pos =>
      obtain rfl : o = (none_, 1) := by rw [HOP.out, if_neg (by simp; omega), if_pos (.inl (by omega))]
      clear HOP
      have hx1 : (1 : Int) < (x1 : Int) := by omega
      have SF := Lib.hid (over3f w2 w.heap.size 24 _ _ _ (.int .i64 0) (.int .i64 0) (.slice none 0 0) X2.out)
      obtain ⟨y0, y1, y2⟩ := cells3 X2.out
      obtain ⟨f0, f1, f2⟩ := free3 X2.out
      go_wp2_with fail
      clear y0 y1 y2 f0 f1 f2
      generalize ((w2.setCell _ _).setCell _ _).setCell _ _ = w9 at *
      exact bodyPost_ret (v := .tuple #[.agg #[.int .i64 0, .int .i64 0, .slice none 0 0], .int .i64 1]) (results_cell_row_tmp rfl _ _ _ w.heap.size _ rfl (run_loadVar_row _ w.heap.size 24 24 _ (0, 0) _ SF.out.1 Tryd.underlying24 rfl (by kernel_rfl)) (.int .i64 1) rfl) rfl ⟨none, 0, rfl, byts_nil _, K2.out.grown SF.out.2 K2.out.size (by intro g hg; injection hg with hg; omega)⟩
    case neg =>
    have hx1 : (x1 : Int) ≤ 1 := by omega
    have hx0e := Lib.hid hx0
    have HX11 := Lib.hid hx1
    have HL8 := Lib.hid (show 8 ≤ (b.drop 2).length by have := HLL.out; rw [List.length_drop]; omega)
    have H8L := Lib.hid (show ∀ x ∈ b.drop 2, x < 256 from fun x hx => H8.out x (List.mem_of_mem_drop hx))
    have HG0 := Lib.hid (show (b.drop 2).getD 0 0 ≤ 64 by rw [HG2.out]; omega)
    have HCK := Lib.hid (show ∀ k, k < 8 → w2.cell? ⟨g, off + (k + 2), none⟩ = some (.int .u8 ((b.drop 2).getD k 0)) from fun k hk => by
      have hg : (b.drop 2).getD k 0 = b.getD (k + 2) 0 := by rw [List.getD_eq_getElem?_getD, List.getD_eq_getElem?_getD, List.getElem?_drop, Nat.add_comm]
      rw [hg]
      exact HCL.out (k + 2) (by have := HLL.out; omega))
    have HBL := Lib.hid (show (10 : Int) < (b.length : Int) by have := HLL.out; omega)
    generalize hl : b.drop 2 = l at HL8 H8L HG0 HCK HOP
    clear hl HG2
    go_wp2_with fail
    clear c0 c1 c2 hn0 hn1 hn2 hw1 hx0 hx1 hx2 hxd
    go_loopg [9, 10] 9 (fun mm sv iv wr => ∃ (k j : Nat), k ≤ 8 ∧ mm = 9 - k ∧ j = k + 2 ∧ sv = .int .i64 (num (l.take k) : Nat) ∧ iv = .int .i64 (j : Int) ∧ wr = w2)
    case atStart => exact ⟨0, 2, Nat.zero_le _, rfl, rfl, rfl, rfl, rfl⟩
    case round =>
      obtain ⟨k, j, hk, rfl, hj, rfl, rfl, rfl⟩ := hrel
      have HK8 := Lib.hid hk
      by_cases hlt : k < 8
      · have hj0 : (0 : Int) ≤ (j : Int) := by omega
        have hj1 : (j : Int) < (b.length : Int) := by have := HBL.out; omega
        have hj2 : (j : Int) < 10 := by omega
        have ck := HCK.out k hlt
        rw [← hj] at ck
        have HRM := Lib.hid (num_room H8L.out HG0.out (k := k) (by have := HL8.out; omega) (by omega))
        have HST := Lib.hid (num_step (l := l) (k := k) (by have := HL8.out; omega))
        have HXK := Lib.hid (show l.getD k 0 < 256 from byte_lt H8L.out (by decide) _)
        generalize l.getD k 0 = x at ck HST HXK
        generalize num (l.take k) = n at HRM HST ⊢
        have e1 : wrap64 ((n : Int) * 256) = (n : Int) * 256 := by have := HRM.out; rw [IntWalk.wrap64_in] <;> omega
        have e2 : wrap64 (x : Int) = (x : Int) := by have := HXK.out; rw [IntWalk.wrap64_in] <;> omega
        have e3 : wrap64 ((n : Int) * 256 + (x : Int)) = (n : Int) * 256 + (x : Int) := by have := HRM.out; have := HXK.out; rw [IntWalk.wrap64_in] <;> omega
        have e4 : wrap64 ((j : Int) + 1) = (j : Int) + 1 := by rw [IntWalk.wrap64_in] <;> omega
        have HJ := Lib.hid hj
        have HLT := Lib.hid hlt
        clear hk hlt hj em hm0 hmc hml hx1 hx2 HBB HV HVN HVL HCL HCK
        go_wp2_with fail
        go_roundg (9 - (k + 1))
        case measure => have := HLT.out; omega
        case rel => exact ⟨k + 1, j + 1, HLT.out, rfl, by have := HJ.out; omega, by rw [HST.out]; first | exact congrArg (Value.int .i64) e3 | rfl, by first | exact congrArg (Value.int .i64) e4 | rfl, rfl⟩
      · obtain rfl : k = 8 := by omega
        obtain rfl : j = 10 := by omega
        clear hk hlt hj
        generalize num (l.take 8) = n at *
        have HBD := Lib.hid (show bd.length ≤ 486 by have := HVL.out; have := HM2.out; omega)
        have HV2 := Lib.hid (bytes_below HV.out K2.out)
        clear HV HVN HCK HCL HL8 H8L HG0 HK8
        have HA := al_any wr (.cells #[] 5)
        have O3 := Lib.hid (own_lit wr wr.heap.size [] (Nat.le_refl _) (by decide))
        have K3 := kept_hid K2 HA
        have V3 := Lib.hid (bytes_below HV2.out HA)
        have X3 := Lib.hid (blk X2.out HA)
        have L3 := Lib.hid HA.size
        have HBX := Lib.hid (there_lt X2.out)
        clear HA HV2
        have hr3 := HR3.out
        go_wp2_with (at_builtin; refine wpList_mark ?_)
        clear hm0 hmc hml em hr3
        refine Lib.hid ?_
        refine append_own rfl (.tmp 69) (.tmp 73) rfl wr.heap.size (.slice (some ⟨wr.heap.size, 0, none⟩) 0 0) 0 [] rfl O3.out (cutA (some ⟨g, off, none⟩) 10 bc) (m - 10) (bc - 10) bd rfl HVL.out (fun h => absurd h (by unfold cutA; split <;> simp)) (bytes_src V3.out) (by have := HM2.out; omega) L3.out ?_
        intro v' w4 hown hgr _
        have HG3 := own_ge O3.out
        have O4 := Lib.hid (show w4.ownsRow wr.heap.size 5 1 v' bd.length (u8s bd) from by rw [Nat.zero_add, List.nil_append, ← HVL.out] at hown; exact hown)
        have K4 := Lib.hid (K3.out.grown hgr K3.out.size (fun g hg => Nat.le_trans K2.out.size (HG3 g hg)))
        have X4 := Lib.hid (show w4.heap[w.heap.size]? = _ from (Below.refl wr.heap.size _ |>.grown hgr L3.out HG3).block _ HBX.out |>.trans X3.out)
        obtain ⟨va, vc, rfl⟩ := own_form O4.out
        clear hown hgr HG3 O3 K3 X3 V3 L3
        have HA5 := al_any w4 (.cells #[.int .i64 (x1 : Int), .int .i64 (n : Int), .slice va bd.length vc] 24)
        have X5 := Lib.hid (heap_alloc_new w4 (.cells #[.int .i64 (x1 : Int), .int .i64 (n : Int), .slice va bd.length vc] 24))
        have O5 := Lib.hid (own_below O4.out HA5)
        have K5 := kept_hid K4 HA5
        have R5 := Lib.hid (blk X4.out HA5)
        have HZ := Lib.hid (show w.heap.size < wr.heap.size from HBX.out)
        clear O4 K4 X4 HA5
        go_upto_region 18 with (fail)
        generalize w4.heap.size = B at *
        generalize w4.alloc _ = w5 at *
        obtain ⟨d0, d1, d2⟩ := cells3 X5.out
        have HRW := Lib.hid (rwrong_any ⟨x1, n, bd⟩ va vc w5)
        have HWR := Lib.hid (show wrong ⟨x1, n, bd⟩ = if ((x1 : Int) ≠ 0 ∧ (x1 : Int) ≠ 1) ∨ (n : Int) < 1 ∨ 4611686018427387904 < (n : Int) then 1 else 0 from by
          unfold wrong
          simp only
          rw [if_neg (show ¬ 486 < bd.length by have := HBD.out; omega)])
        generalize hwv : wrong ⟨x1, n, bd⟩ = wv at HRW HWR
        clear hwv
        go_wp2_with fail
        with_reducible refine HRW.out.mono ?_
        rintro e w6 ⟨rfl, hb⟩
        have O6 := Lib.hid (own_below O5.out hb)
        have K6 := kept_hid K5 hb
        have R6 := Lib.hid (blk R5.out hb)
        have X6 := Lib.hid (blk X5.out hb)
        clear hb O5 K5 R5 X5 HRW d0 d1 d2
        have HO2 := Lib.hid (show o = if ((x1 : Int) ≠ 0 ∧ (x1 : Int) ≠ 1) ∨ (n : Int) < 1 ∨ 4611686018427387904 < (n : Int) then (none_, 1) else (⟨x1, n, bd⟩, 0) from by
          have := HOP.out
          rw [this, if_neg (by have := hx0e.out; simp; omega)]
          have e : (((x1 : Int) ≠ 0 ∧ (x1 : Int) ≠ 1) ∨ n < 1 ∨ 4611686018427387904 < n) ↔ (((x1 : Int) ≠ 0 ∧ (x1 : Int) ≠ 1) ∨ (n : Int) < 1 ∨ 4611686018427387904 < (n : Int)) := by omega
          simp only [e])
        clear HOP
        by_cases hc : ((x1 : Int) ≠ 0 ∧ (x1 : Int) ≠ 1) ∨ (n : Int) < 1 ∨ 4611686018427387904 < (n : Int)
        · obtain rfl : wv = 1 := by rw [HWR.out, if_pos hc]
          obtain rfl : o = (none_, 1) := by rw [HO2.out, if_pos hc]
          clear hc HO2 HWR
          have SF := Lib.hid (over3f w6 w.heap.size 24 _ _ _ (.int .i64 0) (.int .i64 0) (.slice none 0 0) R6.out)
          obtain ⟨y0, y1, y2⟩ := cells3 R6.out
          obtain ⟨f0, f1, f2⟩ := free3 R6.out
          go_wp2_with fail
          clear y0 y1 y2 f0 f1 f2
          generalize ((w6.setCell _ _).setCell _ _).setCell _ _ = w9 at *
          exact bodyPost_ret (v := .tuple #[.agg #[.int .i64 0, .int .i64 0, .slice none 0 0], .int .i64 1]) (results_cell_row_tmp rfl _ _ _ w.heap.size _ rfl (run_loadVar_row _ w.heap.size 24 24 _ (0, 0) _ SF.out.1 Tryd.underlying24 rfl (by kernel_rfl)) (.int .i64 1) rfl) rfl ⟨none, 0, rfl, byts_nil _, K6.out.grown SF.out.2 K6.out.size (by intro g hg; injection hg with hg; omega)⟩
        · obtain rfl : wv = 0 := by rw [HWR.out, if_neg hc]
          obtain rfl : o = (⟨x1, n, bd⟩, 0) := by rw [HO2.out, if_neg hc]
          clear hc HO2 HWR
          obtain ⟨d0, d1, d2⟩ := cells3 X6.out
          have SF := Lib.hid (over3f w6 w.heap.size 24 _ _ _ (.int .i64 (x1 : Int)) (.int .i64 (n : Int)) (.slice va bd.length vc) R6.out)
          obtain ⟨y0, y1, y2⟩ := cells3 R6.out
          obtain ⟨f0, f1, f2⟩ := free3 R6.out
          go_wp2_with fail
          clear y0 y1 y2 f0 f1 f2 d0 d1 d2
          have O9 := Lib.hid (own_other O6.out SF.out.2 HZ.out)
          generalize ((w6.setCell _ _).setCell _ _).setCell _ _ = w9 at *
          exact bodyPost_ret (v := .tuple #[.agg #[.int .i64 (x1 : Int), .int .i64 (n : Int), .slice va bd.length vc], .int .i64 0]) (results_cell_row_tmp rfl _ _ _ w.heap.size _ rfl (run_loadVar_row _ w.heap.size 24 24 _ (0, 0) _ SF.out.1 Tryd.underlying24 rfl (by kernel_rfl)) (.int .i64 0) rfl) rfl ⟨va, vc, rfl, byts_own O9.out HBS.out, K6.out.grown SF.out.2 K6.out.size (by intro g hg; injection hg with hg; omega)⟩
theorem ropen_any (key b : List Nat) (dir : Int) (ka : Option Addr) (kc : Nat) (ba : Option Addr) (bc : Nat) (w : World) (hk : Byts w ka kc key) (hb : Byts w ba bc b) (hkl : key.length ≤ 200) (hd : IntKind.i64.wrap dir = dir) :
    Calls Tryd.prog 16 #[.slice ka key.length kc, .int .i64 dir, .slice ba b.length bc] w fun e w' => ShownF w w' (open_ key dir b).1 (open_ key dir b).2 e := by
  by_cases h1 : b.length < 26
  · rw [show open_ key dir b = (none_, 2) from by unfold open_; rw [if_pos h1]]
    exact ropen_cut key b dir ka kc ba bc w hk hb hkl h1
  · by_cases h2 : 512 < b.length
    · rw [show open_ key dir b = (none_, 6) from by unfold open_; rw [if_neg h1, if_pos h2]]
      exact ropen_long key b dir ka kc ba bc w hk hb hkl h2
    · exact ropen_rest key b dir ka kc ba bc w hk hb hkl (by omega) (by omega) hd
end Frm
end Go.Proofs.YtdiidfkmmgcjmaaDoor
