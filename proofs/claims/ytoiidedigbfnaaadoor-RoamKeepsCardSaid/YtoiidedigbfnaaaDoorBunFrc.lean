/- FrmLow, FrmCop in one text (by tools/bundle.py). -/
import Derived.Test.YtoiidedigbfnaaaDoorBunFru
import Derived.Deep.Cut
import Derived.Deep.LoopGhost
import Derived.Deep.RegionLaw
import Derived.Deep.RegionHeld3
import Derived.IntWalk
import Derived.Lib.SmallJoins
import Derived.Test.YtoiidedigbfnaaaDoorBunShc
/- isDir, isSeq, appendSeq, readSeq of package frame. Written by tools/gen_frm_code.py. -/
namespace Go.Proofs.YtoiidedigbfnaaaDoor
open Go.RowKit Sha Six Apd Cut Err
set_option linter.unusedVariables false
set_option linter.unusedSimpArgs false
namespace Frm
set_option maxRecDepth 100000 in
set_option maxHeartbeats 8000000 in
theorem isDir_any (d : Int) (w : World) : Calls Tryd.prog 23 #[.int .i64 d] w fun e w' => e = .returned (.bool ((d == 0) || (d == 1))) ∧ Below w.heap.size w w' := by
  generalize h0 : (d == 0) = x0
  generalize h1 : (d == 1) = x1
  cases x0 <;> cases x1 <;>
  · go_enter Tryd.func23, Tryd.ntmps23
    go_wp2_with fail
    go_ret
    exact ⟨rfl, Below.refl _ _⟩
set_option maxRecDepth 100000 in
set_option maxHeartbeats 8000000 in
theorem isSeq_any (q : Int) (w : World) : Calls Tryd.prog 22 #[.int .i64 q] w fun e w' => e = .returned (.bool (decide (1 ≤ q) && decide (q ≤ 4611686018427387904))) ∧ Below w.heap.size w w' := by
  by_cases h1 : 1 ≤ q
  · by_cases h2 : q ≤ 4611686018427387904
    · rw [decide_eq_true h1, decide_eq_true h2]
      go_enter Tryd.func22, Tryd.ntmps22
      go_wp2_with fail
      go_ret
      exact ⟨rfl, Below.refl _ _⟩
    · rw [decide_eq_true h1, decide_eq_false h2]
      go_enter Tryd.func22, Tryd.ntmps22
      go_wp2_with fail
      go_ret
      exact ⟨rfl, Below.refl _ _⟩
  · rw [decide_eq_false h1]
    go_enter Tryd.func22, Tryd.ntmps22
    go_wp2_with fail
    go_ret
    exact ⟨rfl, Below.refl _ _⟩
set_option maxRecDepth 100000 in
set_option maxHeartbeats 8000000 in
theorem readSeq_any (l : List Nat) (la : Option Addr) (n lc : Nat) (w : World) (hb : BytesIn w (.slice la n lc) l) (hn : l.length = n) (h8 : ∀ x ∈ l, x < 256) (hl : l.length = 8) :
    Calls Tryd.prog 21 #[.slice la n lc] w fun e w' => e = .returned (.int .i64 (seqv l)) ∧ Below w.heap.size w w' := by
  subst hn
  obtain ⟨g, off, rfl, HCL⟩ : ∃ g off, la = some ⟨g, off, none⟩ ∧ Hid (∀ i, i < l.length → w.cell? ⟨g, off + i, none⟩ = some (.int .u8 (l.getD i 0))) := by
    obtain ⟨ad, c, hv, hcap, hc⟩ := hb
    injection hv with e1 e2 e3
    subst e1 e3
    rcases hc with h0 | ⟨g, off, h0, hc⟩
    · rw [h0] at hl; cases hl
    · exact ⟨g, off, h0, Lib.hid hc⟩
  have H8 := Lib.hid h8
  have HL := Lib.hid hl
  have HB8 := Lib.hid fun k (hk : k < 8) => num_pow (l := l) h8 k (by omega)
  have HSV := Lib.hid (show seqv l = wrap64 ((num (l.take 8) : Nat) : Int) from by rw [List.take_of_length_le (by omega)]; rfl)
  clear hb h8
  generalize seqv l = sv at HSV ⊢
  rw [hl]
  clear hl
  go_enter Tryd.func21, Tryd.ntmps21
  go_wp2_with fail
  go_loopg [3, 8] 9 (fun mm sv iv wr => ∃ (k : Nat), k ≤ 8 ∧ mm = 9 - k ∧ sv = .int .i64 (wrap64 ((num (l.take k) : Nat) : Int)) ∧ iv = .int .i64 (k : Int) ∧ wr = w)
  case atStart => exact ⟨0, Nat.zero_le _, rfl, by simp [num, wrap64], rfl, rfl⟩
  case round =>
    obtain ⟨k, hk, rfl, rfl, rfl, rfl⟩ := hrel
    by_cases hlt : k < 8
    · have hj0 : (0 : Int) ≤ (k : Int) := by omega
      have hj1 : (k : Int) < 8 := by omega
      have ck := HCL.out k (by rw [HL.out]; exact hlt)
      have HST := Lib.hid (num_step (l := l) (k := k) (by rw [HL.out]; exact hlt))
      have HXK := Lib.hid (show l.getD k 0 < 256 from byte_lt H8.out (by decide) _)
      have HPW := Lib.hid (show num (l.take k) < 72057594037927936 from Nat.lt_of_lt_of_le (HB8.out k hlt) (Nat.le_trans (Nat.pow_le_pow_right (by decide) (show k ≤ 7 by omega)) (by decide)))
      generalize l.getD k 0 = x at ck HST HXK
      generalize num (l.take k) = n at HPW HST ⊢
      have e0 : wrap64 (n : Int) = (n : Int) := by have := HPW.out; rw [IntWalk.wrap64_in] <;> omega
      have e2 : wrap64 (x : Int) = (x : Int) := by have := HXK.out; rw [IntWalk.wrap64_in] <;> omega
      have e3 := or_wrap n x HXK.out HPW.out
      have e4 : wrap64 ((k : Int) + 1) = (k : Int) + 1 := by rw [IntWalk.wrap64_in] <;> omega
      have HLT := Lib.hid hlt
      rw [e0]
      clear hk hlt HCL H8 e0
      go_wp2_with fail
      go_roundg (9 - (k + 1))
      case measure => have := HLT.out; omega
      case rel => exact ⟨k + 1, HLT.out, rfl, by rw [HST.out]; first | exact congrArg (Value.int .i64) e3 | rfl, by first | exact congrArg (Value.int .i64) e4 | rfl, rfl⟩
    · obtain rfl : k = 8 := by omega
      rw [← HSV.out]
      clear hk hlt
      go_wp2_with fail
      go_ret
      exact ⟨rfl, Below.refl _ _⟩
end Frm
end Go.Proofs.YtoiidedigbfnaaaDoor
/- Open of package frame. Written by tools/gen_frm_code.py. -/
namespace Go.Proofs.YtoiidedigbfnaaaDoor
open Go.RowKit Sha Six Apd Cut Err
set_option linter.unusedVariables false
set_option linter.unusedSimpArgs false
namespace Frm
set_option maxRecDepth 100000 in
set_option maxHeartbeats 8000000 in
theorem fopen_cut (key b : List Nat) (dir : Int) (ka : Option Addr) (kc : Nat) (ba : Option Addr) (bc : Nat) (w : World) (h : b.length < 26) :
    Calls Tryd.prog 15 #[.slice ka key.length kc, .int .i64 dir, .slice ba b.length bc] w fun e w' => GaveF w w' (none_) 2 e := by
  have HB := Lib.hid (al_any w (.cells #[.int .i64 0, .int .i64 0, .slice none 0 0] 38))
  have HX := Lib.hid (heap_alloc_new w (.cells #[.int .i64 0, .int .i64 0, .slice none 0 0] 38))
  have h' : decide ((b.length : Int) < 26) = true := by simp; omega
  clear h
  go_enter Tryd.func15, Tryd.ntmps15
  go_upto_region 1 with (fail)
  generalize w.alloc _ = w1 at *
  have SF := Lib.hid (over3f w1 w.heap.size 38 _ _ _ (.int .i64 0) (.int .i64 0) (.slice none 0 0) HX.out)
  obtain ⟨y0, y1, y2⟩ := cells3 HX.out
  obtain ⟨f0, f1, f2⟩ := free3 HX.out
  go_wp2_with fail
  clear y0 y1 y2 f0 f1 f2
  generalize ((w1.setCell _ _).setCell _ _).setCell _ _ = w9 at *
  exact bodyPost_ret (v := .tuple #[.agg #[.int .i64 0, .int .i64 0, .slice none 0 0], .iface 56 (.int .i64 2)]) (results_cell_row_tmp rfl _ _ _ w.heap.size _ rfl (run_loadVar_row _ w.heap.size 38 38 _ (0, 0) _ SF.out.1 Tryd.underlying38 rfl (by kernel_rfl)) (.iface 56 (.int .i64 2)) rfl) rfl ⟨none, 0, rfl, World.ownsRow_nil _ _ _ _, HB.out.grown SF.out.2 HB.out.size (by intro g hg; injection hg with hg; omega)⟩
set_option maxRecDepth 100000 in
set_option maxHeartbeats 8000000 in
theorem fopen_long (key b : List Nat) (dir : Int) (ka : Option Addr) (kc : Nat) (ba : Option Addr) (bc : Nat) (w : World) (h : 512 < b.length) :
    Calls Tryd.prog 15 #[.slice ka key.length kc, .int .i64 dir, .slice ba b.length bc] w fun e w' => GaveF w w' (none_) 6 e := by
  have HB := Lib.hid (al_any w (.cells #[.int .i64 0, .int .i64 0, .slice none 0 0] 38))
  have HX := Lib.hid (heap_alloc_new w (.cells #[.int .i64 0, .int .i64 0, .slice none 0 0] 38))
  have h' : decide ((b.length : Int) < 26) = false := by simp; omega
  have h2 : decide ((512 : Int) < (b.length : Int)) = true := by simp; omega
  clear h
  go_enter Tryd.func15, Tryd.ntmps15
  go_upto_region 1 with (fail)
  generalize w.alloc _ = w1 at *
  have SF := Lib.hid (over3f w1 w.heap.size 38 _ _ _ (.int .i64 0) (.int .i64 0) (.slice none 0 0) HX.out)
  obtain ⟨y0, y1, y2⟩ := cells3 HX.out
  obtain ⟨f0, f1, f2⟩ := free3 HX.out
  go_wp2_with fail
  clear y0 y1 y2 f0 f1 f2
  generalize ((w1.setCell _ _).setCell _ _).setCell _ _ = w9 at *
  exact bodyPost_ret (v := .tuple #[.agg #[.int .i64 0, .int .i64 0, .slice none 0 0], .iface 56 (.int .i64 6)]) (results_cell_row_tmp rfl _ _ _ w.heap.size _ rfl (run_loadVar_row _ w.heap.size 38 38 _ (0, 0) _ SF.out.1 Tryd.underlying38 rfl (by kernel_rfl)) (.iface 56 (.int .i64 6)) rfl) rfl ⟨none, 0, rfl, World.ownsRow_nil _ _ _ _, HB.out.grown SF.out.2 HB.out.size (by intro g hg; injection hg with hg; omega)⟩
set_option maxRecDepth 100000 in
set_option maxHeartbeats 8000000 in
theorem fopen_rest (key b : List Nat) (dir : Int) (ka : Option Addr) (kc : Nat) (ba : Option Addr) (bc : Nat) (w : World) (hk : Byts w ka kc key) (hb : Byts w ba bc b) (hkl : key.length < 1000000) (h1 : 26 ≤ b.length) (h2 : b.length ≤ 512) (hd : IntKind.i64.wrap dir = dir) :
    Calls Tryd.prog 15 #[.slice ka key.length kc, .int .i64 dir, .slice ba b.length bc] w fun e w' => GaveF w w' ((open_ key dir b).1) (open_ key dir b).2 e := by
  have HDW := Lib.hid hd
  have HK := Lib.hid hk
  have HBB := Lib.hid hb
  have HKL := Lib.hid hkl
  have H8 := Lib.hid hb.small
  have hl1 : decide ((b.length : Int) < 26) = false := by simp; omega
  have hl2 : decide ((512 : Int) < (b.length : Int)) = false := by simp; omega
  obtain ⟨m, hm⟩ : ∃ m, b.length = m + 16 := ⟨b.length - 16, by omega⟩
  have HM := Lib.hid hm
  have HM1 := Lib.hid (show 10 ≤ m by omega)
  have HM2 := Lib.hid (show m ≤ 496 by omega)
  have hcap : b.length ≤ bc := by obtain ⟨_, _, e, hc, _⟩ := hb.at_; injection e with _ _ e; omega
  have em : IntKind.i64.wrap ((b.length : Int) - 16) = (m : Int) := by rw [IntWalk.i64_in] <;> omega
  have hm0 : (0 : Int) ≤ (m : Int) := by omega
  have hmc : (m : Int) ≤ (bc : Int) := by omega
  have hml : (m : Int) ≤ (b.length : Int) := by omega
  have HR1 := fun w => run_h ba b.length bc m (by omega) w
  have HR2 : ∀ w, (Instr.slice 22 (.slice ba b.length bc) (some (.int .i64 (m : Int))) none none).run Tryd.prog w = .ok (.slice (cutA ba m bc) 16 (bc - m)) w := fun w => by
    rw [run_l ba b.length bc m (by omega) w, show b.length - m = 16 by omega]
  have HR3 : ∀ w, (Instr.slice 22 (.slice ba b.length bc) (some (.int .i64 10)) (some (.int .i64 (m : Int))) none).run Tryd.prog w = .ok (.slice (cutA ba 10 bc) (m - 10) (bc - 10)) w := fun w => by
    have := run_lh ba b.length bc 10 (m - 10) (by omega) w
    rw [show ((10 : Nat) : Int) + ((m - 10 : Nat) : Int) = (m : Int) by omega] at this
    exact this
  have HR4 : ∀ w, (Instr.slice 22 (.slice ba b.length bc) (some (.int .i64 2)) (some (.int .i64 10)) none).run Tryd.prog w = .ok (.slice (cutA ba 2 bc) 8 (bc - 2)) w := fun w => by
    have := run_lh ba b.length bc 2 8 (by omega) w
    exact this
  replace HR2 := Lib.hid HR2
  replace HR3 := Lib.hid HR3
  replace HR4 := Lib.hid HR4
  have HT := Lib.hid (bytes_h hb.at_ (show m ≤ b.length by omega))
  have HU := Lib.hid (show BytesIn w (.slice (cutA ba m bc) 16 (bc - m)) (b.drop m) from by have := bytes_l hb.at_ (show m ≤ b.length by omega); rwa [show b.length - m = 16 by omega] at this)
  have HS := Lib.hid (show BytesIn w (.slice (cutA ba 2 bc) 8 (bc - 2)) ((b.drop 2).take 8) from bytes_lh (k := 2) (n := 8) hb.at_ (by omega))
  have HV := Lib.hid (show BytesIn w (.slice (cutA ba 10 bc) (m - 10) (bc - 10)) ((b.take m).drop 10) from by
    have := bytes_lh (k := 10) (n := m - 10) hb.at_ (by omega)
    rwa [← List.drop_take] at this)
  have HVL := Lib.hid (show ((b.take m).drop 10).length = m - 10 by rw [List.length_drop, List.length_take]; omega)
  have HVN := Lib.hid (show cutA ba 10 bc = none → m - 10 = 0 ∧ bc - 10 = 0 from fun h => by have := hb.nil (cutA_none h); omega)
  have HOP := Lib.hid (show open_ key dir b = if tag key (b.take m) ≠ b.drop m then (none_, 11) else if b.getD 0 0 ≠ 1 ∨ (b.getD 1 0 : Int) ≠ dir then (none_, 13) else if (dir ≠ 0 ∧ dir ≠ 1) ∨ num ((b.drop 2).take 8) < 1 ∨ 4611686018427387904 < num ((b.drop 2).take 8) then (none_, 1) else (⟨dir, num ((b.drop 2).take 8), (b.take m).drop 10⟩, 0) from by
    unfold open_
    rw [if_neg (by omega), if_neg (by omega), show b.length - 16 = m by omega])
  have HTE := Lib.hid (show (Sha.hmac key [b.take m].flatten).take 16 = tag key (b.take m) from by simp [tag])
  have HTGL := Lib.hid (tag_len key (b.take m))
  have HTG8 := Lib.hid (tag_small key (b.take m))
  have HT8 := Lib.hid (show ∀ x ∈ b.take m, x < 256 from fun x hx => H8.out x (List.mem_of_mem_take hx))
  have HTL := Lib.hid (show (b.take m).length = m by rw [List.length_take]; omega)
  have HUL := Lib.hid (show (b.drop m).length = 16 by rw [List.length_drop]; omega)
  have HU8 := Lib.hid (show ∀ x ∈ b.drop m, x < 256 from fun x hx => H8.out x (List.mem_of_mem_drop hx))
  have HSL := Lib.hid (show ((b.drop 2).take 8).length = 8 by rw [List.length_take, List.length_drop]; omega)
  have HS8 := Lib.hid (show ∀ x ∈ (b.drop 2).take 8, x < 256 from fun x hx => H8.out x (List.mem_of_mem_drop (List.mem_of_mem_take hx)))
  have HB := Lib.hid (al_any w (.cells #[.int .i64 0, .int .i64 0, .slice none 0 0] 38))
  have HX := Lib.hid (heap_alloc_new w (.cells #[.int .i64 0, .int .i64 0, .slice none 0 0] 38))
  generalize open_ key dir b = o at HOP ⊢
  have HBS := Lib.hid (show ∀ x ∈ (b.take m).drop 10, x < 256 from fun x hx => H8.out x (List.mem_of_mem_take (List.mem_of_mem_drop hx)))
  generalize hbd : (b.take m).drop 10 = bd at HV HVL HOP HBS
  clear hbd
  clear hk hb hkl h1 h2 hd hm hcap
  generalize hr : decide (tag key (b.take m) = b.drop m) = r
  replace hr := Lib.hid hr
  generalize tag key (b.take m) = tg at *
  go_enter Tryd.func15, Tryd.ntmps15
  go_upto_region 1 with (fail)
  generalize w.alloc _ = w1 at *
  go_upto_region 6 with (fail)
  clear hl1 hl2
  have HA := al_any w1 (.cells #[.slice ba m bc] 22)
  have HP := Lib.hid (one_part (bytes_below HT.out HB.out))
  have X2 := Lib.hid (blk HX.out HA)
  have K2 := kept_hid HB HA
  clear HA HX HB
  go_wp2_with fail
  generalize w1.heap.size = g1 at *
  generalize w1.alloc _ = w2 at *
  have HTC := Lib.hid (tag_any ka key.length kc key _ [b.take m] w2 (bytes_below HK.out.at_ K2.out) HK.out.small HKL.out HP.out (by simpa using HT8.out) (by have := HTL.out; have := HM2.out; simp; omega) (by simp))
  rw [HTE.out] at HTC
  with_reducible refine HTC.out.mono ?_
  rintro e w9 ⟨rfl, hb⟩
  have X9 := Lib.hid (blk X2.out hb)
  have K9 := kept_hid K2 hb
  clear hb X2 K2 HP HTC
  dsimp only
  rename_i hK
  refine hK _ _ ?_
  clear hK
  refine wpList_plain rfl (fun K hK => ?_)
  go_simp
  refine hK _ _ ?_
  clear hK K
  have hbk : (w9.alloc (.cells (u8s (pad 16 [])).toArray 61)).heap[w9.heap.size]? = some (.cells (u8s (pad 16 [])).toArray 61 (0, 0)) := heap_alloc_new w9 _
  have hbl := al_any w9 (.cells (u8s (pad 16 [])).toArray 61)
  change wpList _ _ _ _ _ (w9.alloc (.cells (u8s (pad 16 [])).toArray 61))
  generalize w9.alloc (.cells (u8s (pad 16 [])).toArray 61) = w10 at hbk hbl
  have hsz : (u8s tg).toArray.size = 16 := by rw [List.size_toArray, u8s_length, HTGL.out]
  refine wpList_store_mid rfl 61 _ _ rfl w9.heap.size 0 _ rfl rfl (there_of_block hbk 0 _ (by rw [hsz]; decide)) (by rw [hsz]; kernel_rfl) (u8s_cells _) ?_
  have HB11 := below_setCells w9.heap.size (Nat.le_refl _) (u8s tg).toArray.toList 0 _ hbl
  have G11 := put_row (D := tg) (by rw [HTGL.out, pad_length (by decide)]) hbk
  generalize w10.setCells w9.heap.size 0 (u8s tg).toArray.toList = w11 at HB11 G11
  have X11 := Lib.hid (blk X9.out HB11)
  have K11 := kept_hid K9 HB11
  have GB := Lib.hid (show BytesIn w11 (.slice (some ⟨w9.heap.size, 0, none⟩) 16 16) tg from by
    have := row_bytes (n := 16) (c := 16) G11 (by rw [HTGL.out]; decide) (Nat.le_refl _)
    rwa [List.take_of_length_le (by rw [HTGL.out]; decide)] at this)
  have GL := Lib.hid (lt_of_heap G11)
  clear hbk hbl hsz HB11 G11 X9 K9
  generalize w9.heap.size = N at *
  have HSA := Lib.hid fun W (hb : Below w11.heap.size w11 W) => equal_any _ _ tg (b.drop m) W (bytes_below GB.out hb) (bytes_below (bytes_below HU.out K11.out) hb) HTG8.out HU8.out (by rw [HTGL.out]; decide) (by rw [HUL.out]; decide)
  rw [hr.out] at HSA
  have hR2 := HR2.out
  go_upto_region 7 with (fail)
  clear hR2
  have hR2 := HR2.out
  go_region_held3 (fun W' => Below w11.heap.size w11 W')
    (first | with_reducible exact (Below.refl _ _).drew | exact (Below.refl _ _) | with_reducible exact kept_trans (by assumption) (Six.below_drewN _ _ _) | exact Six.below_drewN _ _ _)
    (first
      | (go_at_call 20; with_reducible refine (HSA.out _ (by assumption)).mono ?_; rintro e ws ⟨rfl, j, rfl⟩))
  have hh : Below w11.heap.size w11 (w11.drewN (1 + j)) := Six.below_drewN _ _ _
  have K2 := kept_hid K11 hh
  have X2 := Lib.hid (blk X11.out hh)
  clear hh hR2 HR2 HR1 HSA GB GL K11 X11 HTE HTGL HTG8 HU HUL HU8 HT HT8 HTL
  generalize w11.drewN (1 + j) = w2 at *
  have HRR := hr.out
  clear hr
  cases r with
  | false =>
    obtain rfl : o = (none_, 11) := by rw [HOP.out, if_pos (of_decide_eq_false HRR)]
    clear HOP HRR
    have SF := Lib.hid (over3f w2 w.heap.size 38 _ _ _ (.int .i64 0) (.int .i64 0) (.slice none 0 0) X2.out)
    obtain ⟨y0, y1, y2⟩ := cells3 X2.out
    obtain ⟨f0, f1, f2⟩ := free3 X2.out
    go_wp2_with fail
    clear y0 y1 y2 f0 f1 f2
    generalize ((w2.setCell _ _).setCell _ _).setCell _ _ = w9 at *
    exact bodyPost_ret (v := .tuple #[.agg #[.int .i64 0, .int .i64 0, .slice none 0 0], .iface 56 (.int .i64 11)]) (results_cell_row_tmp rfl _ _ _ w.heap.size _ rfl (run_loadVar_row _ w.heap.size 38 38 _ (0, 0) _ SF.out.1 Tryd.underlying38 rfl (by kernel_rfl)) (.iface 56 (.int .i64 11)) rfl) rfl ⟨none, 0, rfl, World.ownsRow_nil _ _ _ _, K2.out.grown SF.out.2 K2.out.size (by intro g hg; injection hg with hg; omega)⟩
  | true =>
    have HOP := Lib.hid (HOP.out.trans (if_neg (fun h => h (of_decide_eq_true HRR))))
    clear HRR
    have HLL := Lib.hid (show 26 ≤ b.length by have := HM.out; have := HM1.out; omega)
    obtain ⟨g, off, HBA, HCL⟩ : ∃ g off, ba = some ⟨g, off, none⟩ ∧ Hid (∀ i, i < b.length → w2.cell? ⟨g, off + i, none⟩ = some (.int .u8 (b.getD i 0))) := by
      obtain ⟨ad, c, hv, hcap, hc⟩ := (bytes_below HBB.out.at_ K2.out)
      injection hv with e1 e2 e3
      subst e1 e3
      rcases hc with h0 | ⟨g, off, h0, hc⟩
      · have := HLL.out; rw [h0] at this; simp at this
      · exact ⟨g, off, h0, Lib.hid hc⟩
    subst HBA
    have c0 : w2.cell? ⟨g, off, none⟩ = some (.int .u8 (b.getD 0 0)) := HCL.out 0 (by have := HLL.out; omega)
    have c1 := HCL.out 1 (by have := HLL.out; omega)
    have hn0 : (0 : Int) < (b.length : Int) := by have := HLL.out; omega
    have hn1 : (1 : Int) < (b.length : Int) := by have := HLL.out; omega
    have HX1 := Lib.hid (show b.getD 1 0 < 256 from byte_lt H8.out (by decide) _)
    have hw1 : wrap64 ((b.getD 1 0 : Nat) : Int) = ((b.getD 1 0 : Nat) : Int) := by have := HX1.out; rw [IntWalk.wrap64_in] <;> omega
    generalize b.getD 0 0 = x0 at c0 HOP
    generalize b.getD 1 0 = x1 at c1 HOP HX1 hw1
    clear HCL
    by_cases hx0 : x0 = 1
    case neg =>
      obtain rfl : o = (none_, 13) := by rw [HOP.out, if_pos (.inl hx0)]
      clear HOP
      have hx0 : ¬ ((x0 : Int) = 1) := by omega
      have SF := Lib.hid (over3f w2 w.heap.size 38 _ _ _ (.int .i64 0) (.int .i64 0) (.slice none 0 0) X2.out)
      obtain ⟨y0, y1, y2⟩ := cells3 X2.out
      obtain ⟨f0, f1, f2⟩ := free3 X2.out
      go_wp2_with fail
      clear y0 y1 y2 f0 f1 f2
      generalize ((w2.setCell _ _).setCell _ _).setCell _ _ = w9 at *
      exact bodyPost_ret (v := .tuple #[.agg #[.int .i64 0, .int .i64 0, .slice none 0 0], .iface 56 (.int .i64 13)]) (results_cell_row_tmp rfl _ _ _ w.heap.size _ rfl (run_loadVar_row _ w.heap.size 38 38 _ (0, 0) _ SF.out.1 Tryd.underlying38 rfl (by kernel_rfl)) (.iface 56 (.int .i64 13)) rfl) rfl ⟨none, 0, rfl, World.ownsRow_nil _ _ _ _, K2.out.grown SF.out.2 K2.out.size (by intro g hg; injection hg with hg; omega)⟩
    case pos =>
    replace c0 : w2.cell? ⟨g, off, none⟩ = some (.int .u8 1) := by rw [c0, hx0]; rfl
    by_cases hx1 : (x1 : Int) = dir
    case neg =>
      obtain rfl : o = (none_, 13) := by rw [HOP.out, if_pos (.inr hx1)]
      clear HOP hx0
      have hxd : ((x1 : Int) != dir) = true := by simp [bne, hx1]
      have SF := Lib.hid (over3f w2 w.heap.size 38 _ _ _ (.int .i64 0) (.int .i64 0) (.slice none 0 0) X2.out)
      obtain ⟨y0, y1, y2⟩ := cells3 X2.out
      obtain ⟨f0, f1, f2⟩ := free3 X2.out
      go_wp2_with fail
      clear y0 y1 y2 f0 f1 f2
      generalize ((w2.setCell _ _).setCell _ _).setCell _ _ = w9 at *
      exact bodyPost_ret (v := .tuple #[.agg #[.int .i64 0, .int .i64 0, .slice none 0 0], .iface 56 (.int .i64 13)]) (results_cell_row_tmp rfl _ _ _ w.heap.size _ rfl (run_loadVar_row _ w.heap.size 38 38 _ (0, 0) _ SF.out.1 Tryd.underlying38 rfl (by kernel_rfl)) (.iface 56 (.int .i64 13)) rfl) rfl ⟨none, 0, rfl, World.ownsRow_nil _ _ _ _, K2.out.grown SF.out.2 K2.out.size (by intro g hg; injection hg with hg; omega)⟩
    case pos =>
    subst hx1
    have hxd : ((x1 : Int) != (x1 : Int)) = false := by simp
    have HOP := Lib.hid (HOP.out.trans (if_neg (by simp; omega)))
    clear hx0
    generalize (b.drop 2).take 8 = l at HS HSL HS8 HOP
    have hR4 := HR4.out
    have HRS := Lib.hid (readSeq_any l (cutA (some ⟨g, off, none⟩) 2 bc) 8 (bc - 2) w2 (bytes_below HS.out K2.out) HSL.out HS8.out HSL.out)
    go_wp2_with fail
    with_reducible refine HRS.out.mono ?_
    rintro e w3 ⟨rfl, hb⟩
    have K3 := kept_hid K2 hb
    have X3 := Lib.hid (blk X2.out hb)
    clear hb K2 X2 HRS hR4 HR4 c0 c1 hn0 hn1 hw1 hxd HS
    have HSQ := Lib.hid fun W => isSeq_any (seqv l) W
    have HDR := Lib.hid fun W => isDir_any (x1 : Int) W
    have HSO := Lib.hid (seqv_ok HS8.out HSL.out)
    generalize hsq : (decide (1 ≤ seqv l) && decide (seqv l ≤ 4611686018427387904)) = rq at HSQ HSO
    clear hsq
    cases rq with
    | false =>
      obtain rfl : o = (none_, 1) := by
        rw [HOP.out, if_pos (.inr (Decidable.not_not.1 (fun h => by have := HSO.out.2 h; cases this)))]
      clear HOP HSO
      generalize seqv l = sv at *
      go_wp2_with fail
      with_reducible refine (HSQ.out _).mono ?_
      rintro e w4 ⟨rfl, hb⟩
      have K4 := kept_hid K3 hb
      have X4 := Lib.hid (blk X3.out hb)
      clear hb K3 X3 HSQ HDR
      have SF := Lib.hid (over3f w4 w.heap.size 38 _ _ _ (.int .i64 0) (.int .i64 0) (.slice none 0 0) X4.out)
      obtain ⟨y0, y1, y2⟩ := cells3 X4.out
      obtain ⟨f0, f1, f2⟩ := free3 X4.out
      go_wp2_with fail
      clear y0 y1 y2 f0 f1 f2
      generalize ((w4.setCell _ _).setCell _ _).setCell _ _ = w9 at *
      exact bodyPost_ret (v := .tuple #[.agg #[.int .i64 0, .int .i64 0, .slice none 0 0], .iface 56 (.int .i64 1)]) (results_cell_row_tmp rfl _ _ _ w.heap.size _ rfl (run_loadVar_row _ w.heap.size 38 38 _ (0, 0) _ SF.out.1 Tryd.underlying38 rfl (by kernel_rfl)) (.iface 56 (.int .i64 1)) rfl) rfl ⟨none, 0, rfl, World.ownsRow_nil _ _ _ _, K4.out.grown SF.out.2 K4.out.size (by intro g hg; injection hg with hg; omega)⟩
    | true =>
      have HNL := Lib.hid (HSO.out.1 rfl)
      have HSV := Lib.hid (seqv_val (l := l) (by have := HNL.out; omega))
      clear HSO
      rw [HSV.out] at HSQ
      rw [HSV.out]
      clear HSV
      go_wp2_with fail
      with_reducible refine (HSQ.out _).mono ?_
      rintro e w4 ⟨rfl, hb⟩
      have K4 := kept_hid K3 hb
      have X4 := Lib.hid (blk X3.out hb)
      clear hb K3 X3 HSQ
      generalize hdr : (((x1 : Int) == 0) || ((x1 : Int) == 1)) = rd at HDR
      have HDX := Lib.hid hdr
      clear hdr
      cases rd with
      | false =>
        obtain rfl : o = (none_, 1) := by
          rw [HOP.out, if_pos (.inl (by have := HDX.out; simp at this; omega))]
        clear HOP HDX
        go_wp2_with fail
        with_reducible refine (HDR.out _).mono ?_
        rintro e w5 ⟨rfl, hb⟩
        have K5 := kept_hid K4 hb
        have X5 := Lib.hid (blk X4.out hb)
        clear hb K4 X4 HDR
        have SF := Lib.hid (over3f w5 w.heap.size 38 _ _ _ (.int .i64 0) (.int .i64 0) (.slice none 0 0) X5.out)
        obtain ⟨y0, y1, y2⟩ := cells3 X5.out
        obtain ⟨f0, f1, f2⟩ := free3 X5.out
        go_wp2_with fail
        clear y0 y1 y2 f0 f1 f2
        generalize ((w5.setCell _ _).setCell _ _).setCell _ _ = w9 at *
        exact bodyPost_ret (v := .tuple #[.agg #[.int .i64 0, .int .i64 0, .slice none 0 0], .iface 56 (.int .i64 1)]) (results_cell_row_tmp rfl _ _ _ w.heap.size _ rfl (run_loadVar_row _ w.heap.size 38 38 _ (0, 0) _ SF.out.1 Tryd.underlying38 rfl (by kernel_rfl)) (.iface 56 (.int .i64 1)) rfl) rfl ⟨none, 0, rfl, World.ownsRow_nil _ _ _ _, K5.out.grown SF.out.2 K5.out.size (by intro g hg; injection hg with hg; omega)⟩
      | true =>
        obtain rfl : o = (⟨x1, num l, bd⟩, 0) := by
          rw [HOP.out, if_neg (by have := HNL.out; have h2 := HDX.out; simp at h2; omega)]
        clear HOP HDX
        go_wp2_with fail
        with_reducible refine (HDR.out _).mono ?_
        rintro e w5 ⟨rfl, hb⟩
        have K5 := kept_hid K4 hb
        have X5 := Lib.hid (blk X4.out hb)
        clear hb K4 X4 HDR
        have hR3 := HR3.out
        have V5 := Lib.hid (bytes_below HV.out K5.out)
        go_wp2_with (at_builtin; refine wpList_mark ?_)
        clear hR3 HR3 hm0 hmc hml em
        refine Lib.hid ?_
        refine append_own rfl (.const (.slice none 0 0)) (.tmp 68) rfl w5.heap.size (.slice none 0 0) 0 [] rfl (World.ownsRow_nil _ _ _ _) (cutA (some ⟨g, off, none⟩) 10 bc) (m - 10) (bc - 10) bd rfl HVL.out HVN.out (bytes_src V5.out) (by have := HM2.out; omega) (Nat.le_refl _) ?_
        intro v' w6 hown hgr _
        have O6 := Lib.hid (show w6.ownsRow w5.heap.size 5 1 v' bd.length (u8s bd) from by rw [Nat.zero_add, List.nil_append, ← HVL.out] at hown; exact hown)
        have hb : Below w5.heap.size w5 w6 := (Below.refl w5.heap.size w5).grown hgr (Nat.le_refl _) (by intro k hk; cases hk)
        have K6 := kept_hid K5 hb
        have X6 := Lib.hid (blk X5.out hb)
        have HZ := Lib.hid (there_lt X5.out)
        have HZ2 := Lib.hid K5.out.size
        obtain ⟨va, vc, rfl⟩ := own_form O6.out
        clear hown hgr hb K5 X5 V5 HVL HVN
        generalize w5.heap.size = B at *
        have SF := Lib.hid (over3f w6 w.heap.size 38 _ _ _ (.int .i64 (x1 : Int)) (.int .i64 ((num l : Nat) : Int)) (.slice va bd.length vc) X6.out)
        obtain ⟨y0, y1, y2⟩ := cells3 X6.out
        obtain ⟨f0, f1, f2⟩ := free3 X6.out
        go_wp2_with fail
        clear y0 y1 y2 f0 f1 f2
        have O9 := Lib.hid (own_other O6.out SF.out.2 HZ.out)
        generalize ((w6.setCell _ _).setCell _ _).setCell _ _ = w9 at *
        exact bodyPost_ret (v := .tuple #[.agg #[.int .i64 (x1 : Int), .int .i64 ((num l : Nat) : Int), .slice va bd.length vc], .nilIface]) (results_cell_row_tmp rfl _ _ _ w.heap.size _ rfl (run_loadVar_row _ w.heap.size 38 38 _ (0, 0) _ SF.out.1 Tryd.underlying38 rfl (by kernel_rfl)) .nilIface rfl) rfl ⟨va, vc, rfl, own_mono O9.out HZ2.out, K6.out.grown SF.out.2 K6.out.size (by intro g hg; injection hg with hg; omega)⟩
theorem fopen_any (k b : List Nat) (dir : Int) (ka : Option Addr) (kc : Nat) (ba : Option Addr) (bc : Nat) (w : World) (hk : Byts w ka kc k) (hb : Byts w ba bc b) (hkl : k.length < 1000000) (hbl : b.length < 1000000) (hd : IntKind.i64.wrap dir = dir) :
    Calls Tryd.prog 15 #[.slice ka k.length kc, .int .i64 dir, .slice ba b.length bc] w fun e w' => GaveF w w' (open_ k dir b).1 (open_ k dir b).2 e := by
  by_cases h1 : b.length < 26
  · rw [show open_ k dir b = (none_, 2) from by unfold open_; rw [if_pos h1]]
    exact fopen_cut k b dir ka kc ba bc w h1
  · by_cases h2 : 512 < b.length
    · rw [show open_ k dir b = (none_, 6) from by unfold open_; rw [if_neg h1, if_pos h2]]
      exact fopen_long k b dir ka kc ba bc w h2
    · exact fopen_rest k b dir ka kc ba bc w hk hb hkl (by omega) (by omega) hd
end Frm
end Go.Proofs.YtoiidedigbfnaaaDoor
