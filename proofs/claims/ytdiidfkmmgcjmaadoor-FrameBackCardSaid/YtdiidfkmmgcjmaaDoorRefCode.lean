/- 'Code' of the document's answer is the code of the text. -/
import Derived.Test.YtdiidfkmmgcjmaaDoorRefOf
import Derived.Test.YtdiidfkmmgcjmaaDoorMacSpec
import Derived.Deep.AppendLies
namespace Go.Proofs.YtdiidfkmmgcjmaaDoor
open Go.RowKit Cut Apd
namespace Sha
theorem append1_lies {ops : Array Oper} {rest : List Oper} {o : Oper} {a : Act} {Q : Exit → Act → World → Prop} {w : World} (hgd : o.guard = none) (s x : Operand)
    (ho : o.op = .call { callee := .builtin .append, args := #[s, x], argTypes := #[22, 22] }) (base : Nat) (v : Value) (n : Nat) (xs : List Value) (hs : a.eval s = v) (hown : w.ownsRow base 5 1 v n xs)
    (g0 : Nat) (y : Nat) (hx : a.eval x = .slice (some ⟨g0, 0, none⟩) 1 1) (hc : w.cell? ⟨g0, 0, none⟩ = some (.int .u8 (y : Int))) (h63 : n < 100000000000) (hbase : base ≤ w.heap.size)
    (h : ∀ g c w', w'.ownsRow base 5 1 (.slice (some ⟨g, 0, none⟩) (n + 1) c) (n + 1) (xs ++ u8s [y]) → w.grownBy w' v.ownBlock → (v.ownBlock = some g ∨ g = w.heap.size) → wpList Tryd.prog ops Q rest (a.put o.dst (.slice (some ⟨g, 0, none⟩) (n + 1) c)) w') : wpList Tryd.prog ops Q (o :: rest) a w := by
  obtain ⟨i0, hi, hz0, hz1, hz2⟩ := info_parts info5_
  refine wpList_append_lies _ hgd s x 22 ho base 5 i0 (.int .u8 0) 1 1 Tryd.underlying22 hi hz0 hz1 hz2 rfl (by decide) v n xs hs hown ⟨g0, 0, none⟩ 1 1 (u8s [y]) hx rfl ?_ (u8s_one _) (by decide) (by unfold maxLen; omega) (by omega) hbase _ rfl ?_
  · intro j u hj
    match j, hj with
    | 0, hj => simp [u8s] at hj; subst hj; exact hc
  · intro g c w' h1 h2 h3 _
    exact h g c w' h1 h2 h3
/-- Two rows of the call's own lie apart. -/
def Apart (v u : Value) : Prop := v.ownBlock = none ∨ v.ownBlock ≠ u.ownBlock
theorem Apart.symm {v u : Value} (h : Apart v u) : Apart u v := by
  rcases h with h | h
  · cases hu : u.ownBlock with
    | none => exact .inl hu
    | some k => exact .inr (by rw [h, hu]; simp)
  · exact .inr (Ne.symm h)
theorem Apart.keep {w w' : World} {base e size n : Nat} {v u : Value} {xs : List Value} (h : Apart v u) (ho : w.ownsRow base e size u n xs) (hg : w.grownBy w' v.ownBlock) : w'.ownsRow base e size u n xs :=
  ho.kept hg h.symm
theorem Apart.next {w : World} {base e size n g m c : Nat} {v u : Value} {xs : List Value} (h : Apart v u) (ho : w.ownsRow base e size u n xs) {H : Nat} (hat : v.ownBlock = some g ∨ g = H) (hH : w.heap.size ≤ H) : Apart (.slice (some ⟨g, 0, none⟩) m c) u := by
  right
  show some g ≠ u.ownBlock
  rcases hat with hv | hg
  · rcases h with h | h
    · rw [hv] at h; cases h
    · rw [hv] at h; exact h
  · rcases ho.2 with ⟨rfl, _⟩ | ⟨k, cap, cur, rfl, _, hk, _⟩
    · simp [Value.ownBlock]
    · have := lt_of_heap_ hk
      simp [Value.ownBlock]; omega
theorem own_at {w : World} {base n c : Nat} {ad : Option Addr} {l : List Nat} (h : w.ownsRow base 5 1 (.slice ad n c) n (u8s l)) (hl : l.length = n) (j : Nat) (hj : j < n) : ∃ g, ad = some ⟨g, 0, none⟩ ∧ base ≤ g ∧ w.cell? ⟨g, j, none⟩ = some (.int .u8 ((l.getD j 0 : Nat) : Int)) := by
  rcases h.2 with ⟨_, h0⟩ | ⟨g, cap, cur, h1, hb, hh, hnc, _, _, htk⟩
  · omega
  · injection h1 with e1 e2 e3
    refine ⟨g, e1, hb, ?_⟩
    rw [cell_of_row w g j cur _ _ hh]
    have e := u8s_at (l := l) (i := j) (by omega)
    rw [List.getElem?_toArray, ← htk, List.getElem?_take, if_pos (by omega)] at e
    simpa using e
theorem xored_take (l : List Nat) (c k : Nat) (h : k < l.length) : (xored l c).take (k + 1) = (xored l c).take k ++ [l.getD k 0 ^^^ c] := by
  have h1 : k < (xored l c).length := by rw [xored_length]; exact h
  rw [List.take_succ_eq_append_getElem h1]
  congr 2
  simp [xored, h]
theorem keyOf_pad (key : List Nat) (j : Nat) (h : (keyOf key).length + j = 64) : keyOf key ++ List.replicate j 0 = kblock key := by
  unfold kblock
  congr 2
  omega
set_option maxRecDepth 100000 in
set_option maxHeartbeats 8000000 in
theorem rcode_any (a0 : Option Addr) (len0 cap0 : Nat) (a1 : Option Addr) (len1 cap1 : Nat) (key text : List Nat) (w : World) (h0 : len0 ≤ 200) (h1 : len1 ≤ 900) (hx : key.length = len0) (hy : text.length = len1) (h8 : ∀ x ∈ key, x < 256) (ht8 : ∀ x ∈ text, x < 256)
    (hbx : BytesIn w (.slice a0 len0 cap0) key) (hbt : BytesIn w (.slice a1 len1 cap1) text) (hn0 : a0 = none → len0 = 0 ∧ cap0 = 0) (hn1 : a1 = none → len1 = 0 ∧ cap1 = 0) :
    Calls Tryd.prog 30 #[.slice a0 len0 cap0, .slice a1 len1 cap1] w fun e w' => e = .returned (.agg (u8s (hmac key text)).toArray) ∧ Below w.heap.size w w' := by
  have HX := Lib.hid hx
  have HY := Lib.hid hy
  have H8 := Lib.hid h8
  have HT8 := Lib.hid ht8
  have HBX := Lib.hid hbx
  have HBT := Lib.hid hbt
  have HN0 := Lib.hid hn0
  have HN1 := Lib.hid hn1
  clear hx hy h8 ht8 hbx hbt hn0 hn1
  go_enter Tryd.func30, Tryd.ntmps30
  go_upto_region 1 with (fail)
  have f1 : Free32_ (w.alloc (.cells (u8s (pad 32 [])).toArray 55)) w.heap.size := free_new_ w
  have f3 : Below w.heap.size w (w.alloc (.cells (u8s (pad 32 [])).toArray 55)) := (Below.refl _ _).alloc (Nat.le_refl _) _
  change Code.wp _ _ _ _ (w.alloc (.cells (u8s (pad 32 [])).toArray 55))
  generalize w.alloc (.cells (u8s (pad 32 [])).toArray 55) = w1 at f1 f3
  have F1 := Lib.hid f1
  have B1 := Lib.hid f3
  have HX1 := Lib.hid (bytes_below HBX.out f3)
  have BR := Lib.hid (Below.refl w1.heap.size w1)
  clear f1 f3
  refine wp_region_lit ?_
  refine wpList_plain rfl (fun K hK => ?_)
  go_simp
  refine hK _ _ ?_
  clear hK K
  refine wpList_plain rfl (fun K hK => ?_)
  go_simp
  refine hK _ _ ?_
  clear hK K
  have HMI5 := Lib.hid (World.ownsRow_lit (e := 5) (base := w1.heap.size) (size := 1) w1 #[] 0 (BR.out.size) (Nat.zero_le _) rfl)
  have L5 := Lib.hid (BR.out.alloc BR.out.size (.cells #[] 5))
  refine append_own rfl (.tmp 11) (.tmp 12) rfl w1.heap.size _ 0 [] rfl HMI5.out a0 len0 cap0 key rfl HX.out HN0.out (bytes_src (bytes_below HX1.out L5.out)) (by omega) (by have := BR.out.size; first | (simp; done) | (simp; omega)) ?_
  intro v5 w5 hown5 hg5 hv5
  rw [Nat.zero_add, List.nil_append] at hown5
  obtain ⟨a5, c5, rfl⟩ := row_form' hown5
  have O5 := Lib.hid hown5
  have B5 := Lib.hid (show Below w1.heap.size w1 w5 from L5.out.grown hg5 (by have := BR.out.size; first | (simp; done) | (simp; omega)) (own_ge HMI5.out))
  clear hown5 hg5 hv5 HMI5 L5
  clear BR
  by_cases h64 : 64 < len0
  · have hd : decide ((64 : Int) < (len0 : Int)) = true := by simp; omega
    have HKK := Lib.hid (show keyOf key = digest key by unfold keyOf; rw [if_pos (by rw [HX.out]; exact h64)])
    have HKN := Lib.hid (show (keyOf key).length = 32 by rw [HKK.out, digest_len])
    go_wp2_with fail
    refine (rof_any a0 len0 cap0 key _ HX.out H8.out (by omega) (bytes_below HX1.out B5.out) HN0.out).mono ?_
    rintro e w6 ⟨rfl, hb6⟩
    have B6 := Lib.hid (show Below w1.heap.size w1 w6 from B5.out.trans (hb6.mono B5.out.size))
    clear hb6 B5 O5 hd h64
    have HDL := Lib.hid (digest_len key)
    dsimp only
    rename_i hK
    refine hK _ _ ?_
    clear hK
    refine wpList_plain rfl (fun K hK => ?_)
    go_simp
    refine hK _ _ ?_
    clear hK K
    have hsz : (u8s (digest key)).toArray.size = 32 := by rw [List.size_toArray, u8s_length, HDL.out]
    change wpList _ _ _ _ _ (w6.alloc (.cells (u8s (pad 32 [])).toArray 55))
    refine wpList_store_mid rfl 55 _ _ rfl w6.heap.size 0 _ rfl rfl (there_of_block (heap_alloc_new w6 (.cells (u8s (pad 32 [])).toArray 55)) 0 _ (by rw [hsz]; decide)) (by rw [hsz]; kernel_rfl) (u8s_cells _) ?_
    obtain ⟨w7, hw, hrow, hbel⟩ := alloc_row w6 55 (pad 32 []) (digest key) (by rw [HDL.out, pad_length (by decide)])
    change wpList _ _ _ _ _ ((w6.alloc (.cells (u8s (pad 32 [])).toArray 55)).setCells w6.heap.size 0 (u8s (digest key)).toArray.toList)
    rw [hw]
    have Rw7 := Lib.hid hrow
    have Ew7 := Lib.hid hbel
    clear hw hrow hbel hsz
    have B7 := Lib.hid (show Below w1.heap.size w1 w7 from B6.out.trans (Ew7.out.mono B6.out.size))
    have HS := Lib.hid (row_all_ Rw7.out HDL.out)
    clear B6 Ew7 Rw7
    generalize w6.heap.size = Ns at HS
    have HSN := Lib.hid (show (some ⟨Ns, 0, none⟩ : Option Addr) = none → 32 = 0 ∧ 32 = 0 from fun h => by cases h)
    go_upto_region 4 with (fail)
    refine wp_region_lit ?_
    refine wpList_plain rfl (fun K hK => ?_)
    go_simp
    refine hK _ _ ?_
    clear hK K
    refine wpList_plain rfl (fun K hK => ?_)
    go_simp
    refine hK _ _ ?_
    clear hK K
    have HMI8 := Lib.hid (World.ownsRow_lit (e := 5) (base := w1.heap.size) (size := 1) w7 #[] 0 (B7.out.size) (Nat.zero_le _) rfl)
    have L8 := Lib.hid (B7.out.alloc B7.out.size (.cells #[] 5))
    refine append_own rfl (.tmp 19) (.tmp 20) rfl w1.heap.size _ 0 [] rfl HMI8.out (some ⟨Ns, 0, none⟩) 32 32 (digest key) rfl HDL.out HSN.out (bytes_src (bytes_below HS.out ((Below.refl _ _).alloc (Nat.le_refl _) _))) (by omega) (by have := B7.out.size; first | (simp; done) | (simp; omega)) ?_
    intro v8 w8 hown8 hg8 hv8
    rw [Nat.zero_add, List.nil_append] at hown8
    obtain ⟨a8, c8, rfl⟩ := row_form' hown8
    have O8 := Lib.hid hown8
    have B8 := Lib.hid (show Below w1.heap.size w1 w8 from L8.out.grown hg8 (by have := B7.out.size; first | (simp; done) | (simp; omega)) (own_ge HMI8.out))
    clear hown8 hg8 hv8 HMI8 L8
    clear B7 HS HSN HDL
    have HO0 := Lib.hid (show w8.ownsRow w1.heap.size 5 1 (.slice a8 (keyOf key).length c8) (keyOf key).length (u8s (keyOf key)) by rw [HKK.out, digest_len]; exact O8.out)
    have HB0 := Lib.hid B8.out
    clear O8 B8
    have HKL := Lib.hid (keyOf_length key)
    have HPAD := Lib.hid (fun j h => keyOf_pad key j h)
    rw [← HKN.out]
    clear HKK HKN
    generalize keyOf key = K0 at HO0 HKL HPAD ⊢
    go_wp2_with fail
    go_loopw [5] (fun v wr => ∃ (j : Nat) (ad : Option Addr) (cp : Nat), K0.length + j ≤ 64 ∧ v = .slice ad (K0.length + j) cp ∧ wr.ownsRow w1.heap.size 5 1 (.slice ad (K0.length + j) cp) (K0.length + j) (u8s (K0 ++ List.replicate j 0)) ∧ Below w1.heap.size w1 wr) (fun v _ => 64 - sliceLen_ v)
    case atStart => exact ⟨0, a8, c8, by have := HKL.out; omega, rfl, by simpa using HO0.out, HB0.out⟩
    case round =>
      obtain ⟨j, ad, cp, hj, rfl, ho, hb⟩ := hrel
      have HO := Lib.hid ho
      have HB := Lib.hid hb
      clear ho hb
      by_cases hlt : K0.length + j < 64
      · have hlt' : ((K0.length : Nat) : Int) + (j : Int) < 64 := by omega
        go_wp2_with (at_builtin; refine wpList_mark ?_)
        refine Lib.hid ?_
        refine append_own rfl (.tmp 25) (.tmp 26) rfl w1.heap.size _ (K0.length + j) (u8s (K0 ++ List.replicate j 0)) rfl (HO.out.alloc _) (some ⟨wr.heap.size, 0, none⟩) 1 1 [0] rfl rfl (fun h => by cases h) (bytes_one wr 0) ?_ ?_ ?_
        · omega
        · have := HB.out.size; simp; omega
        intro v2 w2 hown2 hg2 hv2
        obtain ⟨va, vc, rfl⟩ := row_form' hown2
        rw [show u8s (K0 ++ List.replicate j 0) ++ u8s [0] = u8s (K0 ++ List.replicate (j + 1) 0) by rw [List.replicate_succ']; simp [u8s]] at hown2
        have O2 := Lib.hid hown2
        have B2 := Lib.hid (show Below w1.heap.size w1 w2 from (HB.out.alloc HB.out.size _).grown hg2 (by have := HB.out.size; simp; omega) (own_ge HO.out))
        clear hown2 hg2 hv2
        go_wp2_with fail
        go_roundw
        case rel => exact ⟨j + 1, va, vc, by omega, rfl, O2.out, B2.out⟩
        case measure => simp [sliceLen_]; omega
      · have e64 : K0.length + j = 64 := by omega
        have ho := HO.out
        rw [HPAD.out j e64, e64] at ho
        have HO1 := Lib.hid ho
        rw [e64]
        clear ho hlt HO
        obtain ⟨wo, rfl⟩ : ∃ wo : World, wo = wr := ⟨_, rfl⟩
        have HK8 := Lib.hid (kblock_small H8.out)
        have HKB := Lib.hid (kblock_length key)
        have HMK := Lib.hid (show hmac key text = digest (xored (kblock key) 92 ++ digest (xored (kblock key) 54 ++ text)) from rfl)
        generalize kblock key = kb at HO1 HK8 HKB HMK
        have BW := Lib.hid (Below.refl wo.heap.size wo)
        have HRL := Lib.hid (show wo.heap.size ≤ wo.heap.size from Nat.le_refl _)
        go_wp2_with fail
        go_loopw [7, 8, 9] (fun vi vo i wr => ∃ (k : Nat) (ai : Option Addr) (ci : Nat) (ao : Option Addr) (co : Nat), k ≤ 64 ∧ i = .int .i64 k ∧ vi = .slice ai k ci ∧ vo = .slice ao k co ∧ wr.ownsRow wo.heap.size 5 1 (.slice ai k ci) k (u8s ((xored kb 54).take k)) ∧ wr.ownsRow wo.heap.size 5 1 (.slice ao k co) k (u8s ((xored kb 92).take k)) ∧ Apart (.slice ai k ci) (.slice ao k co) ∧ Below wo.heap.size wo wr) (fun _ _ i _ => 64 - (intOf i).toNat)
        case atStart => exact ⟨0, none, 0, none, 0, Nat.zero_le _, rfl, rfl, rfl, World.ownsRow_nil _ _ _ _, World.ownsRow_nil _ _ _ _, .inl rfl, BW.out⟩
        case round =>
          obtain ⟨k, ai, ci, ao, co, hk, rfl, rfl, rfl, hoi, hoo, hap, hb⟩ := hrel
          have HI := Lib.hid hoi
          have HOO := Lib.hid hoo
          have HA := Lib.hid hap
          have HZ := Lib.hid hb
          clear hoi hoo hap hb
          by_cases hlt2 : k < 64
          · obtain ⟨gk, hgk, _, hck⟩ := own_at HO1.out HKB.out k hlt2
            subst hgk
            have HCK := Lib.hid hck
            have hc1 := (HZ.out.cell (p := ⟨gk, k, none⟩) (block_lt_of_cell hck)).trans hck
            have hx := getD_lt HK8.out (by decide) k
            have HT1 := Lib.hid (xored_take kb 54 k (by rw [HKB.out]; exact hlt2))
            have HT2 := Lib.hid (xored_take kb 92 k (by rw [HKB.out]; exact hlt2))
            generalize kb.getD k 0 = x at hc1 hx HT1 HT2 HCK
            have HX54 := Lib.hid (u8_xor_nat_ x 54 hx (by decide))
            have HX92 := Lib.hid (u8_xor_nat_ x 92 hx (by decide))
            have hi0 : (0 : Int) ≤ (k : Int) := by omega
            have hi1 : (k : Int) < 64 := by omega
            clear hck
            go_wp2_with (at_builtin; refine wpList_mark ?_)
            refine Lib.hid ?_
            refine append1_lies rfl (.tmp 32) (.tmp 38) rfl wo.heap.size _ k (u8s ((xored kb 54).take k)) rfl (HI.out.alloc _) wr.heap.size (x ^^^ 54) rfl ?_ ?_ ?_ ?_
            · exact (cell_of_row _ wr.heap.size 0 _ _ _ (heap_alloc_new wr _)).trans (by first | rfl | exact congrArg (fun y => some (Value.int .u8 y)) HX54.out)
            · omega
            · have := HZ.out.size; simp; omega
            intro gi di w4 ho4 hg4 hat4
            rw [show u8s ((xored kb 54).take k) ++ u8s [x ^^^ 54] = u8s ((xored kb 54).take (k + 1)) by rw [HT1.out]; simp [u8s]] at ho4
            have O4 := Lib.hid ho4
            have P4 := Lib.hid (HA.out.keep (HOO.out.alloc _) hg4)
            have A4 := Lib.hid ((HA.out.next HOO.out hat4 (by simp) : Apart (.slice (some ⟨gi, 0, none⟩) (k + 1) di) _))
            have Z4 := Lib.hid (show Below wo.heap.size wo w4 from (HZ.out.alloc HZ.out.size _).grown hg4 (by have := HZ.out.size; simp; omega) (own_ge HI.out))
            have hc4 := (Z4.out.cell (p := ⟨gk, k, none⟩) (block_lt_of_cell HCK.out)).trans HCK.out
            clear ho4 hg4 hat4 hc1 HI HOO HA HZ
            go_wp2_with (at_builtin; refine wpList_mark ?_)
            refine Lib.hid ?_
            refine append1_lies rfl (.tmp 40) (.tmp 46) rfl wo.heap.size _ k (u8s ((xored kb 92).take k)) rfl (P4.out.alloc _) w4.heap.size (x ^^^ 92) rfl ?_ ?_ ?_ ?_
            · exact (cell_of_row _ w4.heap.size 0 _ _ _ (heap_alloc_new w4 _)).trans (by first | rfl | exact congrArg (fun y => some (Value.int .u8 y)) HX92.out)
            · omega
            · have := Z4.out.size; simp; omega
            intro go do' w5' ho5 hg5 hat5
            rw [show u8s ((xored kb 92).take k) ++ u8s [x ^^^ 92] = u8s ((xored kb 92).take (k + 1)) by rw [HT2.out]; simp [u8s]] at ho5
            have O5' := Lib.hid ho5
            have P5 := Lib.hid (A4.out.symm.keep (O4.out.alloc _) hg5)
            have A5 := Lib.hid ((A4.out.symm.next O4.out hat5 (by simp) : Apart (.slice (some ⟨go, 0, none⟩) (k + 1) do') _).symm)
            have Z5 := Lib.hid (show Below wo.heap.size wo w5' from (Z4.out.alloc Z4.out.size _).grown hg5 (by have := Z4.out.size; simp; omega) (own_ge P4.out))
            clear ho5 hg5 hat5 hc4 O4 P4 A4 Z4
            go_wp2_with fail
            go_roundw
            case rel => exact ⟨k + 1, _, _, _, _, by omega, by go_num, rfl, rfl, P5.out, O5'.out, A5.out, Z5.out⟩
            case measure => simp [intOf]; omega
          · have e : k = 64 := by omega
            subst e
            have hoi := HI.out
            have hoo := HOO.out
            rw [List.take_of_length_le (by rw [xored_length, HKB.out]; exact Nat.le_refl _)] at hoi hoo
            have HI1 := Lib.hid hoi
            have HO2 := Lib.hid hoo
            have HL54 := Lib.hid (show (xored kb 54).length = 64 by rw [xored_length, HKB.out])
            have HL92 := Lib.hid (show (xored kb 92).length = 64 by rw [xored_length, HKB.out])
            have H54 := Lib.hid (xored_small (c := 54) HK8.out (by decide))
            have H92 := Lib.hid (xored_small (c := 92) HK8.out (by decide))
            generalize xored kb 54 = i54 at HI1 HL54 H54 HMK
            generalize xored kb 92 = o92 at HO2 HL92 H92 HMK
            have HTX := Lib.hid (bytes_below HBT.out ((B1.out.trans (HB.out.mono B1.out.size)).trans (HZ.out.mono (B1.out.trans (HB.out.mono B1.out.size)).size)))
            have HWR := Lib.hid (show w.heap.size ≤ wo.heap.size from Nat.le_trans B1.out.size HB.out.size)
            have HHL := Lib.hid (show w.heap.size < wo.heap.size from Nat.lt_of_lt_of_le (lt_of_heap_ F1.out) HB.out.size)
            have HFZ := Lib.hid (free_below_ (free_below_ F1.out HB.out) HZ.out)
            have BZ := Lib.hid (show Below w.heap.size w wr from (B1.out.trans (HB.out.mono B1.out.size)).trans (HZ.out.mono (B1.out.trans (HB.out.mono B1.out.size)).size))
            clear hoi hoo hlt2 HI HOO HO1 B1 F1 HB HB0 HO0
            have hwz := HZ.out.size
            go_upto_region 14 with (fail)
            refine wp_region_lit ?_
            refine wpList_plain rfl (fun K hK => ?_)
            go_simp
            refine hK _ _ ?_
            clear hK K
            refine wpList_plain rfl (fun K hK => ?_)
            go_simp
            refine hK _ _ ?_
            clear hK K
            refine append_own rfl (.tmp 48) (.tmp 49) rfl wo.heap.size _ 64 (u8s i54) rfl HI1.out a1 len1 cap1 text rfl HY.out HN1.out (bytes_src HTX.out) (by omega) hwz ?_
            intro vq wq hownq hgq hvq
            obtain ⟨aq, cq, rfl⟩ := row_form' hownq
            rw [show u8s i54 ++ u8s text = u8s (i54 ++ text) by simp [u8s]] at hownq
            have OQ := Lib.hid hownq
            have PQ := Lib.hid (HA.out.keep HO2.out hgq)
            have ZQ := Lib.hid (show Below wo.heap.size wo wq from HZ.out.grown hgq HZ.out.size (own_ge HI1.out))
            have BQ := Lib.hid (show Below w.heap.size w wq from BZ.out.grown hgq BZ.out.size (fun k hk => by have := own_ge HI1.out k hk; have := HWR.out; omega))
            have FQ := Lib.hid (show Free32_ wq w.heap.size from (hgq.block _ (lt_of_heap_ HFZ.out) (fun e => by have := own_ge HI1.out _ e.symm; have := HHL.out; omega)).trans HFZ.out)
            have HQB := Lib.hid (own_bytes_n OQ.out (by rw [List.length_append, HL54.out, HY.out]))
            have HQN := Lib.hid (show aq = none → 64 + len1 = 0 ∧ cq = 0 from fun h => row_nil OQ.out aq (64 + len1) cq rfl h)
            have HQ8 := Lib.hid (show ∀ x ∈ i54 ++ text, x < 256 from fun x hx => by rcases List.mem_append.1 hx with h | h; exact H54.out x h; exact HT8.out x h)
            clear hownq hgq hvq OQ HA HI1 HO2 HZ BZ HFZ HTX hwz
            go_wp2_with fail
            refine (rof_any aq (64 + len1) cq (i54 ++ text) _ (by rw [List.length_append, HL54.out, HY.out]) HQ8.out (by omega) HQB.out HQN.out).mono ?_
            rintro e ws ⟨rfl, hbs⟩
            have BS := Lib.hid hbs
            have HDL1 := Lib.hid (digest_len (i54 ++ text))
            have HD81 := Lib.hid (digest_small (i54 ++ text))
            generalize digest (i54 ++ text) = D1 at HDL1 HD81 HMK ⊢
            clear hbs HQB HQN HQ8
            dsimp only
            rename_i hK
            refine hK _ _ ?_
            clear hK
            refine wpList_plain rfl (fun K hK => ?_)
            go_simp
            refine hK _ _ ?_
            clear hK K
            have hsz : (u8s D1).toArray.size = 32 := by rw [List.size_toArray, u8s_length, HDL1.out]
            change wpList _ _ _ _ _ (ws.alloc (.cells (u8s (pad 32 [])).toArray 55))
            refine wpList_store_mid rfl 55 _ _ rfl ws.heap.size 0 _ rfl rfl (there_of_block (heap_alloc_new ws (.cells (u8s (pad 32 [])).toArray 55)) 0 _ (by rw [hsz]; decide)) (by rw [hsz]; kernel_rfl) (u8s_cells _) ?_
            obtain ⟨wt, hw, hrow, hbel⟩ := alloc_row ws 55 (pad 32 []) D1 (by rw [HDL1.out, pad_length (by decide)])
            change wpList _ _ _ _ _ ((ws.alloc (.cells (u8s (pad 32 [])).toArray 55)).setCells ws.heap.size 0 (u8s D1).toArray.toList)
            rw [hw]
            have Rwt := Lib.hid hrow
            have Ewt := Lib.hid hbel
            clear hw hrow hbel hsz
            have BT := Lib.hid (BS.out.trans (Ewt.out.mono BS.out.size))
            have PT := Lib.hid (own_below PQ.out BT.out)
            have FT := Lib.hid (free_below_ FQ.out BT.out)
            have BTW := Lib.hid (BQ.out.trans (BT.out.mono BQ.out.size))
            have HRT := Lib.hid (row_all_ Rwt.out HDL1.out)
            have HTZ := Lib.hid (show wo.heap.size ≤ wt.heap.size from Nat.le_trans ZQ.out.size BT.out.size)
            clear BS Ewt Rwt BT PQ FQ BQ ZQ
            generalize ws.heap.size = N1 at HRT
            go_upto_region 15 with (fail)
            refine wp_region_lit ?_
            refine wpList_plain rfl (fun K hK => ?_)
            go_simp
            refine hK _ _ ?_
            clear hK K
            refine wpList_plain rfl (fun K hK => ?_)
            go_simp
            refine hK _ _ ?_
            clear hK K
            refine append_own rfl (.tmp 52) (.tmp 53) rfl wo.heap.size _ 64 (u8s o92) rfl PT.out (some ⟨N1, 0, none⟩) 32 32 D1 rfl HDL1.out (fun h => by cases h) (bytes_src HRT.out) (by omega) HTZ.out ?_
            intro vu wu hownu hgu hvu
            rw [show (64 + 32 : Nat) = 96 from rfl] at hownu
            obtain ⟨au, cu, rfl⟩ := row_form' hownu
            rw [show u8s o92 ++ u8s D1 = u8s (o92 ++ D1) by simp [u8s]] at hownu
            have BU := Lib.hid (show Below w.heap.size w wu from BTW.out.grown hgu BTW.out.size (fun k hk => by have := own_ge PT.out k hk; have := HWR.out; omega))
            have FU := Lib.hid (show Free32_ wu w.heap.size from (hgu.block _ (lt_of_heap_ FT.out) (fun e => by have := own_ge PT.out _ e.symm; have := HHL.out; omega)).trans FT.out)
            have HUB := Lib.hid (own_bytes_n hownu (by rw [List.length_append, HL92.out, HDL1.out]))
            have HUN := Lib.hid (show au = none → 96 = 0 ∧ cu = 0 from fun h => row_nil hownu au 96 cu rfl h)
            have HU8 := Lib.hid (show ∀ x ∈ o92 ++ D1, x < 256 from fun x hx => by rcases List.mem_append.1 hx with h | h; exact H92.out x h; exact HD81.out x h)
            clear hownu hgu hvu PT FT BTW HRT HTZ
            go_wp2_with fail
            refine (rof_any au 96 cu (o92 ++ D1) _ (by rw [List.length_append, HL92.out, HDL1.out]) HU8.out (by omega) HUB.out HUN.out).mono ?_
            rintro e wv ⟨rfl, hbv⟩
            have FV := Lib.hid (free_below_ FU.out hbv)
            have BV := Lib.hid (BU.out.trans (hbv.mono BU.out.size))
            have HDL2 := Lib.hid (digest_len (o92 ++ D1))
            generalize digest (o92 ++ D1) = D2 at HDL2 HMK ⊢
            clear hbv HUB HUN HU8 FU BU
            dsimp only
            rename_i hK
            refine hK _ _ ?_
            clear hK
            have hsz : (u8s D2).toArray.size = 32 := by rw [List.size_toArray, u8s_length, HDL2.out]
            refine wpList_store_mid rfl 55 _ _ rfl w.heap.size 0 _ rfl rfl (there_of_block FV.out 0 _ (by rw [hsz]; decide)) (by rw [hsz]; kernel_rfl) (u8s_cells _) ?_
            have FX := Lib.hid (put_row_ (D := D2) (by rw [HDL2.out, pad_length (by decide)]) FV.out)
            have BX := Lib.hid (below_setCells w.heap.size (Nat.le_refl _) (u8s D2).toArray.toList 0 _ BV.out)
            generalize wv.setCells w.heap.size 0 (u8s D2).toArray.toList = wx at FX BX
            clear hsz
            go_wp2_with fail
            exact bodyPost_ret (v := .agg (u8s D2).toArray) (results_cell_row rfl _ _ w.heap.size 55 _ (0, 0) _ rfl FX.out Tryd.underlying55 rfl (by rw [List.size_toArray, u8s_length, HDL2.out]; kernel_rfl)) rfl ⟨by rw [HMK.out], BX.out⟩
  · have hd : decide ((64 : Int) < (len0 : Int)) = false := by simp; omega
    have hz : len0 ≤ 64 := by omega
    have HKK := Lib.hid (show keyOf key = key by unfold keyOf; rw [if_neg (by rw [HX.out]; omega)])
    have HKN := Lib.hid (show (keyOf key).length = len0 by rw [HKK.out, HX.out])
    have hd' : decide ((64 : Int) < (((keyOf key).length : Nat) : Int)) = false := by rw [HKN.out]; exact hd
    clear h64 hd
    have hd := hd'
    clear hd'
    have HO0 := Lib.hid (show w5.ownsRow w1.heap.size 5 1 (.slice a5 (keyOf key).length c5) (keyOf key).length (u8s (keyOf key)) by rw [HKK.out, HX.out]; exact O5.out)
    have HB0 := Lib.hid B5.out
    clear O5 B5
    have HKL := Lib.hid (keyOf_length key)
    have HPAD := Lib.hid (fun j h => keyOf_pad key j h)
    rw [← HKN.out]
    clear HKK HKN
    generalize keyOf key = K0 at HO0 HKL HPAD hd ⊢
    go_wp2_with fail
    go_loopw [5] (fun v wr => ∃ (j : Nat) (ad : Option Addr) (cp : Nat), K0.length + j ≤ 64 ∧ v = .slice ad (K0.length + j) cp ∧ wr.ownsRow w1.heap.size 5 1 (.slice ad (K0.length + j) cp) (K0.length + j) (u8s (K0 ++ List.replicate j 0)) ∧ Below w1.heap.size w1 wr) (fun v _ => 64 - sliceLen_ v)
    case atStart => exact ⟨0, a5, c5, by have := HKL.out; omega, rfl, by simpa using HO0.out, HB0.out⟩
    case round =>
      obtain ⟨j, ad, cp, hj, rfl, ho, hb⟩ := hrel
      have HO := Lib.hid ho
      have HB := Lib.hid hb
      clear ho hb
      by_cases hlt : K0.length + j < 64
      · have hlt' : ((K0.length : Nat) : Int) + (j : Int) < 64 := by omega
        go_wp2_with (at_builtin; refine wpList_mark ?_)
        refine Lib.hid ?_
        refine append_own rfl (.tmp 25) (.tmp 26) rfl w1.heap.size _ (K0.length + j) (u8s (K0 ++ List.replicate j 0)) rfl (HO.out.alloc _) (some ⟨wr.heap.size, 0, none⟩) 1 1 [0] rfl rfl (fun h => by cases h) (bytes_one wr 0) ?_ ?_ ?_
        · omega
        · have := HB.out.size; simp; omega
        intro v2 w2 hown2 hg2 hv2
        obtain ⟨va, vc, rfl⟩ := row_form' hown2
        rw [show u8s (K0 ++ List.replicate j 0) ++ u8s [0] = u8s (K0 ++ List.replicate (j + 1) 0) by rw [List.replicate_succ']; simp [u8s]] at hown2
        have O2 := Lib.hid hown2
        have B2 := Lib.hid (show Below w1.heap.size w1 w2 from (HB.out.alloc HB.out.size _).grown hg2 (by have := HB.out.size; simp; omega) (own_ge HO.out))
        clear hown2 hg2 hv2
        go_wp2_with fail
        go_roundw
        case rel => exact ⟨j + 1, va, vc, by omega, rfl, O2.out, B2.out⟩
        case measure => simp [sliceLen_]; omega
      · have e64 : K0.length + j = 64 := by omega
        have ho := HO.out
        rw [HPAD.out j e64, e64] at ho
        have HO1 := Lib.hid ho
        rw [e64]
        clear ho hlt HO
        obtain ⟨wo, rfl⟩ : ∃ wo : World, wo = wr := ⟨_, rfl⟩
        have HK8 := Lib.hid (kblock_small H8.out)
        have HKB := Lib.hid (kblock_length key)
        have HMK := Lib.hid (show hmac key text = digest (xored (kblock key) 92 ++ digest (xored (kblock key) 54 ++ text)) from rfl)
        generalize kblock key = kb at HO1 HK8 HKB HMK
        have BW := Lib.hid (Below.refl wo.heap.size wo)
        have HRL := Lib.hid (show wo.heap.size ≤ wo.heap.size from Nat.le_refl _)
        go_wp2_with fail
        go_loopw [7, 8, 9] (fun vi vo i wr => ∃ (k : Nat) (ai : Option Addr) (ci : Nat) (ao : Option Addr) (co : Nat), k ≤ 64 ∧ i = .int .i64 k ∧ vi = .slice ai k ci ∧ vo = .slice ao k co ∧ wr.ownsRow wo.heap.size 5 1 (.slice ai k ci) k (u8s ((xored kb 54).take k)) ∧ wr.ownsRow wo.heap.size 5 1 (.slice ao k co) k (u8s ((xored kb 92).take k)) ∧ Apart (.slice ai k ci) (.slice ao k co) ∧ Below wo.heap.size wo wr) (fun _ _ i _ => 64 - (intOf i).toNat)
        case atStart => exact ⟨0, none, 0, none, 0, Nat.zero_le _, rfl, rfl, rfl, World.ownsRow_nil _ _ _ _, World.ownsRow_nil _ _ _ _, .inl rfl, BW.out⟩
        case round =>
          obtain ⟨k, ai, ci, ao, co, hk, rfl, rfl, rfl, hoi, hoo, hap, hb⟩ := hrel
          have HI := Lib.hid hoi
          have HOO := Lib.hid hoo
          have HA := Lib.hid hap
          have HZ := Lib.hid hb
          clear hoi hoo hap hb
          by_cases hlt2 : k < 64
          · obtain ⟨gk, hgk, _, hck⟩ := own_at HO1.out HKB.out k hlt2
            subst hgk
            have HCK := Lib.hid hck
            have hc1 := (HZ.out.cell (p := ⟨gk, k, none⟩) (block_lt_of_cell hck)).trans hck
            have hx := getD_lt HK8.out (by decide) k
            have HT1 := Lib.hid (xored_take kb 54 k (by rw [HKB.out]; exact hlt2))
            have HT2 := Lib.hid (xored_take kb 92 k (by rw [HKB.out]; exact hlt2))
            generalize kb.getD k 0 = x at hc1 hx HT1 HT2 HCK
            have HX54 := Lib.hid (u8_xor_nat_ x 54 hx (by decide))
            have HX92 := Lib.hid (u8_xor_nat_ x 92 hx (by decide))
            have hi0 : (0 : Int) ≤ (k : Int) := by omega
            have hi1 : (k : Int) < 64 := by omega
            clear hck
            go_wp2_with (at_builtin; refine wpList_mark ?_)
            refine Lib.hid ?_
            refine append1_lies rfl (.tmp 32) (.tmp 38) rfl wo.heap.size _ k (u8s ((xored kb 54).take k)) rfl (HI.out.alloc _) wr.heap.size (x ^^^ 54) rfl ?_ ?_ ?_ ?_
            · exact (cell_of_row _ wr.heap.size 0 _ _ _ (heap_alloc_new wr _)).trans (by first | rfl | exact congrArg (fun y => some (Value.int .u8 y)) HX54.out)
            · omega
            · have := HZ.out.size; simp; omega
            intro gi di w4 ho4 hg4 hat4
            rw [show u8s ((xored kb 54).take k) ++ u8s [x ^^^ 54] = u8s ((xored kb 54).take (k + 1)) by rw [HT1.out]; simp [u8s]] at ho4
            have O4 := Lib.hid ho4
            have P4 := Lib.hid (HA.out.keep (HOO.out.alloc _) hg4)
            have A4 := Lib.hid ((HA.out.next HOO.out hat4 (by simp) : Apart (.slice (some ⟨gi, 0, none⟩) (k + 1) di) _))
            have Z4 := Lib.hid (show Below wo.heap.size wo w4 from (HZ.out.alloc HZ.out.size _).grown hg4 (by have := HZ.out.size; simp; omega) (own_ge HI.out))
            have hc4 := (Z4.out.cell (p := ⟨gk, k, none⟩) (block_lt_of_cell HCK.out)).trans HCK.out
            clear ho4 hg4 hat4 hc1 HI HOO HA HZ
            go_wp2_with (at_builtin; refine wpList_mark ?_)
            refine Lib.hid ?_
            refine append1_lies rfl (.tmp 40) (.tmp 46) rfl wo.heap.size _ k (u8s ((xored kb 92).take k)) rfl (P4.out.alloc _) w4.heap.size (x ^^^ 92) rfl ?_ ?_ ?_ ?_
            · exact (cell_of_row _ w4.heap.size 0 _ _ _ (heap_alloc_new w4 _)).trans (by first | rfl | exact congrArg (fun y => some (Value.int .u8 y)) HX92.out)
            · omega
            · have := Z4.out.size; simp; omega
            intro go do' w5' ho5 hg5 hat5
            rw [show u8s ((xored kb 92).take k) ++ u8s [x ^^^ 92] = u8s ((xored kb 92).take (k + 1)) by rw [HT2.out]; simp [u8s]] at ho5
            have O5' := Lib.hid ho5
            have P5 := Lib.hid (A4.out.symm.keep (O4.out.alloc _) hg5)
            have A5 := Lib.hid ((A4.out.symm.next O4.out hat5 (by simp) : Apart (.slice (some ⟨go, 0, none⟩) (k + 1) do') _).symm)
            have Z5 := Lib.hid (show Below wo.heap.size wo w5' from (Z4.out.alloc Z4.out.size _).grown hg5 (by have := Z4.out.size; simp; omega) (own_ge P4.out))
            clear ho5 hg5 hat5 hc4 O4 P4 A4 Z4
            go_wp2_with fail
            go_roundw
            case rel => exact ⟨k + 1, _, _, _, _, by omega, by go_num, rfl, rfl, P5.out, O5'.out, A5.out, Z5.out⟩
            case measure => simp [intOf]; omega
          · have e : k = 64 := by omega
            subst e
            have hoi := HI.out
            have hoo := HOO.out
            rw [List.take_of_length_le (by rw [xored_length, HKB.out]; exact Nat.le_refl _)] at hoi hoo
            have HI1 := Lib.hid hoi
            have HO2 := Lib.hid hoo
            have HL54 := Lib.hid (show (xored kb 54).length = 64 by rw [xored_length, HKB.out])
            have HL92 := Lib.hid (show (xored kb 92).length = 64 by rw [xored_length, HKB.out])
            have H54 := Lib.hid (xored_small (c := 54) HK8.out (by decide))
            have H92 := Lib.hid (xored_small (c := 92) HK8.out (by decide))
            generalize xored kb 54 = i54 at HI1 HL54 H54 HMK
            generalize xored kb 92 = o92 at HO2 HL92 H92 HMK
            have HTX := Lib.hid (bytes_below HBT.out ((B1.out.trans (HB.out.mono B1.out.size)).trans (HZ.out.mono (B1.out.trans (HB.out.mono B1.out.size)).size)))
            have HWR := Lib.hid (show w.heap.size ≤ wo.heap.size from Nat.le_trans B1.out.size HB.out.size)
            have HHL := Lib.hid (show w.heap.size < wo.heap.size from Nat.lt_of_lt_of_le (lt_of_heap_ F1.out) HB.out.size)
            have HFZ := Lib.hid (free_below_ (free_below_ F1.out HB.out) HZ.out)
            have BZ := Lib.hid (show Below w.heap.size w wr from (B1.out.trans (HB.out.mono B1.out.size)).trans (HZ.out.mono (B1.out.trans (HB.out.mono B1.out.size)).size))
            clear hoi hoo hlt2 HI HOO HO1 B1 F1 HB HB0 HO0
            have hwz := HZ.out.size
            go_upto_region 14 with (fail)
            refine wp_region_lit ?_
            refine wpList_plain rfl (fun K hK => ?_)
            go_simp
            refine hK _ _ ?_
            clear hK K
            refine wpList_plain rfl (fun K hK => ?_)
            go_simp
            refine hK _ _ ?_
            clear hK K
            refine append_own rfl (.tmp 48) (.tmp 49) rfl wo.heap.size _ 64 (u8s i54) rfl HI1.out a1 len1 cap1 text rfl HY.out HN1.out (bytes_src HTX.out) (by omega) hwz ?_
            intro vq wq hownq hgq hvq
            obtain ⟨aq, cq, rfl⟩ := row_form' hownq
            rw [show u8s i54 ++ u8s text = u8s (i54 ++ text) by simp [u8s]] at hownq
            have OQ := Lib.hid hownq
            have PQ := Lib.hid (HA.out.keep HO2.out hgq)
            have ZQ := Lib.hid (show Below wo.heap.size wo wq from HZ.out.grown hgq HZ.out.size (own_ge HI1.out))
            have BQ := Lib.hid (show Below w.heap.size w wq from BZ.out.grown hgq BZ.out.size (fun k hk => by have := own_ge HI1.out k hk; have := HWR.out; omega))
            have FQ := Lib.hid (show Free32_ wq w.heap.size from (hgq.block _ (lt_of_heap_ HFZ.out) (fun e => by have := own_ge HI1.out _ e.symm; have := HHL.out; omega)).trans HFZ.out)
            have HQB := Lib.hid (own_bytes_n OQ.out (by rw [List.length_append, HL54.out, HY.out]))
            have HQN := Lib.hid (show aq = none → 64 + len1 = 0 ∧ cq = 0 from fun h => row_nil OQ.out aq (64 + len1) cq rfl h)
            have HQ8 := Lib.hid (show ∀ x ∈ i54 ++ text, x < 256 from fun x hx => by rcases List.mem_append.1 hx with h | h; exact H54.out x h; exact HT8.out x h)
            clear hownq hgq hvq OQ HA HI1 HO2 HZ BZ HFZ HTX hwz
            go_wp2_with fail
            refine (rof_any aq (64 + len1) cq (i54 ++ text) _ (by rw [List.length_append, HL54.out, HY.out]) HQ8.out (by omega) HQB.out HQN.out).mono ?_
            rintro e ws ⟨rfl, hbs⟩
            have BS := Lib.hid hbs
            have HDL1 := Lib.hid (digest_len (i54 ++ text))
            have HD81 := Lib.hid (digest_small (i54 ++ text))
            generalize digest (i54 ++ text) = D1 at HDL1 HD81 HMK ⊢
            clear hbs HQB HQN HQ8
            dsimp only
            rename_i hK
            refine hK _ _ ?_
            clear hK
            refine wpList_plain rfl (fun K hK => ?_)
            go_simp
            refine hK _ _ ?_
            clear hK K
            have hsz : (u8s D1).toArray.size = 32 := by rw [List.size_toArray, u8s_length, HDL1.out]
            change wpList _ _ _ _ _ (ws.alloc (.cells (u8s (pad 32 [])).toArray 55))
            refine wpList_store_mid rfl 55 _ _ rfl ws.heap.size 0 _ rfl rfl (there_of_block (heap_alloc_new ws (.cells (u8s (pad 32 [])).toArray 55)) 0 _ (by rw [hsz]; decide)) (by rw [hsz]; kernel_rfl) (u8s_cells _) ?_
            obtain ⟨wt, hw, hrow, hbel⟩ := alloc_row ws 55 (pad 32 []) D1 (by rw [HDL1.out, pad_length (by decide)])
            change wpList _ _ _ _ _ ((ws.alloc (.cells (u8s (pad 32 [])).toArray 55)).setCells ws.heap.size 0 (u8s D1).toArray.toList)
            rw [hw]
            have Rwt := Lib.hid hrow
            have Ewt := Lib.hid hbel
            clear hw hrow hbel hsz
            have BT := Lib.hid (BS.out.trans (Ewt.out.mono BS.out.size))
            have PT := Lib.hid (own_below PQ.out BT.out)
            have FT := Lib.hid (free_below_ FQ.out BT.out)
            have BTW := Lib.hid (BQ.out.trans (BT.out.mono BQ.out.size))
            have HRT := Lib.hid (row_all_ Rwt.out HDL1.out)
            have HTZ := Lib.hid (show wo.heap.size ≤ wt.heap.size from Nat.le_trans ZQ.out.size BT.out.size)
            clear BS Ewt Rwt BT PQ FQ BQ ZQ
            generalize ws.heap.size = N1 at HRT
            go_upto_region 15 with (fail)
            refine wp_region_lit ?_
            refine wpList_plain rfl (fun K hK => ?_)
            go_simp
            refine hK _ _ ?_
            clear hK K
            refine wpList_plain rfl (fun K hK => ?_)
            go_simp
            refine hK _ _ ?_
            clear hK K
            refine append_own rfl (.tmp 52) (.tmp 53) rfl wo.heap.size _ 64 (u8s o92) rfl PT.out (some ⟨N1, 0, none⟩) 32 32 D1 rfl HDL1.out (fun h => by cases h) (bytes_src HRT.out) (by omega) HTZ.out ?_
            intro vu wu hownu hgu hvu
            rw [show (64 + 32 : Nat) = 96 from rfl] at hownu
            obtain ⟨au, cu, rfl⟩ := row_form' hownu
            rw [show u8s o92 ++ u8s D1 = u8s (o92 ++ D1) by simp [u8s]] at hownu
            have BU := Lib.hid (show Below w.heap.size w wu from BTW.out.grown hgu BTW.out.size (fun k hk => by have := own_ge PT.out k hk; have := HWR.out; omega))
            have FU := Lib.hid (show Free32_ wu w.heap.size from (hgu.block _ (lt_of_heap_ FT.out) (fun e => by have := own_ge PT.out _ e.symm; have := HHL.out; omega)).trans FT.out)
            have HUB := Lib.hid (own_bytes_n hownu (by rw [List.length_append, HL92.out, HDL1.out]))
            have HUN := Lib.hid (show au = none → 96 = 0 ∧ cu = 0 from fun h => row_nil hownu au 96 cu rfl h)
            have HU8 := Lib.hid (show ∀ x ∈ o92 ++ D1, x < 256 from fun x hx => by rcases List.mem_append.1 hx with h | h; exact H92.out x h; exact HD81.out x h)
            clear hownu hgu hvu PT FT BTW HRT HTZ
            go_wp2_with fail
            refine (rof_any au 96 cu (o92 ++ D1) _ (by rw [List.length_append, HL92.out, HDL1.out]) HU8.out (by omega) HUB.out HUN.out).mono ?_
            rintro e wv ⟨rfl, hbv⟩
            have FV := Lib.hid (free_below_ FU.out hbv)
            have BV := Lib.hid (BU.out.trans (hbv.mono BU.out.size))
            have HDL2 := Lib.hid (digest_len (o92 ++ D1))
            generalize digest (o92 ++ D1) = D2 at HDL2 HMK ⊢
            clear hbv HUB HUN HU8 FU BU
            dsimp only
            rename_i hK
            refine hK _ _ ?_
            clear hK
            have hsz : (u8s D2).toArray.size = 32 := by rw [List.size_toArray, u8s_length, HDL2.out]
            refine wpList_store_mid rfl 55 _ _ rfl w.heap.size 0 _ rfl rfl (there_of_block FV.out 0 _ (by rw [hsz]; decide)) (by rw [hsz]; kernel_rfl) (u8s_cells _) ?_
            have FX := Lib.hid (put_row_ (D := D2) (by rw [HDL2.out, pad_length (by decide)]) FV.out)
            have BX := Lib.hid (below_setCells w.heap.size (Nat.le_refl _) (u8s D2).toArray.toList 0 _ BV.out)
            generalize wv.setCells w.heap.size 0 (u8s D2).toArray.toList = wx at FX BX
            clear hsz
            go_wp2_with fail
            exact bodyPost_ret (v := .agg (u8s D2).toArray) (results_cell_row rfl _ _ w.heap.size 55 _ (0, 0) _ rfl FX.out Tryd.underlying55 rfl (by rw [List.size_toArray, u8s_length, HDL2.out]; kernel_rfl)) rfl ⟨by rw [HMK.out], BX.out⟩
end Sha
end Go.Proofs.YtdiidfkmmgcjmaaDoor
