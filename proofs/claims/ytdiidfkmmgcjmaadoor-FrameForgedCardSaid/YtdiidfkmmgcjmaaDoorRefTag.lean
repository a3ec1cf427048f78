/- 'Tag' of the document's answer is the beginning of the code. -/
import Derived.Test.YtdiidfkmmgcjmaaDoorRefCode
namespace Go.Proofs.YtdiidfkmmgcjmaaDoor
open Go.RowKit Cut Apd
namespace Sha
set_option maxRecDepth 100000 in
set_option maxHeartbeats 2000000 in
theorem rtag_any (a0 : Option Addr) (len0 cap0 : Nat) (a1 : Option Addr) (len1 cap1 : Nat) (key text : List Nat) (w : World) (h0 : len0 ≤ 200) (h1 : len1 ≤ 900) (hx : key.length = len0) (hy : text.length = len1) (h8 : ∀ x ∈ key, x < 256) (ht8 : ∀ x ∈ text, x < 256)
    (hbx : BytesIn w (.slice a0 len0 cap0) key) (hbt : BytesIn w (.slice a1 len1 cap1) text) (hn0 : a0 = none → len0 = 0 ∧ cap0 = 0) (hn1 : a1 = none → len1 = 0 ∧ cap1 = 0) :
    Calls Tryd.prog 22 #[.slice a0 len0 cap0, .slice a1 len1 cap1] w fun e w' => ∃ ad c, e = .returned (.slice ad 16 c) ∧ BytesIn w' (.slice ad 16 c) ((hmac key text).take 16) ∧ Below w.heap.size w w' := by
  have HC := Lib.hid (rcode_any a0 len0 cap0 a1 len1 cap1 key text w h0 h1 hx hy h8 ht8 hbx hbt hn0 hn1)
  clear hx hy h8 ht8 hbx hbt hn0 hn1
  go_enter Tryd.func22, Tryd.ntmps22
  go_wp2_with fail
  refine (HC.out).mono ?_
  rintro e w2 ⟨rfl, hb2⟩
  have B2 := Lib.hid hb2
  have HDL := Lib.hid (hmac_length key text)
  generalize hD : hmac key text = D at HDL ⊢
  have HD := Lib.hid hD
  clear hb2 HC hD
  dsimp only
  rename_i hK
  refine hK _ _ ?_
  clear hK
  refine wpList_plain rfl (fun K hK => ?_)
  go_simp
  refine hK _ _ ?_
  clear hK K
  have hsz : (u8s D).toArray.size = 32 := by rw [List.size_toArray, u8s_length, HDL.out]
  change wpList _ _ _ _ _ (w2.alloc (.cells (u8s (pad 32 [])).toArray 55))
  refine wpList_store_mid rfl 55 _ _ rfl w2.heap.size 0 _ rfl rfl (there_of_block (heap_alloc_new w2 (.cells (u8s (pad 32 [])).toArray 55)) 0 _ (by rw [hsz]; decide)) (by rw [hsz]; kernel_rfl) (u8s_cells _) ?_
  obtain ⟨w3, hw, hrow, hbel⟩ := alloc_row w2 55 (pad 32 []) D (by rw [HDL.out, pad_length (by decide)])
  change wpList _ _ _ _ _ ((w2.alloc (.cells (u8s (pad 32 [])).toArray 55)).setCells w2.heap.size 0 (u8s D).toArray.toList)
  rw [hw]
  have Rw3 := Lib.hid hrow
  have Ew3 := Lib.hid hbel
  clear hw hrow hbel hsz
  have B3 := Lib.hid (B2.out.trans (Ew3.out.mono B2.out.size))
  have HTL := Lib.hid (show (D.take 16).length = 16 by rw [List.length_take, HDL.out]; decide)
  have HS := Lib.hid (row_bytes_ Rw3.out (n := 16) (c := 32) (by rw [HDL.out]; decide) (by decide))
  clear B2 Ew3 Rw3
  generalize w2.heap.size = N at HS
  have HMI := Lib.hid (World.ownsRow_lit (e := 5) (base := w3.heap.size) (size := 1) w3 #[] 0 (Nat.le_refl _) (Nat.zero_le _) rfl)
  have L := Lib.hid ((Below.refl w3.heap.size w3).alloc (Nat.le_refl _) (.cells #[] 5))
  go_upto_region 2 with (fail)
  refine wp_region_lit ?_
  refine wpList_plain rfl (fun K hK => ?_)
  go_simp
  refine hK _ _ ?_
  clear hK K
  refine wpList_plain rfl (fun K hK => ?_)
  go_simp
  refine hK _ _ ?_
  clear hK K
  refine append_own rfl (.tmp 9) (.tmp 10) rfl w3.heap.size _ 0 [] rfl HMI.out (some ⟨N, 0, none⟩) 16 32 (D.take 16) rfl HTL.out (fun h => by cases h) (bytes_src (bytes_below HS.out L.out)) (by omega) (by simp) ?_
  intro v4 w4 hown4 hg4 hv4
  rw [Nat.zero_add, List.nil_append] at hown4
  obtain ⟨a4, c4, rfl⟩ := row_form' hown4
  have HB4 := Lib.hid (own_bytes_n hown4 HTL.out)
  have B4 := Lib.hid (show Below w3.heap.size w3 w4 from L.out.grown hg4 (by simp) (own_ge HMI.out))
  clear hown4 hg4 hv4 HMI L
  go_wp2_with fail
  go_ret
  exact ⟨a4, c4, rfl, by rw [HD.out]; exact HB4.out, B3.out.trans (B4.out.mono B3.out.size)⟩
end Sha
end Go.Proofs.YtdiidfkmmgcjmaaDoor
