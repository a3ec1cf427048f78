/- awake and size of the laws of stream. -/
import Derived.Test.YtmllmmamdkjndaaDoorStrRead
import Derived.Test.YtmllmmamdkjndaaDoorStrWrite
import Derived.Test.YtmllmmamdkjndaaDoorStrSame
import Derived.Test.YtmllmmamdkjndaaDoorBunErr
namespace Go.Proofs.YtmllmmamdkjndaaDoor
open Go.RowKit Sha Cut Err Six Att Byt Apd
namespace Str
open Go.Proofs.YtmllmmamdkjndaaDoor.Ord
theorem lit2_in (w : World) (x y : Nat) : BytesIn (w.alloc (.cells #[.int .u8 (x : Int), .int .u8 (y : Int)] 5)) (.slice (some ⟨w.heap.size, 0, none⟩) 2 2) [x, y] := lit_in w [x, y]
set_option maxRecDepth 100000 in
set_option maxHeartbeats 4000000 in
theorem awake_any (w : World) (hg : Handle w) : Calls Tryd.prog 8 #[] w fun e w' => e = .returned (.bool true) ∧ Below w.heap.size w w' := by
  have c1 : cread [245, 194] 80 = (⟨245, false, true, false, []⟩, 0, -1) := by kernel_rfl
  have c2 : cread [242, 64] 80 = (noneC, 1, 1) := by kernel_rfl
  have c3 : cwrite ⟨242, false, false, false, []⟩ 80 = ([242], 0, -1) := by decide +kernel
  have HR1 := fun W => read_ok (xs := [245, 194]) (some ⟨W.heap.size, 0, none⟩) 2 80 (W.alloc (.cells #[.int .u8 245, .int .u8 194] 5)) (lit2_in W 245 194) (by decide) nofun (by decide) (by rw [c1])
  have HR2 := fun W => read_bad (xs := [242, 64]) (some ⟨W.heap.size, 0, none⟩) 2 80 (W.alloc (.cells #[.int .u8 242, .int .u8 64] 5)) (lit2_in W 242 64) (by decide) nofun (by decide) (by rw [c2]; decide)
  have HWR := fun W => write_any ⟨242, false, false, false, []⟩ none 0 0 80 W (ordsIn_nil _ _) nofun (by decide) (by decide) (by decide)
  simp only [c1, show ((80 : Nat) : Int) = 80 from rfl, show [245, 194].length = 2 from rfl] at HR1
  simp only [c2, show ((80 : Nat) : Int) = 80 from rfl, show [242, 64].length = 2 from rfl, show ((1 : Nat) : Int) = 1 from rfl] at HR2
  simp only [Wrote, c3, show ((80 : Nat) : Int) = 80 from rfl] at HWR
  have HR1 := Lib.hid HR1
  have HR2 := Lib.hid HR2
  have HWR := Lib.hid HWR
  have HH := Lib.hid hg
  clear hg c1 c2 c3
  go_enter Tryd.func8, Tryd.ntmps8
  go_wp2_with fail
  with_reducible refine (HR1.out w).mono ?_
  rintro e w1 ⟨oa, k, oc, rfl, ho, hb⟩
  have K1 := Lib.hid (kept_trans (al_any w _) hb)
  obtain rfl := ho.len
  have HS := al_any w1 (.cells #[.int .i64 245, .bool false, .bool true, .bool false, .slice oa 0 oc] 26)
  have O2 := Lib.hid ((ho.mono (Nat.zero_le _)).below HS)
  have L2 := Lib.hid (heap_alloc_new w1 (.cells #[.int .i64 245, .bool false, .bool true, .bool false, .slice oa 0 oc] 26))
  have K2 := kept_hid K1 HS
  clear ho hb HS K1 HR1
  go_wp2_with fail
  generalize w1.heap.size = L at *
  generalize w1.alloc (.cells #[.int .i64 245, .bool false, .bool true, .bool false, .slice oa 0 oc] 26) = w2 at *
  with_reducible refine (HWR.out w2).mono ?_
  rintro e w3 ⟨v, ev, rfl, hb, hc⟩
  rcases hc with ⟨_, rfl, hown⟩ | ⟨h, _⟩
  rotate_left
  · exact absurd rfl h
  obtain ⟨va, vc, rfl⟩ := own_form hown
  have O3 := Lib.hid (O2.out.below hb)
  have L3 := Lib.hid (blk L2.out hb)
  have K3 := kept_hid K2 hb
  clear hown hb O2 L2 K2 HWR
  go_wp2_with fail
  with_reducible refine (HR2.out w3).mono ?_
  rintro e w4 ⟨ev, rfl, ht, hb⟩
  have hb4 := kept_trans (al_any w3 (.cells #[.int .u8 242, .int .u8 64] 5)) hb
  have HS := al_any w4 (.cells #[.int .i64 0, .bool false, .bool false, .bool false, .slice none 0 0] 26)
  have O5 := Lib.hid ((O3.out.below hb4).below HS)
  have L5 := Lib.hid (blk (blk L3.out hb4) HS)
  obtain ⟨c0, c1, c2, c3, c4⟩ := cells5w (blk L3.out hb4)
  have l4 := there_lt (blk L3.out hb4)
  have K5 := kept_hid (kept_hid K3 hb4) HS
  have T5 := Lib.hid (ht.below HS)
  clear ht hb hb4 HS O3 L3 K3 HR2
  have HH5 := Lib.hid (hand_of HH.out K5.out)
  go_wp2_with fail
  clear l4 c0 c1 c2 c3 c4
  generalize w4.alloc (.cells #[.int .i64 0, .bool false, .bool false, .bool false, .slice none 0 0] 26) = w5 at *
  with_reducible refine (code_told ev 1 1 w5 HH5.out T5.out).mono ?_
  rintro e w6 ⟨rfl, hb⟩
  have O6 := Lib.hid (O5.out.below hb)
  have L6 := Lib.hid (blk L5.out hb)
  have K6 := kept_hid K5 hb
  clear hb O5 L5 K5 T5 HH5
  obtain ⟨c0, c1, c2, c3, c4⟩ := cells5w L6.out
  go_wp2_with fail
  with_reducible refine (writes_any 245 w6).mono ?_
  rintro e w' ⟨rfl, rfl⟩
  go_wp2_with fail
  clear c0 c1 c2 c3 c4
  have HSM := csame_any ⟨245, false, true, false, []⟩ ⟨245, false, true, false, []⟩ oa 0 oc oa 0 oc w6 O6.out O6.out nofun nofun (by decide)
  rw [(csame_iff _ _).2 rfl] at HSM
  have HSM := Lib.hid HSM
  with_reducible refine HSM.out.mono ?_
  rintro e w7 ⟨rfl, hb⟩
  have K7 := kept_hid K6 hb
  clear hb HSM
  go_wp2_with fail
  go_ret
  exact ⟨rfl, K7.out⟩
theorem size_any (n : Nat) (w : World) (hn : n < 65536) :
    Calls Tryd.prog 11 #[.int .u16 (n : Int)] w fun e w' => e = .returned (.int .i64 ((1 + n % 16383 : Nat) : Int)) ∧ w = w' := by
  have HE := Lib.hid (show ((1 + n % 16383 : Nat) : Int) = 1 + (n : Int) % 16383 by omega)
  rw [HE.out]
  go_enter Tryd.func11, Tryd.ntmps11
  go_wp2
  go_ret
  exact ⟨rfl, rfl⟩
end Str
end Go.Proofs.YtmllmmamdkjndaaDoor
