/- awake and size of the laws of input. -/
import Derived.Test.YthjocmcafoifbaaDoorInpRead
import Derived.Test.YthjocmcafoifbaaDoorInpWrite
import Derived.Test.YthjocmcafoifbaaDoorInpSame
import Derived.Test.YthjocmcafoifbaaDoorBunErr
namespace Go.Proofs.YthjocmcafoifbaaDoor
open Go.RowKit Sha Cut Err Six Att Byt Apd
namespace Inp
theorem lit3_in (w : World) (x y z : Nat) : BytesIn (w.alloc (.cells #[.int .u8 (x : Int), .int .u8 (y : Int), .int .u8 (z : Int)] 5)) (.slice (some ⟨w.heap.size, 0, none⟩) 3 3) [x, y, z] := lit_in w [x, y, z]
theorem lit2_in (w : World) (x y : Nat) : BytesIn (w.alloc (.cells #[.int .u8 (x : Int), .int .u8 (y : Int)] 5)) (.slice (some ⟨w.heap.size, 0, none⟩) 2 2) [x, y] := lit_in w [x, y]
set_option maxRecDepth 100000 in
set_option maxHeartbeats 4000000 in
theorem awake_any (w : World) (hg : Handle w) : Calls Tryd.prog 8 #[] w fun e w' => e = .returned (.bool true) ∧ Below w.heap.size w w' := by
  have c1 : iread [125, 64, 193] 80 = (⟨125, 1, []⟩, 0, -1) := by kernel_rfl
  have c2 : iread [109, 64] 80 = (noneI, 1, 1) := by kernel_rfl
  have c3 : iwrite ⟨109, 0, []⟩ 80 = ([109], 0, -1) := by decide +kernel
  have HR1 := fun W (hh : Handle W) => read_any (xs := [125, 64, 193]) (some ⟨W.heap.size, 0, none⟩) 3 3 80 (W.alloc (.cells #[.int .u8 125, .int .u8 64, .int .u8 193] 5)) (hand_alloc hh _) (lit3_in W 125 64 193) (by decide) nofun (by decide) _ c1.symm
  have HR2 := fun W (hh : Handle W) => read_any (xs := [109, 64]) (some ⟨W.heap.size, 0, none⟩) 2 2 80 (W.alloc (.cells #[.int .u8 109, .int .u8 64] 5)) (hand_alloc hh _) (lit2_in W 109 64) (by decide) nofun (by decide) _ c2.symm
  have HWR := fun W => write_any ⟨109, 0, []⟩ none 0 0 80 W (by decide) (fldsIn_nil _ _) nofun (by decide) (by decide) (by decide) _ c3.symm
  simp only [show ((80 : Nat) : Int) = 80 from rfl, show ((125 : Nat) : Int) = 125 from rfl, errR, if_true, show ((0 : Nat) : Int) = 0 from rfl] at HR1
  simp only [show ((80 : Nat) : Int) = 80 from rfl, noneI, show ((1 : Nat) : Int) = 1 from rfl, show ((0 : Nat) : Int) = 0 from rfl, errR, show ¬ ((1 : Nat) = 0) by decide, if_false] at HR2
  simp only [show ((80 : Nat) : Int) = 80 from rfl, show ((109 : Nat) : Int) = 109 from rfl, show [109].length = 1 from rfl] at HWR
  have HR1 := Lib.hid HR1
  have HR2 := Lib.hid HR2
  have HWR := Lib.hid HWR
  have HH := Lib.hid hg
  clear hg c1 c2 c3
  go_enter Tryd.func8, Tryd.ntmps8
  go_wp2_with fail
  with_reducible refine (HR1.out w HH.out).mono ?_
  rintro e w1 ⟨oa, k, oc, b, rfl, ho, _, hb⟩
  have K1 := Lib.hid (kept_trans (al_any w _) hb)
  obtain rfl := ho.len
  have HS := al_any w1 (.cells #[.int .u8 125, .int .i64 1, .slice oa 0 oc] 27)
  have O2 := Lib.hid ((ho.mono (Nat.zero_le _)).below HS)
  have L2 := Lib.hid (heap_alloc_new w1 (.cells #[.int .u8 125, .int .i64 1, .slice oa 0 oc] 27))
  have K2 := kept_hid K1 HS
  clear ho hb HS K1 HR1
  go_wp2_with fail
  generalize w1.heap.size = L at *
  generalize w1.alloc (.cells #[.int .u8 125, .int .i64 1, .slice oa 0 oc] 27) = w2 at *
  with_reducible refine (HWR.out w2).mono ?_
  rintro e w3 ⟨va, vc, ev, rfl, hb, hS, _⟩
  obtain rfl := hS.none rfl
  have O3 := Lib.hid (O2.out.below hb)
  have L3 := Lib.hid (blk L2.out hb)
  have K3 := kept_hid K2 hb
  have H3 := Lib.hid (hand_of HH.out K3.out)
  clear hS hb O2 L2 K2 HWR
  go_wp2_with fail
  with_reducible refine (HR2.out w3 H3.out).mono ?_
  rintro e w4 ⟨oa2, k2, oc2, b2, rfl, _, ht, hb⟩
  have hb4 := kept_trans (al_any w3 (.cells #[.int .u8 109, .int .u8 64] 5)) hb
  have HS := al_any w4 (.cells #[.int .u8 0, .int .i64 0, .slice oa2 k2 oc2] 27)
  have O5 := Lib.hid ((O3.out.below hb4).below HS)
  have L5 := Lib.hid (blk (blk L3.out hb4) HS)
  obtain ⟨c0, c1, c2⟩ := cells3 (blk L3.out hb4)
  have l4 := there_lt (blk L3.out hb4)
  have K5 := kept_hid (kept_hid K3 hb4) HS
  have T5 := Lib.hid (ht.below HS)
  clear ht hb hb4 HS O3 L3 K3 HR2 H3
  have HH5 := Lib.hid (hand_of HH.out K5.out)
  go_wp2_with fail
  clear l4 c0 c1 c2
  generalize w4.alloc (.cells #[.int .u8 0, .int .i64 0, .slice oa2 k2 oc2] 27) = w5 at *
  with_reducible refine (code_told _ 1 1 w5 HH5.out T5.out).mono ?_
  rintro e w6 ⟨rfl, hb⟩
  have O6 := Lib.hid (O5.out.below hb)
  have L6 := Lib.hid (blk L5.out hb)
  have K6 := kept_hid K5 hb
  clear hb O5 L5 K5 T5 HH5
  obtain ⟨c0, c1, c2⟩ := cells3 L6.out
  go_wp2_with fail
  clear c0 c1 c2
  have HSM := isame_any ⟨125, 1, []⟩ ⟨125, 1, []⟩ oa 0 oc oa 0 oc w6 O6.out O6.out nofun nofun (by decide)
  rw [isame_self] at HSM
  simp only [show ((125 : Nat) : Int) = 125 from rfl] at HSM
  have HSM := Lib.hid HSM
  with_reducible refine HSM.out.mono ?_
  rintro e w7 ⟨rfl, hb⟩
  have K7 := kept_hid K6 hb
  clear hb HSM
  go_wp2_with fail
  go_ret
  exact ⟨rfl, K7.out⟩
theorem size_any (n : Nat) (w : World) (hn : n < 65536) :
    Calls Tryd.prog 10 #[.int .u16 (n : Int)] w fun e w' => e = .returned (.int .i64 ((1 + n % 16383 : Nat) : Int)) ∧ w = w' := by
  have HE := Lib.hid (show ((1 + n % 16383 : Nat) : Int) = 1 + (n : Int) % 16383 by omega)
  rw [HE.out]
  go_enter Tryd.func10, Tryd.ntmps10
  go_wp2
  go_ret
  exact ⟨rfl, rfl⟩
end Inp
end Go.Proofs.YthjocmcafoifbaaDoor
