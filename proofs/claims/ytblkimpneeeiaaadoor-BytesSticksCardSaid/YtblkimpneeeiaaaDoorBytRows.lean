/- The walks of the laws of layer 6, over what comes in. -/
import Derived.Test.YtblkimpneeeiaaaDoorBytTake
import Derived.Test.YtblkimpneeeiaaaDoorBytSticks
import Derived.Test.YtblkimpneeeiaaaDoorBytKeeps
namespace Go.Proofs.YtblkimpneeeiaaaDoor
open Go.RowKit Sha Err Six
namespace Byt
theorem take_row (a0 : Option Addr) (len0 cap0 : Nat) (z0 : List Int) (a1 : Option Addr) (len1 cap1 : Nat) (z1 : List Int) (w : World) (w0 : IsRow .u8 w a0 len0 cap0 z0) (w1 : IsRow .u8 w a1 len1 cap1 z1) (hg : Handle w) :
    Calls Tryd.prog 4 #[.slice a0 len0 cap0, .slice a1 len1 cap1] w fun e w' => e = .returned (.bool true) ∧ Below w.heap.size w w' := by
  by_cases h0 : 300 < len0
  · exact take_long0 a0 len0 cap0 a1 len1 cap1 w h0 hg
  by_cases h1 : 100 < len1
  · exact take_long1 a0 len0 cap0 a1 len1 cap1 w (by omega) h1 hg
  obtain ⟨xs, hx, hx8, hbx⟩ := isRow_bytes w0
  obtain ⟨ps, hp, hp8, hbp⟩ := isRow_bytes w1
  exact take_main a0 len0 cap0 a1 len1 cap1 w (by omega) (by omega) xs ps hx hp hx8 hp8 hbx hbp (isRow_nil w0) hg
theorem sticks_row (a0 : Option Addr) (len0 cap0 : Nat) (z0 : List Int) (a1 a2 : Int) (w : World) (w0 : IsRow .u8 w a0 len0 cap0 z0) (w1 : (Lit.int .u8 a1).wf = true) (_w2 : (Lit.int .i64 a2).wf = true) (hg : Handle w) :
    Calls Tryd.prog 5 #[.slice a0 len0 cap0, .int .u8 a1, .int .i64 a2] w fun e w' => e = .returned (.bool true) ∧ Below w.heap.size w w' := by
  have hb := bounds_u8 w1
  obtain ⟨n, rfl⟩ := Int.eq_ofNat_of_zero_le (a := a1) (by omega)
  by_cases h0 : 300 < len0
  · exact sticks_long a0 len0 cap0 n a2 w h0 hg
  obtain ⟨xs, hx, hx8, hbx⟩ := isRow_bytes w0
  exact sticks_main a0 len0 cap0 n a2 w (by omega) xs hx (by omega) hx8 hbx (isRow_nil w0) hg
theorem keeps_row (a0 : Option Addr) (len0 cap0 : Nat) (z0 : List Int) (w : World) (w0 : IsRow .u8 w a0 len0 cap0 z0) (hg : Handle w) :
    Calls Tryd.prog 6 #[.slice a0 len0 cap0] w fun e w' => e = .returned (.bool true) ∧ Below w.heap.size w w' := by
  by_cases h0 : 300 < len0
  · exact keeps_long a0 len0 cap0 w h0 hg
  obtain ⟨xs, hx, hx8, hbx⟩ := isRow_bytes w0
  exact keeps_main a0 len0 cap0 w (by omega) xs hx hx8 hbx (isRow_nil w0) hg
end Byt
end Go.Proofs.YtblkimpneeeiaaaDoor
