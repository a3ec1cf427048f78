/- The small functions of package addr return what they say. -/
import Derived.Test.YtllpmgddcpgegaaDoorAddrSize
namespace Go.Proofs.YtllpmgddcpgegaaDoor
open Go.RowKit Err Six
namespace Adr
theorem putShort_any (x y : Nat) (w : World) (hx : x < 64) (hy : y < 64) :
    Calls Tryd.prog 51 #[.int .i64 (x : Int), .int .i64 (y : Int)] w fun e w' => e = .returned (.agg #[.int .u8 (put x : Nat), .int .u8 (put y : Nat)]) ∧ Below w.heap.size w w' := by
  have HX := fun W => put_any x W hx
  have HY := fun W => put_any y W hy
  generalize put x = p at HX
  generalize put y = q at HY
  go_enter Tryd.func51, Tryd.ntmps51
  go_wp2_with fail
  refine (HX _).mono ?_
  rintro e w1 ⟨rfl, m, rfl⟩
  clear HX
  go_wp2_with fail
  refine (HY _).mono ?_
  rintro e w2 ⟨rfl, m2, rfl⟩
  clear HY
  go_wp2_with fail
  obtain ⟨h1, h2⟩ := two_set w (m + m2) 54 (.int .u8 0) (.int .u8 0) (.int .u8 (p : Int)) (.int .u8 (q : Int))
  have H1 := Lib.hid h1
  have H2 := Lib.hid h2
  clear h1 h2
  generalize ((((w.alloc (.cells #[.int .u8 0, .int .u8 0] 54)).drewN (m + m2)).setCell ⟨w.heap.size, 0, none⟩ (.int .u8 (p : Int))).setCell ⟨w.heap.size, 1, none⟩ (.int .u8 (q : Int))) = wz at *
  exact bodyPost_ret (v := .agg #[.int .u8 (p : Int), .int .u8 (q : Int)]) (results_cell_row rfl _ _ w.heap.size 54 _ (0, 0) _ rfl H1.out Tryd.underlying54 rfl (by kernel_rfl)) rfl ⟨rfl, H2.out⟩
end Adr
end Go.Proofs.YtllpmgddcpgegaaDoor
