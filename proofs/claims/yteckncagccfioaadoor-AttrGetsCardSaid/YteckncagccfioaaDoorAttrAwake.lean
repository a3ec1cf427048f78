/- 'awake' of the statements about package attr answers true. -/
import Derived.Test.YteckncagccfioaaDoorAttrWcc
namespace Go.Proofs.YteckncagccfioaaDoor
open Go.RowKit Six Err
namespace Att
theorem put_prot (w : World) :
    Calls Tryd.prog 5 #[.agg #[.bool true, .bool false, .int .i64 0, .bool false]] w fun e w' => e = .returned (.tuple #[.int .u8 96, .nilIface]) ∧ Below w.heap.size w w' := put_ok true false false 0 w (by decide)
theorem get_64 (w : World) :
    Calls Tryd.prog 11 #[.int .u8 64] w fun e w' => e = .returned (.tuple #[.agg #[.bool false, .bool false, .int .i64 0, .bool false], .nilIface]) ∧ Below w.heap.size w w' := get_ok false false false 0 w (by decide)
theorem putWcc_unlock (w : World) :
    Calls Tryd.prog 7 #[.agg #[.bool false, .bool true, .bool false]] w fun e w' => e = .returned (.int .u8 194) ∧ Below w.heap.size w w' := putWcc_any false true false w
theorem char_64 (w : World) :
    Calls Tryd.prog 15 #[.int .u8 64] w fun e w' => e = .returned (.bool true) ∧ w = w' := char_any 64 w (by decide)
theorem aid_125 (w : World) :
    Calls Tryd.prog 17 #[.int .u8 125] w fun e w' => e = .returned (.bool true) ∧ w = w' := aid_any 125 w (by decide)
theorem bare_109 (w : World) :
    Calls Tryd.prog 19 #[.int .u8 109] w fun e w' => e = .returned (.bool true) ∧ w = w' := bare_any 109 w (by decide)
set_option maxRecDepth 100000 in
set_option maxHeartbeats 4000000 in
theorem awake_any (w : World) :
    Calls Tryd.prog 6 #[] w fun e w' => e = .returned (.bool true) ∧ Below w.heap.size w w' := by
  go_enter Tryd.func6, Tryd.ntmps6
  go_wp2_with fail
  with_reducible refine (put_prot _).mono ?_
  rintro e w1 ⟨rfl, hb1⟩
  have H1 := Lib.hid hb1
  clear hb1
  go_wp2_with fail
  with_reducible refine (get_64 _).mono ?_
  rintro e w2 ⟨rfl, hb2⟩
  have H2 := kept_hid H1 hb2
  clear hb2 H1
  go_wp2_with fail
  with_reducible refine (putWcc_unlock _).mono ?_
  rintro e w3 ⟨rfl, hb3⟩
  have H3 := kept_hid (kept_alloc H2 _) hb3
  clear hb3 H2
  go_wp2_with fail
  with_reducible refine (char_64 _).mono ?_
  rintro e w4 ⟨rfl, rfl⟩
  go_wp2_with fail
  with_reducible refine (aid_125 _).mono ?_
  rintro e w4 ⟨rfl, rfl⟩
  go_wp2_with fail
  with_reducible refine (bare_109 _).mono ?_
  rintro e w4 ⟨rfl, rfl⟩
  go_wp2_with fail
  go_ret
  exact ⟨rfl, H3.out⟩
end Att
end Go.Proofs.YteckncagccfioaaDoor
