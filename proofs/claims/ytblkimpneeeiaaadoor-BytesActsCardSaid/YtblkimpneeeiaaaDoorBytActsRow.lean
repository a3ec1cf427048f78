/- The walk of BytesActs, over what comes in. -/
import Derived.Test.YtblkimpneeeiaaaDoorBytActs
import Derived.Test.YtblkimpneeeiaaaDoorOpnAct
namespace Go.Proofs.YtblkimpneeeiaaaDoor
open Go.RowKit Sha Err Six
namespace Byt
set_option maxRecDepth 100000 in
set_option maxHeartbeats 1000000 in
theorem acts_long0 (a0 : Option Addr) (len0 cap0 : Nat) (m : Int) (a2 : Option Addr) (len2 cap2 : Nat) (w : World) (h : 300 < len0) (hg0 : Handle w) :
    Calls Tryd.prog 3 #[.slice a0 len0 cap0, .int .i64 m, .slice a2 len2 cap2] w fun e w' => e = .returned (.bool true) ∧ Below w.heap.size w w' := by
  have hg : decide ((300 : Int) < (len0 : Int)) = true := by simp; omega
  go_enter Tryd.func3, Tryd.ntmps3
  go_wp2_with fail
  refine (awake_any _ hg0).mono ?_
  rintro e w1 ⟨rfl, hb1⟩
  have hg1 := hand_of hg0 hb1
  have H1 := Lib.hid hb1
  clear hb1 hg0
  go_wp2_with fail
  refine (awake_any _ hg1).mono ?_
  rintro e w2 ⟨rfl, hb2⟩
  have H2 := kept_hid H1 hb2
  clear hb2 hg1 H1
  go_wp2_with fail
  go_ret
  exact ⟨rfl, H2.out⟩
set_option maxRecDepth 100000 in
set_option maxHeartbeats 1000000 in
theorem acts_long1 (a0 : Option Addr) (len0 cap0 : Nat) (m : Int) (a2 : Option Addr) (len2 cap2 : Nat) (w : World) (h0 : len0 ≤ 300) (h : 60 < len2) (hg0 : Handle w) :
    Calls Tryd.prog 3 #[.slice a0 len0 cap0, .int .i64 m, .slice a2 len2 cap2] w fun e w' => e = .returned (.bool true) ∧ Below w.heap.size w w' := by
  have hg : decide ((300 : Int) < (len0 : Int)) = false := by simp; omega
  have hg' : decide ((60 : Int) < (len2 : Int)) = true := by simp; omega
  go_enter Tryd.func3, Tryd.ntmps3
  go_wp2_with fail
  refine (awake_any _ hg0).mono ?_
  rintro e w1 ⟨rfl, hb1⟩
  have hg1 := hand_of hg0 hb1
  have H1 := Lib.hid hb1
  clear hb1 hg0
  go_wp2_with fail
  refine (awake_any _ hg1).mono ?_
  rintro e w2 ⟨rfl, hb2⟩
  have H2 := kept_hid H1 hb2
  clear hb2 hg1 H1
  go_wp2_with fail
  go_ret
  exact ⟨rfl, H2.out⟩
theorem acts_row (a0 : Option Addr) (len0 cap0 : Nat) (z0 : List Int) (a1 : Int) (a2 : Option Addr) (len2 cap2 : Nat) (l : List (Int × Int)) (w : World) (w0 : IsRow .u8 w a0 len0 cap0 z0) (_w1 : (Lit.int .i64 a1).wf = true) (w2 : Opn.Pairs w a2 len2 l) (hg : Handle w) :
    Calls Tryd.prog 3 #[.slice a0 len0 cap0, .int .i64 a1, .slice a2 len2 cap2] w fun e w' => e = .returned (.bool true) ∧ Below w.heap.size w w' := by
  by_cases h0 : 300 < len0
  · exact acts_long0 a0 len0 cap0 a1 a2 len2 cap2 w h0 hg
  by_cases h1 : 60 < len2
  · exact acts_long1 a0 len0 cap0 a1 a2 len2 cap2 w (by omega) h1 hg
  obtain ⟨xs, hx, hx8, hbx⟩ := isRow_bytes w0
  obtain ⟨hl, hc⟩ := w2
  exact acts_main a0 len0 cap0 a1 a2 len2 cap2 w (by omega) (by omega) xs l hx hl hx8 hbx ⟨a2, cap2, by rw [hl], hc⟩ (isRow_nil w0) hg
end Byt
end Go.Proofs.YtblkimpneeeiaaaDoor
