/- Few of the document: fields are few, and their texts short. -/
import Derived.Test.YthjocmcafoifbaaDoorInpMore
import Derived.Test.YthjocmcafoifbaaDoorInpMem
import Derived.Deep.LoopGhost
namespace Go.Proofs.YthjocmcafoifbaaDoor
open Go.RowKit Sha Cut Six Att
namespace Inp
def fewB (os : List F) : Bool := (os.take 100).all (fun o => decide (o.t.length ≤ 9000)) && decide (os.length ≤ 60)
theorem fewB_true {os : List F} (h : fewB os = true) : os.length ≤ 60 ∧ ∀ o ∈ os, o.t.length ≤ 9000 := by
  simp only [fewB, Bool.and_eq_true, List.all_eq_true, decide_eq_true_eq] at h
  refine ⟨h.2, fun o ho => h.1 o ?_⟩
  rwa [List.take_of_length_le (by omega)]
theorem fewB_all {os : List F} (h : ∀ j, j < min os.length 100 → (os.getD j noneF).t.length ≤ 9000) : fewB os = decide (os.length ≤ 60) := by
  have : (os.take 100).all (fun o => decide (o.t.length ≤ 9000)) = true := by
    rw [List.all_eq_true]
    intro o ho
    obtain ⟨j, hj, rfl⟩ := List.getElem_of_mem ho
    rw [List.length_take] at hj
    have := h j (by omega)
    rw [List.getD_eq_getElem?_getD, List.getElem?_eq_getElem (by omega)] at this
    rw [List.getElem_take]
    simpa using this
  simp [fewB, this]
theorem fewB_no {os : List F} {j : Nat} (hj : j < os.length) (_hj2 : j < 100) (h : 9000 < (os.getD j noneF).t.length) : fewB os = false := by
  rw [Bool.eq_false_iff]
  intro hf
  simp only [fewB, Bool.and_eq_true, List.all_eq_true, decide_eq_true_eq] at hf
  have := hf.1 (os.getD j noneF) (by
    rw [List.getD_eq_getElem?_getD, List.getElem?_eq_getElem hj]
    exact List.mem_take_iff_getElem.2 ⟨j, by omega, rfl⟩)
  omega
theorem bytes_len {w : World} {n c : Nat} {ad : Option Addr} {xs : List Nat} (h : BytesIn w (.slice ad n c) xs) : n = xs.length := by
  obtain ⟨_, _, e, _⟩ := h
  injection e
set_option maxRecDepth 100000 in
set_option maxHeartbeats 4000000 in
theorem few_any (x : I) (a1 : Option Addr) (n1 c1 : Nat) (w : World) (h1 : FldsIn w 0 (.slice a1 n1 c1) x.fs) (hm : n1 ≤ maxLen) :
    Calls Tryd.prog 15 #[.agg #[.int .u8 (x.aid : Int), .int .i64 x.cur, .slice a1 n1 c1]] w fun e w' => e = .returned (.bool (fewB x.fs)) ∧ Below w.heap.size w w' := by
  obtain ⟨xc, xa, xo⟩ := x
  simp only at h1 ⊢
  obtain rfl := h1.len
  have H1 := Lib.hid h1
  have HA := Lib.hid (al_any w (.cells #[.int .u8 (xc : Int), .int .i64 xa, .slice a1 xo.length c1] 27))
  have HN := Lib.hid (heap_alloc_new w (.cells #[.int .u8 (xc : Int), .int .i64 xa, .slice a1 xo.length c1] 27))
  have hm2 : (xo.length : Int) ≤ 9223372036854775807 := by unfold maxLen at hm; omega
  clear h1 hm
  go_enter Tryd.func15, Tryd.ntmps15
  go_wp2_with fail
  generalize w.alloc (.cells #[.int .u8 (xc : Int), .int .i64 xa, .slice a1 xo.length c1] 27) = w1 at *
  have cx := cell_of_row w1 w.heap.size 2 _ _ (0, 0) HN.out
  simp only [show (#[Value.int .u8 (xc : Int), .int .i64 xa, .slice a1 xo.length c1])[2]? = some (.slice a1 xo.length c1) from rfl] at cx
  go_loopg [3] (xo.length + 1) (fun m i wr => ∃ k : Nat, k ≤ xo.length ∧ k ≤ 100 ∧ m = xo.length + 1 - k ∧ i = .int .i64 k ∧ wr = w1 ∧ Hid (∀ j, j < k → (xo.getD j noneF).t.length ≤ 9000))
  case atStart => exact ⟨0, Nat.zero_le _, Nat.zero_le _, rfl, rfl, rfl, Lib.hid nofun⟩
  case round =>
    obtain ⟨k, hk, hk2, rfl, rfl, rfl, HE⟩ := hrel
    have ew : IntKind.i64.wrap ((k : Int) + 1) = (k : Int) + 1 := by
      rw [IntWalk.i64_in] <;> omega
    by_cases hlt : k < xo.length
    · by_cases hlt2 : k < 100
      · obtain ⟨pk, pt, ex⟩ := f_eta (xo.getD k noneF)
        obtain ⟨b1, o1, t1, m1, q1, rfl, g0, g1, B1, _⟩ := (H1.out.below HA.out).cells hlt ex
        have hi0 : (0 : Int) ≤ (k : Int) := by omega
        have hi1 : (k : Int) < (xo.length : Int) := by omega
        have hi2 : (k : Int) < 100 := by omega
        obtain rfl := bytes_len B1
        by_cases hbig : 9000 < pt.length
        · have HF := Lib.hid (fewB_no hlt hlt2 (by rw [ex]; exact hbig))
          have hb : (9000 : Int) < (pt.length : Int) := by omega
          go_wp2_with fail
          go_ret
          exact ⟨by rw [HF.out]; rfl, HA.out⟩
        · have hb : ¬ (9000 : Int) < (pt.length : Int) := by omega
          go_wp2_with fail
          go_roundg (xo.length + 1 - (k + 1))
          case measure => omega
          case rel =>
            refine ⟨k + 1, by omega, by omega, rfl, rfl, rfl, Lib.hid fun j hj => ?_⟩
            by_cases hjk : j = k
            · subst hjk; rw [ex]; simp only; omega
            · exact HE.out j (by omega)
      · have hi0 : (0 : Int) ≤ (k : Int) := by omega
        have HT := Lib.hid (show fewB xo = decide (xo.length ≤ 60) from fewB_all fun j hj => HE.out j (by omega))
        have hi1 : (k : Int) < (xo.length : Int) := by omega
        have hi2 : ¬ (k : Int) < 100 := by omega
        clear hlt hlt2 hk hk2
        have hi3 : decide ((xo.length : Int) ≤ 60) = decide (xo.length ≤ 60) := by rw [decide_eq_decide]; omega
        go_wp2_with fail
        go_ret
        exact ⟨by rw [HT.out]; first | rfl | (rw [← hi3]; rfl), HA.out⟩
    · obtain rfl : k = xo.length := by omega
      have HT := Lib.hid (show fewB xo = decide (xo.length ≤ 60) from fewB_all fun j hj => HE.out j (by omega))
      have hi3 : decide ((xo.length : Int) ≤ 60) = decide (xo.length ≤ 60) := by rw [decide_eq_decide]; omega
      clear hlt
      have hn0 : ¬ (xo.length : Int) < (xo.length : Int) := by omega
      go_wp2_with fail
      go_ret
      exact ⟨by rw [HT.out]; first | rfl | (rw [← hi3]; rfl), HA.out⟩
end Inp
end Go.Proofs.YthjocmcafoifbaaDoor
