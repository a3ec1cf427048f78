/- Slices of bytes that are cut: what is left of them, and what the walk's own operation says. (No hash is needed.) -/
import Derived.Test.YtllpmgddcpgegaaDoorBytes
import Derived.Test.YtllpmgddcpgegaaDoorSixLeaf
namespace Go.Proofs.YtllpmgddcpgegaaDoor
open Go.RowKit Sha
namespace Cut
def cutA (a : Option Addr) (k cap : Nat) : Option Addr := if cap = k then a else a.map (·.add k)
theorem cutA_none {a : Option Addr} {k cap : Nat} (h : cutA a k cap = none) : a = none := by
  unfold cutA at h
  split at h
  · exact h
  · simpa using h
theorem run_l (a : Option Addr) (len cap k : Nat) (hk : k ≤ len) (w : World) :
    (Instr.slice 22 (.slice a len cap) (some (.int .i64 (k : Int))) none none).run Tryd.prog w = .ok (.slice (cutA a k cap) (len - k) (cap - k)) w := by
  have hu : Tryd.prog.underlying 22 = some (.slice (Tryd.prog.elem 22)) := by kernel_rfl
  have hs : ((sizeOf (Tryd.prog.elem 22)).run Tryd.prog w) = .ok 1 w := by kernel_rfl
  rw [run_slice_l (P := Tryd.prog) w _ _ _ _ hu _ _ (by omega) (by omega), hs]
  simp [Result.andThen, sliced, cutA]
theorem run_lh (a : Option Addr) (len cap k n : Nat) (hk : k + n ≤ cap) (w : World) :
    (Instr.slice 22 (.slice a len cap) (some (.int .i64 (k : Int))) (some (.int .i64 ((k : Int) + (n : Int)))) none).run Tryd.prog w = .ok (.slice (cutA a k cap) n (cap - k)) w := by
  have hu : Tryd.prog.underlying 22 = some (.slice (Tryd.prog.elem 22)) := by kernel_rfl
  have hs : ((sizeOf (Tryd.prog.elem 22)).run Tryd.prog w) = .ok 1 w := by kernel_rfl
  rw [run_slice_lh (P := Tryd.prog) w _ _ _ _ hu _ _ _ _ (by omega) (by omega) (by omega), hs]
  have e : ((k : Int) + (n : Int)).toNat - k = n := by omega
  simp only [Result.andThen, sliced, cutA, Int.toNat_natCast, Nat.mul_one, e]
theorem bytes_lh {w : World} {a : Option Addr} {len cap k n : Nat} {xs : List Nat} (h : BytesIn w (.slice a len cap) xs) (hk : k + n ≤ len) : BytesIn w (.slice (cutA a k cap) n (cap - k)) ((xs.drop k).take n) := by
  obtain ⟨ad, c, hv, hcap, hc⟩ := h
  injection hv with e1 e2 e3
  subst e1 e2 e3
  have hl : ((xs.drop k).take n).length = n := by rw [List.length_take, List.length_drop]; omega
  refine ⟨cutA a k cap, cap - k, by rw [hl], by omega, ?_⟩
  rcases hc with h0 | ⟨g, off, rfl, hc⟩
  · exact .inl (by rw [h0]; simp)
  · by_cases hn : n = 0
    · exact .inl (by rw [hn]; simp)
    · have hne : ¬ cap = k := by omega
      refine .inr ⟨g, off + k, by rw [cutA, if_neg hne, Option.map_some, Addr.add_mid], fun j hj => ?_⟩
      rw [hl] at hj
      rw [Nat.add_assoc, hc (k + j) (by omega)]
      simp [List.getD_eq_getElem?_getD, hj]
theorem bytes_l {w : World} {a : Option Addr} {len cap k : Nat} {xs : List Nat} (h : BytesIn w (.slice a len cap) xs) (hk : k ≤ len) : BytesIn w (.slice (cutA a k cap) (len - k) (cap - k)) (xs.drop k) := by
  have hl : xs.length = len := by
    obtain ⟨_, _, hv, _⟩ := h
    injection hv with _ e2 _
    exact e2.symm
  have := bytes_lh (k := k) (n := len - k) h (by omega)
  rwa [List.take_of_length_le (by rw [List.length_drop]; omega)] at this
/-- A row of bytes that the call has made holds them. -/
theorem own_bytes {w : World} {base n : Nat} {v : Value} {m : List Nat} (h : w.ownsRow base 5 1 v n (u8s m)) : BytesIn w v m := by
  have hl : m.length = n := by have := h.1; rwa [u8s_length, Nat.mul_one] at this
  subst hl
  rcases h.2 with ⟨rfl, h0⟩ | ⟨g, cap, cur, rfl, _, hh, hnc, _, _, htk⟩
  · exact ⟨none, 0, by rw [h0], by omega, .inl (List.eq_nil_of_length_eq_zero h0)⟩
  · refine ⟨_, cap, rfl, hnc, .inr ⟨g, 0, rfl, fun j hj => ?_⟩⟩
    rw [cell_of_row w g (0 + j) cur _ _ hh, Nat.zero_add]
    have e := u8s_at hj
    rw [List.getElem?_toArray, ← htk, List.getElem?_take, if_pos (by omega)] at e
    simpa using e
theorem own_len {w : World} {base n : Nat} {v : Value} {m : List Nat} (h : w.ownsRow base 5 1 v n (u8s m)) : m.length = n := by
  have := h.1; rwa [u8s_length, Nat.mul_one] at this
theorem own_below {w w1 : World} {base e size n : Nat} {v : Value} {xs : List Value} (h : w.ownsRow base e size v n xs) (hb : Below w.heap.size w w1) : w1.ownsRow base e size v n xs :=
  h.kept (gbelow hb none) (by cases hv : v.ownBlock <;> simp)
theorem own_ge {w : World} {base e size n : Nat} {v : Value} {xs : List Value} (h : w.ownsRow base e size v n xs) : ∀ k, v.ownBlock = some k → base ≤ k := by
  intro k hk
  rcases h.2 with ⟨rfl, _⟩ | ⟨g, cap, cur, rfl, hg, _⟩
  · simp [Value.ownBlock] at hk
  · simp [Value.ownBlock] at hk; omega
theorem own_ne {w : World} {base b e size n : Nat} {v : Value} {xs : List Value} (h : w.ownsRow base e size v n xs) (hb : b < base) : v.ownBlock ≠ some b := by
  intro hk; have := own_ge h b hk; omega
theorem own_other {w w1 : World} {base b e size n : Nat} {v : Value} {xs : List Value} (h : w.ownsRow base e size v n xs) (hg : w.grownBy w1 (some b)) (hb : b < base) : w1.ownsRow base e size v n xs :=
  h.kept hg (.inr (own_ne h hb))
theorem own_spot {w : World} {base e size n : Nat} {v : Value} {xs : List Value} (h : w.ownsRow base e size v n xs) : ∃ ad c, v = .slice ad n c ∧ (ad = none → n = 0 ∧ c = 0) ∧ ∀ a, ad = some a → a = ⟨a.block, 0, none⟩ ∧ base ≤ a.block ∧ a.block < w.heap.size := by
  rcases h.2 with ⟨rfl, h0⟩ | ⟨g, cap, cur, rfl, hg, hh, _⟩
  · exact ⟨none, 0, by rw [h0], fun _ => ⟨h0, rfl⟩, nofun⟩
  · refine ⟨_, cap, rfl, nofun, fun a ha => ?_⟩
    injection ha with ha
    subst ha
    refine ⟨rfl, hg, ?_⟩
    rcases Nat.lt_or_ge g w.heap.size with h' | h'
    · exact h'
    · simp [Array.getElem?_eq_none h'] at hh
end Cut
end Go.Proofs.YtllpmgddcpgegaaDoor
