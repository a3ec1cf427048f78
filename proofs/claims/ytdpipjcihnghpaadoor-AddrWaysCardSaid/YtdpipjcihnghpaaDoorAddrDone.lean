/- The four laws of layer 4, with what a row's proof hands on. -/
import Derived.Test.YtdpipjcihnghpaaDoorAddrBack
namespace Go.Proofs.YtdpipjcihnghpaaDoor
open Go.RowKit Err Six Sha
namespace Adr
theorem spot_bad {P : Program} {f : FuncId} {args : Array Value} {w : World} {k : Int}
    (h : Calls P f args w fun e w' => ∃ B, e = .returned (.tuple #[.int .i64 0, .iface 47 (.pointer (some ⟨B, 0, none⟩))]) ∧ SpotAt w' B k 3 ∧ Below w.heap.size w w') :
    Calls P f args w fun e w' => ∃ T v, e = .returned (.tuple #[.int .i64 0, .iface T v]) ∧ Below w.heap.size w w' :=
  h.mono fun _ _ ⟨_, he, _, hb⟩ => ⟨_, _, he, hb⟩
theorem errno_bad {P : Program} {f : FuncId} {args : Array Value} {w : World} {k : Int}
    (h : Calls P f args w fun e w' => e = .returned (.tuple #[.int .i64 0, .iface 40 (.int .i64 k)]) ∧ Below w.heap.size w w') :
    Calls P f args w fun e w' => ∃ T v, e = .returned (.tuple #[.int .i64 0, .iface T v]) ∧ Below w.heap.size w w' :=
  h.mono fun _ _ ⟨he, hb⟩ => ⟨_, _, he, hb⟩
/-- AddrBack returns true. -/
theorem back_any (a n b0 b1 : Nat) (ad : Option Addr) (len cap : Nat) (xs : List Nat) (w : World) (ha : a < 65536) (hn : n < 65536) (hx : b0 < 256) (hy : b1 < 256)
    (hB : BytesIn w (.slice ad len cap) xs) (hnil : ad = none → len = 0 ∧ cap = 0) (hg : Handle w) :
    Calls Tryd.prog 4 #[.int .u16 (a : Int), .int .u16 (n : Int), .agg #[.int .u8 (b0 : Int), .int .u8 (b1 : Int)], .slice ad len cap] w fun e w' => e = .returned (.bool true) ∧ Below w.heap.size w w' := by
  rcases Nat.lt_or_ge 100 len with hl | hl
  · exact back_long a n b0 b1 ad len cap w hl hg
  have hs0 : 0 < 1 + n % 16383 := by omega
  have h1 : 1 ≤ 1 + n % 16383 := by omega
  have h2 : 1 + n % 16383 ≤ 16383 := by omega
  have bad := fun HA => back_bad a n _ _ b0 b1 ad len cap xs w ha hn rfl rfl (Nat.mod_lt a hs0) h2 hl hB hnil hg HA
  have good := fun z HA hz e0 e1 => back_good a n _ _ z b0 b1 ad len cap xs w ha hn rfl rfl (Nat.mod_lt a hs0) h2 hl hB hnil hg HA hz e0 e1
  generalize 1 + n % 16383 = s at *
  by_cases hn : s ≤ 4096
  · cases gx : isGraphic b0
    · exact bad fun W T => spot_bad (get_short_spot _ 2 2 s 0 W h1 h2 hn (Nat.le_refl 2) (getShort_0 w.heap.size 0 2 2 b0 W (Nat.le_refl 2) hx T.c0 gx))
    · cases gy : isGraphic b1
      · exact bad fun W T => spot_bad (get_short_spot _ 2 2 s 1 W h1 h2 hn (Nat.le_refl 2) (getShort_1 w.heap.size 0 2 2 b0 b1 W (Nat.le_refl 2) hx hy T.c0 T.c1 gx gy))
      · rcases Nat.lt_or_ge (64 * (b0 % 64) + b1 % 64) s with hv | hv
        · refine good (64 * (b0 % 64) + b1 % 64) (fun W T => ?_) hv ?_ ?_
          · have := get_short_ok _ 2 2 s (b0 % 64) (b1 % 64) W h1 h2 hn (Nat.le_refl 2) (Nat.mod_lt _ (by decide)) (Nat.mod_lt _ (by decide)) hv (getShort_ok w.heap.size 0 2 2 b0 b1 W (Nat.le_refl 2) hx hy T.c0 T.c1 gx gy)
            rwa [show 64 * ((b0 % 64 : Nat) : Int) + ((b1 % 64 : Nat) : Int) = ((64 * (b0 % 64) + b1 % 64 : Nat) : Int) by omega] at this
          · unfold first
            rw [if_pos hn, show (64 * (b0 % 64) + b1 % 64) / 64 = b0 % 64 by omega, put_of_graphic gx]
          · unfold second
            rw [if_pos hn, show (64 * (b0 % 64) + b1 % 64) % 64 = b1 % 64 by omega, put_of_graphic gy]
        · exact bad fun W T => errno_bad (get_short_addr _ 2 2 s (b0 % 64) (b1 % 64) W h1 h2 hn (Nat.le_refl 2) (Nat.mod_lt _ (by decide)) (Nat.mod_lt _ (by decide)) hv (getShort_ok w.heap.size 0 2 2 b0 b1 W (Nat.le_refl 2) hx hy T.c0 T.c1 gx gy))
  · have hn4 : 4096 < s := by omega
    rcases Nat.lt_or_ge b0 64 with hx6 | hx6
    · rcases Nat.lt_or_ge (256 * b0 + b1) s with hv | hv
      · refine good (256 * b0 + b1) (fun W T => ?_) hv ?_ ?_
        · have := get_long_ok _ 2 2 s b0 b1 W h1 h2 hn4 (Nat.le_refl 2) hx6 hy hv (getLong_ok w.heap.size 0 2 2 b0 b1 W (Nat.le_refl 2) hx6 hy T.c0 T.c1)
          rwa [show 256 * (b0 : Int) + (b1 : Int) = ((256 * b0 + b1 : Nat) : Int) by omega] at this
        · unfold first
          rw [if_neg hn, show (256 * b0 + b1) / 256 = b0 by omega]
        · unfold second
          rw [if_neg hn, show (256 * b0 + b1) % 256 = b1 by omega]
      · exact bad fun W T => errno_bad (get_long_addr _ 2 2 s b0 b1 W h1 h2 hn4 (Nat.le_refl 2) hx6 hy hv (getLong_ok w.heap.size 0 2 2 b0 b1 W (Nat.le_refl 2) hx6 hy T.c0 T.c1))
    · exact bad fun W T => spot_bad (get_long_spot _ 2 2 s 0 W h1 h2 hn4 (Nat.le_refl 2) (getLong_0 w.heap.size 0 2 2 b0 W (Nat.le_refl 2) hx hx6 T.c0))
theorem u16_nat {a : Int} (h : (Lit.int .u16 a).wf = true) : ∃ n : Nat, a = (n : Int) ∧ n < 65536 := by
  have h1 : IntKind.u16.min ≤ a ∧ a ≤ IntKind.u16.max := by simpa [Lit.wf] using h
  have h2 : 0 ≤ a ∧ a ≤ 65535 := h1
  obtain ⟨n, rfl⟩ := Int.eq_ofNat_of_zero_le h2.1
  exact ⟨n, rfl, by omega⟩
theorem apart_row (a b c : Int) (w : World) (h : (Lit.int .u16 a).wf = true) (k : (Lit.int .u16 b).wf = true) (l : (Lit.int .u16 c).wf = true) (hg : Handle w) :
    Calls Tryd.prog 5 #[.int .u16 a, .int .u16 b, .int .u16 c] w fun e w' => e = .returned (.bool true) ∧ Below w.heap.size w w' := by
  obtain ⟨n, rfl, hn⟩ := u16_nat h
  obtain ⟨m, rfl, hm⟩ := u16_nat k
  obtain ⟨j, rfl, hj⟩ := u16_nat l
  exact apart_any n m j w hn hm hj hg
theorem ways_row (a b : Int) (w : World) (h : (Lit.int .u16 a).wf = true) (k : (Lit.int .u16 b).wf = true) (hg : Handle w) :
    Calls Tryd.prog 6 #[.int .u16 a, .int .u16 b] w fun e w' => e = .returned (.bool true) ∧ Below w.heap.size w w' := by
  obtain ⟨n, rfl, hn⟩ := u16_nat h
  obtain ⟨m, rfl, hm⟩ := u16_nat k
  exact ways_any n m w hn hm hg
end Adr
end Go.Proofs.YtdpipjcihnghpaaDoor
