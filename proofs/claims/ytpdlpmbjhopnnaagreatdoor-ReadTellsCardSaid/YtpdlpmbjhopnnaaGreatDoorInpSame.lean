/- sameField, slices.EqualFunc at fields, and Same of package input. -/
import Derived.Test.YtpdlpmbjhopnnaaGreatDoorBunInp
import Derived.Test.YtpdlpmbjhopnnaaGreatDoorBunInp
import Derived.Test.YtpdlpmbjhopnnaaGreatDoorBunEq
import Derived.Deep.LoopGhost
namespace Go.Proofs.YtpdlpmbjhopnnaaGreatDoor
open Go.RowKit Sha Cut Err Six Att
namespace Inp
set_option maxRecDepth 100000 in
set_option maxHeartbeats 2000000 in
theorem sameField_any (x y : F) (a1 : Option Addr) (l1 c1 : Nat) (a2 : Option Addr) (l2 c2 : Nat) (w : World) (h1 : BytesIn w (.slice a1 l1 c1) x.t) (h2 : BytesIn w (.slice a2 l2 c2) y.t) (hx8 : ∀ b ∈ x.t, b < 256) (hy8 : ∀ b ∈ y.t, b < 256) (hl : x.t.length < 1000000) :
    Calls Tryz.prog 55 #[.agg #[.int .i64 x.a, .slice a1 l1 c1], .agg #[.int .i64 y.a, .slice a2 l2 c2]] w fun e w' => e = .returned (.bool (fsame x y)) ∧ Below w.heap.size w w' := by
  obtain ⟨xa, xt⟩ := x
  obtain ⟨ya, yt⟩ := y
  simp only at h1 h2 hx8 hy8 hl ⊢
  have HE := Lib.hid fun W hb => Ord.equal_any _ _ xt yt W (bytes_below h1 hb) (bytes_below h2 hb) hx8 hy8 hl
  have HS := Lib.hid (show fsame ⟨xa, xt⟩ ⟨ya, yt⟩ = ((xa == ya) && decide (xt = yt)) by
    simp only [fsame]
    rw [show (xt == yt) = decide (xt = yt) by rw [Bool.eq_iff_iff]; simp])
  generalize fsame _ _ = r at HS ⊢
  generalize decide (xt = yt) = bt at HE HS
  clear h1 h2 hx8 hy8 hl
  generalize hk : (xa == ya) = bk at HS
  cases bk with
  | false =>
    go_enter Tryz.func55, Tryz.ntmps55
    go_wp2_with fail
    go_ret
    rw [HS.out]
    exact ⟨rfl, al2 ..⟩
  | true =>
    go_enter Tryz.func55, Tryz.ntmps55
    go_wp2_with fail
    refine (HE.out _ (al2 ..)).mono ?_
    rintro e w1 ⟨rfl, m, rfl⟩
    go_wp2_with fail
    go_ret
    refine ⟨?_, (al2 ..).trans (below_drewN _ _ _)⟩
    rw [HS.out]; rfl
set_option maxRecDepth 100000 in
set_option maxHeartbeats 4000000 in
theorem equalF_any (a1 : Option Addr) (n1 c1 : Nat) (a2 : Option Addr) (n2 c2 : Nat) (xs ys : List F) (w : World) (h1 : FldsIn w 0 (.slice a1 n1 c1) xs) (h2 : FldsIn w 0 (.slice a2 n2 c2) ys) (s1 : Sound xs) (s2 : Sound ys) (hl : xs.length < 1000000) :
    Calls Tryz.prog 54 #[.slice a1 n1 c1, .slice a2 n2 c2, .func (.func 55) #[] #[]] w fun e w' => e = .returned (.bool (fsames xs ys)) ∧ Below w.heap.size w w' := by
  obtain rfl := h1.len
  obtain rfl := h2.len
  have H1 := Lib.hid h1
  have H2 := Lib.hid h2
  have S1 := Lib.hid s1
  have S2 := Lib.hid s2
  have HL := Lib.hid hl
  clear h1 h2 s1 s2 hl
  by_cases hlen : xs.length = ys.length
  · have hq : ((xs.length : Int) != (ys.length : Int)) = false := by simp [hlen]
    have HLEN := Lib.hid hlen
    clear hlen
    go_enter Tryz.func54, Tryz.ntmps54
    go_wp2_with fail
    go_loopg [17] (xs.length + 1) (fun m i wr => ∃ k : Nat, k ≤ xs.length ∧ m = xs.length + 1 - k ∧ i = .int .i64 k ∧ Hid (Below w.heap.size w wr) ∧ Hid (∀ j, j < k → xs.getD j noneF = ys.getD j noneF))
    case atStart => exact ⟨0, Nat.zero_le _, rfl, rfl, Lib.hid (Below.refl _ _), Lib.hid nofun⟩
    case round =>
      obtain ⟨k, hk, rfl, rfl, HB, HE⟩ := hrel
      have ew : IntKind.i64.wrap ((k : Int) + 1) = (k : Int) + 1 := by
        have := HL.out
        rw [IntWalk.i64_in] <;> omega
      by_cases hlt : k < xs.length
      · obtain ⟨xa, xt, ex⟩ := f_eta (xs.getD k noneF)
        obtain ⟨ya, yt, ey⟩ := f_eta (ys.getD k noneF)
        obtain ⟨b1, o1, t1, m1, q1, rfl, g0, g1, B1, _⟩ := (H1.out.below HB.out).cells hlt ex
        obtain ⟨b2, o2, t2, m2, q2, rfl, f0, f1, B2, _⟩ := (H2.out.below HB.out).cells (show k < ys.length by have := HLEN.out; omega) ey
        have lb1 := cell_lt g0
        have lb2 := cell_lt f0
        have hi0 : (0 : Int) ≤ (k : Int) := by omega
        have hi1 : (k : Int) < (xs.length : Int) := by omega
        have hi2 : (k : Int) < (ys.length : Int) := by have := HLEN.out; omega
        have sx := sound_at S1.out k
        have sy := sound_at S2.out k
        rw [ex] at sx
        rw [ey] at sy
        have HA := al2 wr (.cells #[.int .i64 xa, .slice t1 m1 q1] 67) (.cells #[.int .i64 ya, .slice t2 m2 q2] 67)
        have HS := sameField_any ⟨xa, xt⟩ ⟨ya, yt⟩ t1 m1 q1 t2 m2 q2 _ (bytes_below B1 HA) (bytes_below B2 HA) sx.1 sy.1 sx.2
        have HS := Lib.hid HS
        have HK := kept_hid HB HA
        clear HA sx sy B1 B2
        go_wp2_with fail
        clear g0 g1 f0 f1 lb1 lb2
        cases he : fsame ⟨xa, xt⟩ ⟨ya, yt⟩ with
        | true =>
          rw [he] at HS
          with_reducible refine HS.out.mono ?_
          rintro e w2 ⟨rfl, hb⟩
          have HK2 := kept_hid HK hb
          clear hb HS HK
          go_wp2_with fail
          go_roundg (xs.length + 1 - (k + 1))
          case measure => omega
          case rel =>
            refine ⟨k + 1, by omega, rfl, rfl, HK2, Lib.hid fun j hj => ?_⟩
            by_cases hjk : j = k
            · subst hjk; rw [ex, ey]; exact (fsame_iff _ _).1 he
            · exact HE.out j (by omega)
        | false =>
          rw [he] at HS
          have HF := Lib.hid (show fsames xs ys = false from fsames_at (i := k) (by rw [ex, ey]; exact he))
          with_reducible refine HS.out.mono ?_
          rintro e w2 ⟨rfl, hb⟩
          have HK2 := kept_hid HK hb
          clear hb HS HK
          go_wp2_with fail
          go_ret
          exact ⟨by rw [HF.out]; rfl, HK2.out⟩
      · obtain rfl : k = xs.length := by omega
        have HT := Lib.hid (show fsames xs ys = true from (fsames_iff _ _).2 (getD_ext HLEN.out HE.out))
        clear hlt
        have hn0 : ¬ (xs.length : Int) < (xs.length : Int) := by omega
        go_wp2_with fail
        go_ret
        exact ⟨by rw [HT.out]; rfl, HB.out⟩
  · have hq : ((xs.length : Int) != (ys.length : Int)) = true := by simp; omega
    have HF := Lib.hid (show fsames xs ys = false from fsames_len hlen)
    go_enter Tryz.func54, Tryz.ntmps54
    go_wp2_with fail
    go_ret
    exact ⟨by rw [HF.out]; rfl, Below.refl _ _⟩
set_option maxRecDepth 100000 in
set_option maxHeartbeats 4000000 in
theorem isame_any (x y : I) (a1 : Option Addr) (n1 c1 : Nat) (a2 : Option Addr) (n2 c2 : Nat) (w : World) (h1 : FldsIn w 0 (.slice a1 n1 c1) x.fs) (h2 : FldsIn w 0 (.slice a2 n2 c2) y.fs) (s1 : Sound x.fs) (s2 : Sound y.fs) (hl : x.fs.length < 1000000) :
    Calls Tryz.prog 22 #[.agg #[.int .u8 (x.aid : Int), .int .i64 x.cur, .slice a1 n1 c1], .agg #[.int .u8 (y.aid : Int), .int .i64 y.cur, .slice a2 n2 c2]] w fun e w' => e = .returned (.bool (isame x y)) ∧ Below w.heap.size w w' := by
  obtain ⟨xk, xc, xo⟩ := x
  obtain ⟨yk, yc, yo⟩ := y
  simp only at h1 h2 s1 s2 hl ⊢
  have HE := Lib.hid fun W hb => equalF_any a1 n1 c1 a2 n2 c2 xo yo W (h1.below hb) (h2.below hb) s1 s2 hl
  have HS := Lib.hid (show isame ⟨xk, xc, xo⟩ ⟨yk, yc, yo⟩ = (((xk : Int) == (yk : Int)) && ((xc == yc) && fsames xo yo)) by
    simp only [isame]
    rw [show (xk == yk) = ((xk : Int) == (yk : Int)) by rw [Bool.eq_iff_iff]; simp; omega])
  generalize isame _ _ = res at HS ⊢
  generalize fsames xo yo = ss at HS HE
  generalize (xk : Int) = xa at *
  generalize (yk : Int) = ya at *
  clear h1 h2 s1 s2 hl
  generalize e0 : (xa == ya) = b0 at HS
  cases b0 with
  | false =>
    clear HE
    go_enter Tryz.func22, Tryz.ntmps22
    go_wp2_with fail
    go_ret
    rw [HS.out]
    exact ⟨rfl, al2 ..⟩
  | true =>
    generalize e1 : (xc == yc) = b1 at HS
    cases b1 with
    | false =>
      clear HE
      go_enter Tryz.func22, Tryz.ntmps22
      go_wp2_with fail
      go_ret
      rw [HS.out]
      exact ⟨rfl, al2 ..⟩
    | true =>
      go_enter Tryz.func22, Tryz.ntmps22
      go_wp2_with fail
      with_reducible refine (HE.out _ (al2 ..)).mono ?_
      rintro e w2 ⟨rfl, hb⟩
      have HK := Lib.hid (kept_trans (al2 ..) hb)
      clear hb HE
      go_wp2_with fail
      go_ret
      refine ⟨?_, HK.out⟩
      rw [HS.out]; rfl
end Inp
end Go.Proofs.YtpdlpmbjhopnnaaGreatDoor
