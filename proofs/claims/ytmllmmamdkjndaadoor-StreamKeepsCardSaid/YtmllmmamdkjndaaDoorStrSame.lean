/- slices.EqualFunc at orders; Same of package stream; Same of the document. -/
import Derived.Test.YtmllmmamdkjndaaDoorStrMem
import Derived.Test.YtmllmmamdkjndaaDoorBunOrd
import Derived.Deep.LoopGhost
namespace Go.Proofs.YtmllmmamdkjndaaDoor
open Go.RowKit Sha Cut Err Six Att
namespace Str
open Go.Proofs.YtmllmmamdkjndaaDoor.Ord
theorem getD_ext {xs ys : List O} (hl : xs.length = ys.length) (h : ∀ i, i < xs.length → xs.getD i none_ = ys.getD i none_) : xs = ys := by
  apply List.ext_getElem hl
  intro i h1 h2
  have := h i h1
  rwa [List.getD_eq_getElem?_getD, List.getD_eq_getElem?_getD, List.getElem?_eq_getElem h1, List.getElem?_eq_getElem h2] at this
/-- Are two lists of orders the same? -/
def sames : List O → List O → Bool
  | [], [] => true
  | x :: xs, y :: ys => same x y && sames xs ys
  | _, _ => false
theorem sames_iff : ∀ (xs ys : List O), sames xs ys = true ↔ xs = ys
  | [], [] => by simp [sames]
  | [], y :: ys => by simp [sames]
  | x :: xs, [] => by simp [sames]
  | x :: xs, y :: ys => by simp [sames, same_iff, sames_iff xs ys]
set_option maxRecDepth 100000 in
set_option maxHeartbeats 4000000 in
theorem equalF_any (a1 : Option Addr) (n1 c1 : Nat) (a2 : Option Addr) (n2 c2 : Nat) (xs ys : List O) (w : World) (h1 : OrdsIn w 0 (.slice a1 n1 c1) xs) (h2 : OrdsIn w 0 (.slice a2 n2 c2) ys) (s1 : Sound xs) (s2 : Sound ys) (hl : xs.length < 1000000) :
    Calls Tryd.prog 31 #[.slice a1 n1 c1, .slice a2 n2 c2, .func (.func 32) #[] #[]] w fun e w' => e = .returned (.bool (sames xs ys)) ∧ Below w.heap.size w w' := by
  obtain rfl := h1.len
  obtain rfl := h2.len
  have H1 := Lib.hid h1
  have H2 := Lib.hid h2
  have S1 := Lib.hid s1
  have S2 := Lib.hid s2
  have HL := Lib.hid hl
  clear h1 h2 s1 s2 hl
  by_cases hlen : xs.length = ys.length
  · have hq : ((xs.length : Int) != (ys.length : Int)) = false := by simp [hlen]
    have HLEN := Lib.hid hlen
    clear hlen
    go_enter Tryd.func31, Tryd.ntmps31
    go_wp2_with fail
    go_loopg [17] (xs.length + 1) (fun m i wr => ∃ k : Nat, k ≤ xs.length ∧ m = xs.length + 1 - k ∧ i = .int .i64 k ∧ Hid (Below w.heap.size w wr) ∧ Hid (∀ j, j < k → xs.getD j none_ = ys.getD j none_))
    case atStart => exact ⟨0, Nat.zero_le _, rfl, rfl, Lib.hid (Below.refl _ _), Lib.hid nofun⟩
    case round =>
      obtain ⟨k, hk, rfl, rfl, HB, HE⟩ := hrel
      have ew : IntKind.i64.wrap ((k : Int) + 1) = (k : Int) + 1 := by
        have := HL.out
        rw [IntWalk.i64_in] <;> omega
      by_cases hlt : k < xs.length
      · obtain ⟨xk, xt, xp, xn, xs', xm, xa, xc, ex⟩ := o_eta (xs.getD k none_)
        obtain ⟨yk, yt, yp, yn, ys', ym, ya, yc, ey⟩ := o_eta (ys.getD k none_)
        obtain ⟨b1, o1, t1, m1, q1, rfl, g0, g1, g2, g3, g4, g5, g6, g7, B1, _⟩ := (H1.out.below HB.out).cells hlt ex
        obtain ⟨b2, o2, t2, m2, q2, rfl, f0, f1, f2, f3, f4, f5, f6, f7, B2, _⟩ := (H2.out.below HB.out).cells (show k < ys.length by have := HLEN.out; omega) ey
        have lb1 := cell_lt g0
        have lb2 := cell_lt f0
        have hi0 : (0 : Int) ≤ (k : Int) := by omega
        have hi1 : (k : Int) < (xs.length : Int) := by omega
        have hi2 : (k : Int) < (ys.length : Int) := by have := HLEN.out; omega
        have sx := sound_at S1.out k
        have sy := sound_at S2.out k
        rw [ex] at sx
        rw [ey] at sy
        have HA := al2 wr (.cells #[.int .i64 xk, .slice t1 m1 q1, .bool xp, .bool xn, .int .i64 xs', .bool xm, .int .i64 xa, .int .u8 (xc : Int)] 51) (.cells #[.int .i64 yk, .slice t2 m2 q2, .bool yp, .bool yn, .int .i64 ys', .bool ym, .int .i64 ya, .int .u8 (yc : Int)] 51)
        have HS := same_any ⟨xk, xt, xp, xn, xs', xm, xa, xc⟩ ⟨yk, yt, yp, yn, ys', ym, ya, yc⟩ t1 m1 q1 t2 m2 q2 _ (bytes_below B1 HA) (bytes_below B2 HA) sx.1 sy.1 sx.2.1
        have HS := Lib.hid HS
        have HK := kept_hid HB HA
        clear HA sx sy B1 B2
        go_wp2_with fail
        clear g0 g1 g2 g3 g4 g5 g6 g7 f0 f1 f2 f3 f4 f5 f6 f7 lb1 lb2
        cases he : same ⟨xk, xt, xp, xn, xs', xm, xa, xc⟩ ⟨yk, yt, yp, yn, ys', ym, ya, yc⟩ with
        | true =>
          rw [he] at HS
          with_reducible refine HS.out.mono ?_
          rintro e w2 ⟨rfl, hb⟩
          have HK2 := kept_hid HK hb
          clear hb HS HK
          go_wp2_with fail
          go_roundg (xs.length + 1 - (k + 1))
          case measure => omega
          case rel =>
            refine ⟨k + 1, by omega, rfl, rfl, HK2, Lib.hid fun j hj => ?_⟩
            by_cases hjk : j = k
            · subst hjk; rw [ex, ey]; exact (same_iff _ _).1 he
            · exact HE.out j (by omega)
        | false =>
          rw [he] at HS
          have HF := Lib.hid (show sames xs ys = false by
            rw [Bool.eq_false_iff]
            intro h
            have := (sames_iff _ _).1 h
            subst this
            rw [ex] at ey
            rw [ey, (same_iff _ _).2 rfl] at he
            cases he)
          with_reducible refine HS.out.mono ?_
          rintro e w2 ⟨rfl, hb⟩
          have HK2 := kept_hid HK hb
          clear hb HS HK
          go_wp2_with fail
          go_ret
          exact ⟨by rw [HF.out]; rfl, HK2.out⟩
      · obtain rfl : k = xs.length := by omega
        have HT := Lib.hid (show sames xs ys = true from (sames_iff _ _).2 (getD_ext HLEN.out HE.out))
        clear hlt
        have hn0 : ¬ (xs.length : Int) < (xs.length : Int) := by omega
        go_wp2_with fail
        go_ret
        exact ⟨by rw [HT.out]; rfl, HB.out⟩
  · have hq : ((xs.length : Int) != (ys.length : Int)) = true := by simp; omega
    have HF := Lib.hid (show sames xs ys = false by
      rw [Bool.eq_false_iff]
      intro h
      exact hlen (by rw [(sames_iff _ _).1 h]))
    go_enter Tryd.func31, Tryd.ntmps31
    go_wp2_with fail
    go_ret
    exact ⟨by rw [HF.out]; rfl, Below.refl _ _⟩
/-- Are two commands the same? -/
def csame (x y : Cm) : Bool := (x.cmd == y.cmd) && ((x.a == y.a && (x.u == y.u && x.r == y.r)) && sames x.os y.os)
theorem csame_iff (x y : Cm) : csame x y = true ↔ x = y := by
  obtain ⟨c, a, u, r, os⟩ := x
  obtain ⟨c', a', u', r', os'⟩ := y
  simp [csame, sames_iff, and_assoc]
set_option maxRecDepth 100000 in
set_option maxHeartbeats 4000000 in
theorem csame_any (x y : Cm) (a1 : Option Addr) (n1 c1 : Nat) (a2 : Option Addr) (n2 c2 : Nat) (w : World) (h1 : OrdsIn w 0 (.slice a1 n1 c1) x.os) (h2 : OrdsIn w 0 (.slice a2 n2 c2) y.os) (s1 : Sound x.os) (s2 : Sound y.os) (hl : x.os.length < 1000000) :
    Calls Tryd.prog 19 #[.agg #[.int .i64 x.cmd, .bool x.a, .bool x.u, .bool x.r, .slice a1 n1 c1], .agg #[.int .i64 y.cmd, .bool y.a, .bool y.u, .bool y.r, .slice a2 n2 c2]] w fun e w' => e = .returned (.bool (csame x y)) ∧ Below w.heap.size w w' := by
  obtain ⟨xc, xa, xu, xr, xo⟩ := x
  obtain ⟨yc, ya, yu, yr, yo⟩ := y
  simp only at h1 h2 s1 s2 hl ⊢
  have HE := Lib.hid fun W hb => equalF_any a1 n1 c1 a2 n2 c2 xo yo W (h1.below hb) (h2.below hb) s1 s2 hl
  have HS := Lib.hid (show csame ⟨xc, xa, xu, xr, xo⟩ ⟨yc, ya, yu, yr, yo⟩ = ((xc == yc) && ((xa == ya && (xu == yu && xr == yr)) && sames xo yo)) from rfl)
  generalize csame _ _ = res at HS ⊢
  generalize sames xo yo = ss at HS HE
  clear h1 h2 s1 s2 hl
  generalize e0 : (xc == yc) = b0 at HS
  cases b0 with
  | false =>
    clear HE
    go_enter Tryd.func19, Tryd.ntmps19
    go_wp2_with fail
    go_ret
    rw [HS.out]
    exact ⟨rfl, al2 ..⟩
  | true =>
    go_enter Tryd.func19, Tryd.ntmps19
    go_wp2_with fail
    · with_reducible refine (HE.out _ (al2 ..)).mono ?_
      rintro e w2 ⟨rfl, hb⟩
      have HK := Lib.hid (kept_trans (al2 ..) hb)
      clear hb HE
      go_wp2_with fail
      go_ret
      refine ⟨?_, HK.out⟩
      have hr := HS.out
      clear HS HK
      simp_all
    all_goals
      go_ret
      refine ⟨?_, al2 ..⟩
      have hr := HS.out
      clear HS HE
      simp_all
end Str
end Go.Proofs.YtmllmmamdkjndaaDoor
