/- Same of the document, of commands. -/
import Derived.Test.YtpdlpmbjhopnnaaDoorStrSam
import Derived.Test.YtpdlpmbjhopnnaaDoorBunStr
import Derived.Test.YtpdlpmbjhopnnaaDoorBunRsm
import Derived.Deep.RegionHeld3
import Derived.Deep.LoopGhost
namespace Go.Proofs.YtpdlpmbjhopnnaaDoor
open Go.RowKit Sha Cut Err Six Att
namespace Str
open Go.Proofs.YtpdlpmbjhopnnaaDoor.Ord
set_option maxRecDepth 100000 in
set_option maxHeartbeats 4000000 in
theorem rcsame_any (x y : Cm) (a1 : Option Addr) (n1 c1 : Nat) (a2 : Option Addr) (n2 c2 : Nat) (w : World) (h1 : OrdsIn w 0 (.slice a1 n1 c1) x.os) (h2 : OrdsIn w 0 (.slice a2 n2 c2) y.os) (s1 : Sound x.os) (s2 : Sound y.os) (hl : x.os.length < 1000000) :
    Calls Tryd.prog 14 #[.agg #[.int .i64 x.cmd, .bool x.a, .bool x.u, .bool x.r, .slice a1 n1 c1], .agg #[.int .i64 y.cmd, .bool y.a, .bool y.u, .bool y.r, .slice a2 n2 c2]] w fun e w' => e = .returned (.bool (csame x y)) ∧ Below w.heap.size w w' := by
  obtain ⟨xc, xa, xu, xr, xo⟩ := x
  obtain ⟨yc, ya, yu, yr, yo⟩ := y
  simp only at h1 h2 s1 s2 hl ⊢
  obtain rfl := h1.len
  obtain rfl := h2.len
  have HS := Lib.hid (show csame ⟨xc, xa, xu, xr, xo⟩ ⟨yc, ya, yu, yr, yo⟩ = ((xc == yc) && ((xa == ya && (xu == yu && xr == yr)) && sames xo yo)) from rfl)
  generalize csame _ _ = res at HS ⊢
  have H1 := Lib.hid h1
  have H2 := Lib.hid h2
  have S1 := Lib.hid s1
  have S2 := Lib.hid s2
  have HL := Lib.hid hl
  clear h1 h2 s1 s2 hl
  by_cases hlen : xo.length = yo.length
  · have hq : ((xo.length : Int) != (yo.length : Int)) = false := by simp [hlen]
    have HLEN := Lib.hid hlen
    clear hlen
    generalize e0 : (xc == yc) = b0 at HS
    cases b0 with
    | false =>
      have e1 : (xc != yc) = true := by simp only [bne, e0]; rfl
      go_enter Tryd.func14, Tryd.ntmps14
      go_wp2_with fail
      go_ret
      rw [HS.out]
      exact ⟨rfl, al2 ..⟩
    | true =>
      have e1 : (xc != yc) = false := by simp only [bne, e0]; rfl
      go_enter Tryd.func14, Tryd.ntmps14
      go_wp2_with fail
      · rename_i e5 e6 e7 _ _
        subst e5 e6 e7
        have HR := Lib.hid (show res = sames xo yo by rw [HS.out]; simp)
        have HA := al2 w (.cells #[.int .i64 xc, .bool xa, .bool xu, .bool xr, .slice a1 xo.length c1] 45) (.cells #[.int .i64 yc, .bool xa, .bool xu, .bool xr, .slice a2 yo.length c2] 45)
        have HB1 := Lib.hid (heap_alloc2_old w (.cells #[.int .i64 xc, .bool xa, .bool xu, .bool xr, .slice a1 xo.length c1] 45) (.cells #[.int .i64 yc, .bool xa, .bool xu, .bool xr, .slice a2 yo.length c2] 45))
        have HB2 := Lib.hid (heap_alloc2_new w (.cells #[.int .i64 xc, .bool xa, .bool xu, .bool xr, .slice a1 xo.length c1] 45) (.cells #[.int .i64 yc, .bool xa, .bool xu, .bool xr, .slice a2 yo.length c2] 45))
        have HA := Lib.hid HA
        clear HS
        generalize (w.alloc (.cells #[.int .i64 xc, .bool xa, .bool xu, .bool xr, .slice a1 xo.length c1] 45)).alloc (.cells #[.int .i64 yc, .bool xa, .bool xu, .bool xr, .slice a2 yo.length c2] 45) = w1 at *
        go_loopg [5] (xo.length + 1) (fun m i wr => ∃ k : Nat, k ≤ xo.length ∧ m = xo.length + 1 - k ∧ i = .int .i64 k ∧ Hid (Below w1.heap.size w1 wr) ∧ Hid (∀ j, j < k → xo.getD j none_ = yo.getD j none_))
        case atStart => exact ⟨0, Nat.zero_le _, rfl, rfl, Lib.hid (Below.refl _ _), Lib.hid nofun⟩
        case round =>
          obtain ⟨k, hk, rfl, rfl, HB, HE⟩ := hrel
          have ew : IntKind.i64.wrap ((k : Int) + 1) = (k : Int) + 1 := by
            have := HL.out
            rw [IntWalk.i64_in] <;> omega
          have cx := cell_of_row wr w.heap.size 4 _ _ (0, 0) (blk HB1.out HB.out)
          have cy := cell_of_row wr (w.heap.size + 1) 4 _ _ (0, 0) (blk HB2.out HB.out)
          simp only [show (#[Value.int .i64 xc, .bool xa, .bool xu, .bool xr, .slice a1 xo.length c1])[4]? = some (.slice a1 xo.length c1) from rfl] at cx
          simp only [show (#[Value.int .i64 yc, .bool xa, .bool xu, .bool xr, .slice a2 yo.length c2])[4]? = some (.slice a2 yo.length c2) from rfl] at cy
          have HAW := kept_hid HA HB.out
          by_cases hlt : k < xo.length
          · obtain ⟨pk, pt, pp, pn, ps, pm, pa, pc, ex⟩ := o_eta (xo.getD k none_)
            obtain ⟨qk, qt, qp, qn, qs, qm, qa, qc, ey⟩ := o_eta (yo.getD k none_)
            obtain ⟨b1, o1, t1, m1, q1, rfl, g0, g1, g2, g3, g4, g5, g6, g7, B1, _⟩ := (H1.out.below HAW.out).cells hlt ex
            obtain ⟨b2, o2, t2, m2, q2, rfl, f0, f1, f2, f3, f4, f5, f6, f7, B2, _⟩ := (H2.out.below HAW.out).cells (show k < yo.length by have := HLEN.out; omega) ey
            have hi0 : (0 : Int) ≤ (k : Int) := by omega
            have hi1 : (k : Int) < (xo.length : Int) := by omega
            have hi2 : (k : Int) < (yo.length : Int) := by have := HLEN.out; omega
            have sx := sound_at S1.out k
            have sy := sound_at S2.out k
            rw [ex] at sx
            rw [ey] at sy
            have HSM := fun W hb => rsame_any ⟨pk, pt, pp, pn, ps, pm, pa, pc⟩ ⟨qk, qt, qp, qn, qs, qm, qa, qc⟩ t1 m1 q1 t2 m2 q2 W (bytes_below B1 hb) (bytes_below B2 hb) sx.1 sy.1 sx.2.1
            have HSM := Lib.hid HSM
            clear sx sy B1 B2
            have KEEP := Lib.hid (fun (W : World) (hb : Below wr.heap.size wr W) => (show Below wr.heap.size wr W ∧ W.cell? ⟨w.heap.size, 4, none⟩ = some (.slice (some ⟨b1, o1, none⟩) xo.length c1) ∧ W.cell? ⟨w.heap.size + 1, 4, none⟩ = some (.slice (some ⟨b2, o2, none⟩) yo.length c2) ∧ W.cell? ⟨b1, o1 + k * 8, none⟩ = some (.int .i64 pk) ∧ W.cell? ⟨b1, o1 + k * 8 + 1, none⟩ = some (.slice t1 m1 q1) ∧ W.cell? ⟨b1, o1 + k * 8 + 2, none⟩ = some (.bool pp) ∧ W.cell? ⟨b1, o1 + k * 8 + 3, none⟩ = some (.bool pn) ∧ W.cell? ⟨b1, o1 + k * 8 + 4, none⟩ = some (.int .i64 ps) ∧ W.cell? ⟨b1, o1 + k * 8 + 5, none⟩ = some (.bool pm) ∧ W.cell? ⟨b1, o1 + k * 8 + 6, none⟩ = some (.int .i64 pa) ∧ W.cell? ⟨b1, o1 + k * 8 + 7, none⟩ = some (.int .u8 (pc : Int)) ∧ W.cell? ⟨b2, o2 + k * 8, none⟩ = some (.int .i64 qk) ∧ W.cell? ⟨b2, o2 + k * 8 + 1, none⟩ = some (.slice t2 m2 q2) ∧ W.cell? ⟨b2, o2 + k * 8 + 2, none⟩ = some (.bool qp) ∧ W.cell? ⟨b2, o2 + k * 8 + 3, none⟩ = some (.bool qn) ∧ W.cell? ⟨b2, o2 + k * 8 + 4, none⟩ = some (.int .i64 qs) ∧ W.cell? ⟨b2, o2 + k * 8 + 5, none⟩ = some (.bool qm) ∧ W.cell? ⟨b2, o2 + k * 8 + 6, none⟩ = some (.int .i64 qa) ∧ W.cell? ⟨b2, o2 + k * 8 + 7, none⟩ = some (.int .u8 (qc : Int)) from
              ⟨hb, (hb.cell (cell_lt cx)).trans cx, (hb.cell (cell_lt cy)).trans cy, (hb.cell (cell_lt g0)).trans g0, (hb.cell (cell_lt g1)).trans g1, (hb.cell (cell_lt g2)).trans g2, (hb.cell (cell_lt g3)).trans g3, (hb.cell (cell_lt g4)).trans g4, (hb.cell (cell_lt g5)).trans g5, (hb.cell (cell_lt g6)).trans g6, (hb.cell (cell_lt g7)).trans g7, (hb.cell (cell_lt f0)).trans f0, (hb.cell (cell_lt f1)).trans f1, (hb.cell (cell_lt f2)).trans f2, (hb.cell (cell_lt f3)).trans f3, (hb.cell (cell_lt f4)).trans f4, (hb.cell (cell_lt f5)).trans f5, (hb.cell (cell_lt f6)).trans f6, (hb.cell (cell_lt f7)).trans f7⟩))
            cases he : same ⟨pk, pt, pp, pn, ps, pm, pa, pc⟩ ⟨qk, qt, qp, qn, qs, qm, qa, qc⟩ with
            | true =>
              rw [he] at HSM
              go_wp2_with fail
              go_region_held3 (fun W => Below wr.heap.size wr W ∧ W.cell? ⟨w.heap.size, 4, none⟩ = some (.slice (some ⟨b1, o1, none⟩) xo.length c1) ∧ W.cell? ⟨w.heap.size + 1, 4, none⟩ = some (.slice (some ⟨b2, o2, none⟩) yo.length c2) ∧ W.cell? ⟨b1, o1 + k * 8, none⟩ = some (.int .i64 pk) ∧ W.cell? ⟨b1, o1 + k * 8 + 1, none⟩ = some (.slice t1 m1 q1) ∧ W.cell? ⟨b1, o1 + k * 8 + 2, none⟩ = some (.bool pp) ∧ W.cell? ⟨b1, o1 + k * 8 + 3, none⟩ = some (.bool pn) ∧ W.cell? ⟨b1, o1 + k * 8 + 4, none⟩ = some (.int .i64 ps) ∧ W.cell? ⟨b1, o1 + k * 8 + 5, none⟩ = some (.bool pm) ∧ W.cell? ⟨b1, o1 + k * 8 + 6, none⟩ = some (.int .i64 pa) ∧ W.cell? ⟨b1, o1 + k * 8 + 7, none⟩ = some (.int .u8 (pc : Int)) ∧ W.cell? ⟨b2, o2 + k * 8, none⟩ = some (.int .i64 qk) ∧ W.cell? ⟨b2, o2 + k * 8 + 1, none⟩ = some (.slice t2 m2 q2) ∧ W.cell? ⟨b2, o2 + k * 8 + 2, none⟩ = some (.bool qp) ∧ W.cell? ⟨b2, o2 + k * 8 + 3, none⟩ = some (.bool qn) ∧ W.cell? ⟨b2, o2 + k * 8 + 4, none⟩ = some (.int .i64 qs) ∧ W.cell? ⟨b2, o2 + k * 8 + 5, none⟩ = some (.bool qm) ∧ W.cell? ⟨b2, o2 + k * 8 + 6, none⟩ = some (.int .i64 qa) ∧ W.cell? ⟨b2, o2 + k * 8 + 7, none⟩ = some (.int .u8 (qc : Int)))
                  (first | exact KEEP.out _ (Below.refl _ _).drew | exact KEEP.out _ (Below.refl _ _) | exact KEEP.out _ (kept_trans (And.left (by assumption)) hb))
                  (first
                    | (go_at_call 33; with_reducible refine (HSM.out _ (And.left (by assumption))).mono ?_; rintro e wb ⟨rfl, hb⟩))
              have HS2 := And.left (by assumption : Below wr.heap.size wr _ ∧ _)
              have HK := kept_hid HB HS2
              clear HS2 hb HSM KEEP cx cy g0 g1 g2 g3 g4 g5 g6 g7 f0 f1 f2 f3 f4 f5 f6 f7
              go_wp2_with fail
              go_roundg (xo.length + 1 - (k + 1))
              case measure => omega
              case rel =>
                refine ⟨k + 1, by omega, rfl, rfl, HK, Lib.hid fun j hj => ?_⟩
                by_cases hjk : j = k
                · subst hjk; rw [ex, ey]; exact (same_iff _ _).1 he
                · exact HE.out j (by omega)
            | false =>
              rw [he] at HSM
              have HF := Lib.hid (show res = false by
                rw [HR.out, Bool.eq_false_iff]
                intro h
                have := (sames_iff _ _).1 h
                rw [← this, ex] at ey
                rw [ey, (same_iff _ _).2 rfl] at he
                cases he)
              go_wp2_with fail
              go_region_held3 (fun W => Below wr.heap.size wr W ∧ W.cell? ⟨w.heap.size, 4, none⟩ = some (.slice (some ⟨b1, o1, none⟩) xo.length c1) ∧ W.cell? ⟨w.heap.size + 1, 4, none⟩ = some (.slice (some ⟨b2, o2, none⟩) yo.length c2) ∧ W.cell? ⟨b1, o1 + k * 8, none⟩ = some (.int .i64 pk) ∧ W.cell? ⟨b1, o1 + k * 8 + 1, none⟩ = some (.slice t1 m1 q1) ∧ W.cell? ⟨b1, o1 + k * 8 + 2, none⟩ = some (.bool pp) ∧ W.cell? ⟨b1, o1 + k * 8 + 3, none⟩ = some (.bool pn) ∧ W.cell? ⟨b1, o1 + k * 8 + 4, none⟩ = some (.int .i64 ps) ∧ W.cell? ⟨b1, o1 + k * 8 + 5, none⟩ = some (.bool pm) ∧ W.cell? ⟨b1, o1 + k * 8 + 6, none⟩ = some (.int .i64 pa) ∧ W.cell? ⟨b1, o1 + k * 8 + 7, none⟩ = some (.int .u8 (pc : Int)) ∧ W.cell? ⟨b2, o2 + k * 8, none⟩ = some (.int .i64 qk) ∧ W.cell? ⟨b2, o2 + k * 8 + 1, none⟩ = some (.slice t2 m2 q2) ∧ W.cell? ⟨b2, o2 + k * 8 + 2, none⟩ = some (.bool qp) ∧ W.cell? ⟨b2, o2 + k * 8 + 3, none⟩ = some (.bool qn) ∧ W.cell? ⟨b2, o2 + k * 8 + 4, none⟩ = some (.int .i64 qs) ∧ W.cell? ⟨b2, o2 + k * 8 + 5, none⟩ = some (.bool qm) ∧ W.cell? ⟨b2, o2 + k * 8 + 6, none⟩ = some (.int .i64 qa) ∧ W.cell? ⟨b2, o2 + k * 8 + 7, none⟩ = some (.int .u8 (qc : Int)))
                  (first | exact KEEP.out _ (Below.refl _ _).drew | exact KEEP.out _ (Below.refl _ _) | exact KEEP.out _ (kept_trans (And.left (by assumption)) hb))
                  (first
                    | (go_at_call 33; with_reducible refine (HSM.out _ (And.left (by assumption))).mono ?_; rintro e wb ⟨rfl, hb⟩))
              have HS2 := And.left (by assumption : Below wr.heap.size wr _ ∧ _)
              have HK := kept_hid HA (kept_trans HB.out HS2)
              clear HS2 hb HSM KEEP cx cy g0 g1 g2 g3 g4 g5 g6 g7 f0 f1 f2 f3 f4 f5 f6 f7
              go_wp2_with fail
              go_ret
              exact ⟨by rw [HF.out]; rfl, HK.out⟩
          · obtain rfl : k = xo.length := by omega
            have HT := Lib.hid (show res = true by rw [HR.out]; exact (sames_iff _ _).2 (getD_ext HLEN.out HE.out))
            clear hlt
            have hn0 : ¬ (xo.length : Int) < (xo.length : Int) := by omega
            go_wp2_with fail
            go_ret
            exact ⟨by rw [HT.out]; rfl, HAW.out⟩
      all_goals
        go_ret
        refine ⟨?_, al2 ..⟩
        have hr := HS.out
        clear HS H1 H2 S1 S2 HL
        simp_all
  · have hq : ((xo.length : Int) != (yo.length : Int)) = true := by simp; omega
    have HF := Lib.hid (show res = false by
      rw [HS.out, Bool.eq_false_iff]
      intro h
      simp only [Bool.and_eq_true] at h
      exact hlen (by rw [(sames_iff _ _).1 h.2.2]))
    clear HS H1 H2 S1 S2 HL hlen
    generalize e0 : (xc == yc) = b0
    cases b0 with
    | false =>
      have e1 : (xc != yc) = true := by simp only [bne, e0]; rfl
      go_enter Tryd.func14, Tryd.ntmps14
      go_wp2_with fail
      go_ret
      exact ⟨by rw [HF.out]; rfl, al2 ..⟩
    | true =>
      have e1 : (xc != yc) = false := by simp only [bne, e0]; rfl
      go_enter Tryd.func14, Tryd.ntmps14
      go_wp2_with fail
      all_goals
        go_ret
        exact ⟨by rw [HF.out]; rfl, al2 ..⟩
end Str
end Go.Proofs.YtpdlpmbjhopnnaaDoor
